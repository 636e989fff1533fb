/- New, Place, Free of a log walked; a list copied. -/
import Derived.Test.YtaiebhkjkeadoaaLogAt
import Derived.Deep.RegionWith
namespace Go.Proofs.Ytaiebhkjkeadoaa
open Go.RowKit Lo Hdp

theorem Try.geomSize : (Try.prog.info? 37).map (·.size) = some 2 := by kernel_rfl

theorem IOwn.kept {w w' : World} {base : Nat} {v : Value} {l : List Int} {row : Option Nat} (h : IOwn w base v l) (hg : w.grownBy w' row) (hne : v.ownBlock = none ∨ v.ownBlock ≠ row) : IOwn w' base v l := World.ownsRow.kept h hg hne
/-- A row of one's own is free memory. -/
theorem IOwn.free {w : World} {base : Nat} {v : Value} {l : List Int} {P : Nat → Prop} (h : IOwn w base v l) (hP : ∀ k, v.ownBlock = some k → base ≤ k → k < w.heap.size → P k) : FreeAt w P v l := by
  rcases h.2 with ⟨rfl, h0⟩ | ⟨g, cap, cur, rfl, hbg, hg, hle, hmx, hcs, htk⟩
  · exact ⟨none, 0, by rw [h0], by omega, by omega, fun h => absurd h (by omega)⟩
  · refine ⟨some ⟨g, 0, none⟩, cap, rfl, hle, hmx, fun _ => ⟨g, 0, cur, rfl, hP g rfl hbg (Array.getElem?_eq_some_iff.1 hg).1, hg, by omega, fun j hj => ?_⟩⟩
    rw [Nat.zero_add, ← icells_get l j hj, ← htk, Nat.mul_one, List.getElem?_take_of_lt hj, Array.getElem?_toList]
theorem FreeAt.nums {w : World} {P : Nat → Prop} {v : Value} {l : List Int} (h : FreeAt w P v l) : Ints w v l := by
  obtain ⟨ad, cap, rfl, h1, h2, hc⟩ := h
  refine ⟨ad, cap, rfl, fun e => ?_, h1, fun h0 => ?_⟩
  · rcases Nat.eq_zero_or_pos cap with h3 | h3
    · exact h3
    · obtain ⟨b, off, cur, ha, _⟩ := hc h3
      rw [e] at ha; cases ha
  · obtain ⟨b, off, cur, ha, hp, hg, hs, hr⟩ := hc (by omega)
    exact ⟨b, off, ha, (Array.getElem?_eq_some_iff.1 hg).1, fun i h => by rw [cell_of_row w b _ cur 3 _ hg]; exact hr i h⟩

theorem nil_is (w : World) : (binOp .eql 22 (.slice none 0 0) (.slice none 0 0)).run Try.prog w = .ok (.bool true) w := by kernel_rfl
theorem nil_not (a : Addr) (n cap : Nat) (w : World) : (binOp .eql 22 (.slice (some a) n cap) (.slice none 0 0)).run Try.prog w = .ok (.bool false) w := by kernel_rfl

set_option maxRecDepth 20000 in
set_option maxHeartbeats 1000000 in
theorem sclone_t (v : Value) (l : List Int) (w : World) (h : Ints w v l) (hl : l.length ≤ 100000) :
    Calls Try.prog 29 #[v] w fun e w' => ∃ v', e = .returned v' ∧ IOwn w' w.heap.size v' l ∧ Below w.heap.size w w' := by
  have HI := lohid h
  obtain ⟨ad, cap, rfl, hn, hlc, hc⟩ := h
  cases ad with
  | none =>
    have h0 := hn rfl
    subst h0
    have hl0 : l = [] := List.eq_nil_of_length_eq_zero (by omega)
    subst hl0
    clear hn hlc hc HI
    have hnil := nil_is
    go_enter Try.func29, Try.ntmps29
    go_wp2_with fail
    go_ret
    exact ⟨_, rfl, IOwn.nil _ _, Below.refl _ _⟩
  | some a =>
    clear hn hlc hc
    have hnil := nil_not a l.length cap
    go_enter Try.func29, Try.ntmps29
    go_wp2_with (first
      | (refine wpList_append_ints rfl _ _ rfl w.heap.size _ [] rfl ?c1 _ l rfl (HI.out.on ?c2) ?c3 ?c4 ?_)
      | fail)
    case c1 => exact World.ownsRow_made w _ 0 (Nat.le_refl _) (by decide) rfl
    case c2 => exact (Below.refl _ _).alloc (Nat.le_refl _) _
    case c3 => simp; omega
    case c4 => simp
    intro v2 w2 hO hb hle
    have HO := lohid hO
    have HB : Hid (Below w.heap.size w w2) := ((Below.refl _ w).alloc (Nat.le_refl _) _).trans hb
    clear hO hb hle HI
    go_wp2_with fail
    go_ret
    exact ⟨_, rfl, HO.out, HB.out⟩

/-- A small disk's geometry. -/
theorem geom_t (n : Nat) (w : World) (hn : n ≤ 1000) :
    Calls Try.prog 14 #[.int .i64 n] w fun e w' => e = .returned (geomV (48 + 32 * (n : Int)) 32) ∧ Below w.heap.size w w' := by
  go_enter Try.func14, Try.ntmps14
  go_wp2_with fail
  refine bodyPost_ret (v := geomV (48 + 32 * (n : Int)) 32) (results_cell_row Try.results14 _ _ w.heap.size 37 #[.int .i64 (48 + 32 * (n : Int)), .int .i64 32] (0, 0) _ rfl (heap_alloc_new _ _) Try.underlying37 rfl Try.geomSize) rfl ⟨rfl, (Below.refl _ w).alloc (Nat.le_refl _) _⟩

set_option maxRecDepth 10000 in
set_option maxHeartbeats 4000000 in
theorem new_t14 (b : Nat) (S G : Int) (L : Lg) (v : Value) (w : World) (hI : Ints w v L.free) (hl : L.free.length ≤ 100000) :
    Calls Try.prog 19 #[.pointer (some ⟨b, 0, none⟩), geomV S G, .int .i64 L.house, .int .i64 L.gen, plV L, v] w fun e w' => ∃ lb v', e = .returned (.pointer (some ⟨lb, 0, none⟩)) ∧ w'.heap[lb]? = some (.cells (lgC b S G L v') 78 (0, 0)) ∧ IOwn w' w.heap.size v' L.free ∧ (∀ k, v'.ownBlock = some k → k < lb) ∧ w.heap.size ≤ lb ∧ Below w.heap.size w w' := by
  have CL := lohid (fun w1 (hb : Below w.heap.size w w1) => sclone_t v L.free w1 (hI.on hb) hl)
  obtain ⟨ad, cap, rfl, -⟩ := hI
  obtain ⟨house, gen, num, life, clock, seg, pos, next, seq, m0, m1, m2, m3, sb, sn, fl⟩ := L
  dsimp only at CL hl
  dsimp only [plV, plC]
  obtain ⟨n, hnn⟩ : ∃ n, fl.length = n := ⟨_, rfl⟩
  rw [hnn] at CL ⊢
  have HNN := lohid hnn
  clear hl hnn
  go_enter Try.func19, Try.ntmps19
  go_wp2_with fail
  generalize hW : World.alloc (World.alloc w _) _ = W
  have R0 : Hid (W.heap[w.heap.size]? = some (.cells #[.int .i64 S, .int .i64 G] 37 (0, 0))) := by rw [← hW]; exact heap_alloc2_old _ _ _
  have R1 : Hid (W.heap[w.heap.size + 1]? = some (.cells #[.int .i64 num, .int .i64 life, .int .i64 clock, .int .i64 seg, .int .i64 pos, .int .i64 next, .int .i64 seq, .int .i64 m0, .int .i64 m1, .int .i64 m2, .int .i64 m3, .int .i64 sb, .int .i64 sn] 29 (0, 0))) := by rw [← hW]; exact heap_alloc2_new _ _ _
  have HB : Hid (Below w.heap.size w W) := by rw [← hW]; exact ((Below.refl _ w).alloc (Nat.le_refl _) _).alloc (by simp) _
  clear hW
  have p0 : W.cell? ⟨w.heap.size, 0, none⟩ = some (.int .i64 S) := (cell_of_row _ _ _ _ _ _ R0.out).trans rfl
  have p1 : W.cell? ⟨w.heap.size, 1, none⟩ = some (.int .i64 G) := (cell_of_row _ _ _ _ _ _ R0.out).trans rfl
  obtain ⟨q0, q1, q2, q3, q4, q5, q6, q7, q8, q9, q10, q11, q12⟩ := cells13 R1.out
  go_region_held3 (fun w' => w'.cell? ⟨w.heap.size, 0, none⟩ = some (.int .i64 S) ∧ w'.cell? ⟨w.heap.size, 1, none⟩ = some (.int .i64 G) ∧
      w'.cell? ⟨w.heap.size + 1, 0, none⟩ = some (.int .i64 num) ∧ w'.cell? ⟨w.heap.size + 1, 1, none⟩ = some (.int .i64 life) ∧ w'.cell? ⟨w.heap.size + 1, 2, none⟩ = some (.int .i64 clock) ∧ w'.cell? ⟨w.heap.size + 1, 3, none⟩ = some (.int .i64 seg) ∧ w'.cell? ⟨w.heap.size + 1, 4, none⟩ = some (.int .i64 pos) ∧ w'.cell? ⟨w.heap.size + 1, 5, none⟩ = some (.int .i64 next) ∧ w'.cell? ⟨w.heap.size + 1, 6, none⟩ = some (.int .i64 seq) ∧ w'.cell? ⟨w.heap.size + 1, 7, none⟩ = some (.int .i64 m0) ∧ w'.cell? ⟨w.heap.size + 1, 8, none⟩ = some (.int .i64 m1) ∧ w'.cell? ⟨w.heap.size + 1, 9, none⟩ = some (.int .i64 m2) ∧ w'.cell? ⟨w.heap.size + 1, 10, none⟩ = some (.int .i64 m3) ∧ w'.cell? ⟨w.heap.size + 1, 11, none⟩ = some (.int .i64 sb) ∧ w'.cell? ⟨w.heap.size + 1, 12, none⟩ = some (.int .i64 sn)) (go_keep)
    (first
      | (go_at_call 29; refine (CL.out _ (by first | exact ⟨HB.out.os, HB.out.tape, HB.out.output, HB.out.size, HB.out.block⟩ | exact HB.out)).mono ?_; rintro e w1 ⟨v1, rfl, hO1, hb1⟩
         have hb1 := lo_undrew hb1
         have HB1 := lohid hb1
         have HO1 := lohid hO1
         have p0 : w1.cell? ⟨w.heap.size, 0, none⟩ = some (.int .i64 S) := (cell_of_row _ _ _ _ _ _ (row_on R0.out hb1)).trans rfl
         have p1 : w1.cell? ⟨w.heap.size, 1, none⟩ = some (.int .i64 G) := (cell_of_row _ _ _ _ _ _ (row_on R0.out hb1)).trans rfl
         obtain ⟨q0, q1, q2, q3, q4, q5, q6, q7, q8, q9, q10, q11, q12⟩ := cells13 (row_on R1.out hb1)
         obtain ⟨ad1, cap1, rfl⟩ := hO1.slice
         clear hO1 hb1))
  go_wp2_with fail
  go_ret
  have hO2 := HO1.out
  rw [HNN.out] at hO2 ⊢
  refine ⟨w1.heap.size, .slice ad1 n cap1, rfl, heap_alloc_new _ _, ?_, fun q e => ?_, Nat.le_trans HB.out.size HB1.out.size, (HB.out.trans (HB1.out.mono HB.out.size)).alloc (Nat.le_trans HB.out.size HB1.out.size) _⟩
  · exact (hO2.on ((Below.refl _ _).alloc (Nat.le_refl _) _)).low HB.out.size
  · exact (hO2.lt _ e).2
end Go.Proofs.Ytaiebhkjkeadoaa
