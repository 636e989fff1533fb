/- How a walk along a log lies in memory; its small functions walked: is a number one of a list, is a segment one of the house, does a head follow. -/
import Derived.Test.YtaiebhkjkeadoaaRollPlain
import Derived.Test.YtaiebhkjkeadoaaLogGround
import Derived.Test.YtaiebhkjkeadoaaHeadCode
import Derived.Deep.RegionHeld3
import Derived.Deep.QuietTactic
import Derived.BigQuiet
import Derived.BigRegion
namespace Go.Proofs.Ytaiebhkjkeadoaa
open Go.RowKit Lo Hdp Rol

theorem rohid {P : Prop} (h : P) : Hid P := h

theorem roBool {a b : Bool} (h : a = b) : Ending.returned (.bool a) = .returned (.bool b) := by rw [h]

/-- A walk's cells. -/
abbrev wkC (b : Nat) (S G : Int) (L : Lg) (v : Value) : Array Value :=
  #[.pointer (some ⟨b, 0, none⟩), .int .i64 S, .int .i64 G, .int .i64 L.house, .int .i64 L.gen, v, .int .i64 L.num, .int .i64 L.life, .int .i64 L.clock, .int .i64 L.seg, .int .i64 L.pos, .int .i64 L.next, .int .i64 L.seq, .int .i64 L.m0, .int .i64 L.m1, .int .i64 L.m2, .int .i64 L.m3, .int .i64 L.sb, .int .i64 L.sn]

set_option maxHeartbeats 1000000 in
theorem index_t (v : Value) (l : List Int) (x : Int) (w : World) (h : Ints w v l) (hl : l.length ≤ 100000) :
    Calls Try.prog 80 #[v, .int .i64 x] w fun e w' => ∃ n : Int, e = .returned (.int .i64 n) ∧ (0 ≤ n ↔ x ∈ l) ∧ w = w' := by
  obtain ⟨ad, cap, rfl, hn, hlc, hc⟩ := h
  have HC := rohid hc
  clear hc hn hlc
  go_enter Try.func80, Try.ntmps80
  go_wp2_with fail
  go_loopw [8] (fun c wr => ∃ k : Nat, k ≤ l.length ∧ c = .int .i64 k ∧ Hid (∀ j (hj : j < l.length), j < k → l[j] ≠ x) ∧ w = wr) (fun c _ => l.length - (intOf c).toNat)
  case atStart => exact ⟨0, Nat.zero_le _, rfl, (fun j _ h => absurd h (Nat.not_lt_zero _)), rfl⟩
  case round =>
    obtain ⟨k, hk, rfl, HK, rfl⟩ := hrel
    by_cases hlt : k < l.length
    · obtain ⟨b, off, rfl, hb, hi⟩ := HC.out (by omega)
      have hck := hi k hlt
      have HE : Hid (l[k] = l[k]) := rfl
      have HM : Hid (l[k] ∈ l) := List.getElem_mem hlt
      have HNX : Hid (l[k] ≠ x → ∀ j (hj : j < l.length), j < k + 1 → l[j] ≠ x) := fun hne j hj hjk => by
        by_cases e : j = k
        · subst e; exact hne
        · exact HK.out j hj (by omega)
      clear hi HC HK HE
      generalize l[k] = y at *
      by_cases e : x = y
      · subst e
        clear HNX
        go_wp2_with fail
        go_ret
        exact ⟨_, rfl, ⟨fun _ => HM.out, fun _ => by omega⟩, rfl⟩
      · have hxy : (x == y) = false := by simp [e]
        go_wp2_with fail
        exact ⟨⟨k + 1, by omega, by go_num, HNX.out (fun h => e h.symm), trivial⟩, by simp [intOf]; omega⟩
    · go_wp2_with fail
      go_ret
      refine ⟨_, rfl, ⟨fun h => absurd h (by decide), fun h => ?_⟩, rfl⟩
      obtain ⟨j, hj, hjx⟩ := List.mem_iff_getElem.1 h
      exact absurd hjx (HK.out j hj (by omega))

theorem contains_t (v : Value) (l : List Int) (x : Int) (w : World) (h : Ints w v l) (hl : l.length ≤ 100000) :
    Calls Try.prog 72 #[v, .int .i64 x] w fun e w' => e = .returned (.bool (l.contains x)) ∧ w = w' := by
  have IX := rohid (index_t v l x w h hl)
  have HB : Hid (∀ n : Int, (0 ≤ n ↔ x ∈ l) → decide (0 ≤ n) = l.contains x) := fun n hn => by
    rw [List.contains_eq_mem]
    exact decide_eq_decide.2 hn
  clear h
  go_enter Try.func72, Try.ntmps72
  go_wp2_with fail
  refine IX.out.mono ?_
  rintro e w' ⟨n, rfl, hn, rfl⟩
  have hB := rohid (HB.out n hn)
  clear hn HB
  go_wp2_with fail
  go_ret
  exact ⟨roBool hB.out, rfl⟩

set_option maxRecDepth 10000 in
set_option maxHeartbeats 1000000 in
theorem rhas_t (wb b n : Nat) (S G : Int) (L : Lg) (v : Value) (segs : List Int) (seg : Int) (t : TypeId) (w : World) (h : w.heap[wb]? = some (.cells (wkC b S G L v) t (0, 0))) (hI : Ints w v segs) (hl : segs.length ≤ 100000) (hS : SegsSaid S G n) :
    Calls Try.prog 71 #[.pointer (some ⟨wb, 0, none⟩), .int .i64 seg] w fun e w' => e = .returned (.bool (inS n segs seg)) ∧ Below w.heap.size w w' := by
  have CT := rohid (contains_t v segs seg w hI hl)
  have SG := rohid hS
  have hlt : wb < w.heap.size := (Array.getElem?_eq_some_iff.1 h).1
  have c1 : w.cell? ⟨wb, 1, none⟩ = some (.int .i64 S) := (cell_of_row _ _ _ _ _ _ h).trans rfl
  have c2 : w.cell? ⟨wb, 2, none⟩ = some (.int .i64 G) := (cell_of_row _ _ _ _ _ _ h).trans rfl
  have c5 : w.cell? ⟨wb, 5, none⟩ = some v := (cell_of_row _ _ _ _ _ _ h).trans rfl
  obtain ⟨ad, cap, rfl, -⟩ := hI
  have HIN : Hid (inS n segs seg = (segs.contains seg && (decide (0 ≤ seg) && decide (seg < n)))) := rfl
  clear h hS
  generalize inS n segs seg = B at *
  generalize segs.contains seg = C at *
  cases C with
  | false =>
    go_enter Try.func71, Try.ntmps71
    go_wp2_with fail
    refine CT.out.mono ?_
    rintro e w' ⟨rfl, rfl⟩
    go_wp2_with fail
    go_ret
    exact ⟨roBool HIN.out.symm, Below.refl _ _⟩
  | true =>
    rcases Int.lt_or_le seg 0 with h0 | h0
    · go_enter Try.func71, Try.ntmps71
      go_wp2_with fail
      refine CT.out.mono ?_
      rintro e w' ⟨rfl, rfl⟩
      go_wp2_with fail
      go_ret
      exact ⟨roBool (by rw [HIN.out, decide_eq_false (by omega)]; rfl), Below.refl _ _⟩
    · go_enter Try.func71, Try.ntmps71
      go_wp2_with fail
      refine CT.out.mono ?_
      rintro e w' ⟨rfl, rfl⟩
      go_wp2_with fail
      refine (SG.out _).mono ?_
      rintro e w' ⟨rfl, hb⟩
      have HB := rohid hb
      clear hb
      go_wp2_with fail
      go_ret
      exact ⟨roBool (by rw [HIN.out, decide_eq_true h0, Bool.true_and, Bool.true_and]), HB.out⟩

set_option maxRecDepth 10000 in
set_option maxHeartbeats 4000000 in
theorem follows_t (wb b : Nat) (S G : Int) (L : Lg) (v : Value) (segs : List Int) (x : Hd) (hv : Value) (t : TypeId) (w : World) (h : w.heap[wb]? = some (.cells (wkC b S G L v) t (0, 0))) (hI : Ints w v segs) (hl : segs.length ≤ 100000) :
    Calls Try.prog 54 #[.pointer (some ⟨wb, 0, none⟩), headV x hv] w fun e w' => e = .returned (.bool (folB segs L x)) ∧ Below w.heap.size w w' := by
  have hlt : wb < w.heap.size := (Array.getElem?_eq_some_iff.1 h).1
  have HI := rohid hI
  obtain ⟨ad, cap, rfl, -⟩ := hI
  obtain ⟨house, gen, num, life, clock, seg, pos, next, seq, m0, m1, m2, m3, sb, sn, fl⟩ := L
  obtain ⟨xh, xg, xl, xs, xn, xc, xb, xm, xe⟩ := x
  have HFB : Hid (folB segs ⟨house, gen, num, life, clock, seg, pos, next, seq, m0, m1, m2, m3, sb, sn, fl⟩ ⟨xh, xg, xl, xs, xn, xc, xb, xm, xe⟩ = (decide (xh = house) && (decide (xg = gen) && (decide (xl = life) && (decide (xs = seq) && segs.contains xn))))) := rfl
  generalize folB segs _ _ = B at *
  have HR := rohid h
  clear h
  go_enter Try.func54, Try.ntmps54
  go_wp2_with fail
  generalize hW : World.alloc w _ = W
  have HB : Hid (Below w.heap.size w W) := by rw [← hW]; exact (Below.refl _ w).alloc (Nat.le_refl _) _
  have HX : W.heap[w.heap.size]? = some (.cells #[.int .i64 xh, .int .i64 xg, .int .i64 xl, .int .i64 xs, .int .i64 xn, .int .i64 xc, .int .i64 xb, .int .i64 xm, hv] 43 (0, 0)) := by rw [← hW]; exact heap_alloc_new _ _
  have HRW := row_on HR.out HB.out
  have x0 : W.cell? ⟨w.heap.size, 0, none⟩ = some (.int .i64 xh) := (cell_of_row _ _ _ _ _ _ HX).trans rfl
  have x1 : W.cell? ⟨w.heap.size, 1, none⟩ = some (.int .i64 xg) := (cell_of_row _ _ _ _ _ _ HX).trans rfl
  have x2 : W.cell? ⟨w.heap.size, 2, none⟩ = some (.int .i64 xl) := (cell_of_row _ _ _ _ _ _ HX).trans rfl
  have x3 : W.cell? ⟨w.heap.size, 3, none⟩ = some (.int .i64 xs) := (cell_of_row _ _ _ _ _ _ HX).trans rfl
  have x4 : W.cell? ⟨w.heap.size, 4, none⟩ = some (.int .i64 xn) := (cell_of_row _ _ _ _ _ _ HX).trans rfl
  have c3 : W.cell? ⟨wb, 3, none⟩ = some (.int .i64 house) := (cell_of_row _ _ _ _ _ _ HRW).trans rfl
  have c4 : W.cell? ⟨wb, 4, none⟩ = some (.int .i64 gen) := (cell_of_row _ _ _ _ _ _ HRW).trans rfl
  have c5 : W.cell? ⟨wb, 5, none⟩ = some (.slice ad segs.length cap) := (cell_of_row _ _ _ _ _ _ HRW).trans rfl
  have c7 : W.cell? ⟨wb, 7, none⟩ = some (.int .i64 life) := (cell_of_row _ _ _ _ _ _ HRW).trans rfl
  have c12 : W.cell? ⟨wb, 12, none⟩ = some (.int .i64 seq) := (cell_of_row _ _ _ _ _ _ HRW).trans rfl
  have CT : Hid (∀ n, Calls Try.prog 72 #[.slice ad segs.length cap, .int .i64 xn] (W.drewN n) fun e w' => e = .returned (.bool (segs.contains xn)) ∧ W.drewN n = w') := fun n => contains_t _ _ _ _ ((HI.out.on HB.out).on ⟨rfl, rfl, rfl, Nat.le_refl _, fun _ _ => rfl⟩) hl
  clear hW HX HRW HR HI
  generalize segs.contains xn = C at *
  by_cases e1 : xh = house
  · subst e1
    by_cases e2 : xg = gen
    · subst e2
      by_cases e3 : xl = life
      · subst e3
        by_cases e4 : xs = seq
        · subst e4
          go_quiet (refine Calls.quiet_of_same ((CT.out _).mono fun _ _ h => ⟨h.1, h.2.symm⟩))
          go_wp2_with fail
          go_ret
          exact ⟨roBool (by rw [HFB.out]; simp), HB.out.trans ⟨rfl, rfl, rfl, Nat.le_refl _, fun _ _ => rfl⟩⟩
        · have q4 : (xs == seq) = false := by simp [e4]
          go_quiet (fail)
          go_wp2_with fail
          go_ret
          exact ⟨roBool (by rw [HFB.out]; simp [e4]), HB.out.trans ⟨rfl, rfl, rfl, Nat.le_refl _, fun _ _ => rfl⟩⟩
      · have q3 : (xl == life) = false := by simp [e3]
        go_quiet (fail)
        go_wp2_with fail
        go_ret
        exact ⟨roBool (by rw [HFB.out]; simp [e3]), HB.out.trans ⟨rfl, rfl, rfl, Nat.le_refl _, fun _ _ => rfl⟩⟩
    · have q2 : (xg == gen) = false := by simp [e2]
      go_quiet (fail)
      go_wp2_with fail
      go_ret
      exact ⟨roBool (by rw [HFB.out]; simp [e2]), HB.out.trans ⟨rfl, rfl, rfl, Nat.le_refl _, fun _ _ => rfl⟩⟩
  · have q1 : (xh == house) = false := by simp [e1]
    go_quiet (fail)
    go_wp2_with fail
    go_ret
    exact ⟨roBool (by rw [HFB.out]; simp [e1]), HB.out.trans ⟨rfl, rfl, rfl, Nat.le_refl _, fun _ _ => rfl⟩⟩
end Go.Proofs.Ytaiebhkjkeadoaa
