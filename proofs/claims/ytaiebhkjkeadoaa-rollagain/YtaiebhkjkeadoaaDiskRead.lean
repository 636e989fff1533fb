/- Read: what the write to a sector says that came last of those that wait, else what is durable. -/
import Derived.Test.YtaiebhkjkeadoaaDiskDurable
import Derived.Test.YtaiebhkjkeadoaaDiskMeth
namespace Go.Proofs.Ytaiebhkjkeadoaa
open Go.RowKit

def noWr : Wr := ⟨0, 0, ⟨#[]⟩⟩
/-- The better one of two writes, of those to sector i. -/
def pick1 (i : Nat) (b x : Wr) : Wr := if x.pos = i ∧ b.order < x.order then x else b
def pickL (i : Nat) (b : Wr) (L : List Wr) : Wr := L.foldl (pick1 i) b
/-- The newest one to sector i of the first k owners. -/
def newestTo (i : Nat) (waits : Nat → List Wr) (k : Nat) : Wr := (List.range k).foldl (fun b o => pickL i b (waits o)) noWr

theorem newestTo_succ (i : Nat) (waits : Nat → List Wr) (k : Nat) : newestTo i waits (k + 1) = pickL i (newestTo i waits k) (waits k) := by
  simp [newestTo, List.range_succ]
theorem pickL_take (i : Nat) (b : Wr) (L : List Wr) (k : Nat) (h : k < L.length) : pickL i b (L.take (k + 1)) = pick1 i (pickL i b (L.take k)) L[k] := by
  unfold pickL
  rw [List.take_succ_eq_append_getElem h, List.foldl_append]
  rfl

theorem store_past {w : World} {B k j : Nat} {u v : Value} {o1 : Obj} (hl : B < w.heap.size) (hkj : k ≠ j) (hc : (w.alloc o1).cell? ⟨B, j, none⟩ = some v) (hf : (w.alloc o1).frozen? ⟨B, j, none⟩ = false) :
    ((w.setCell ⟨B, k, none⟩ u).alloc o1).cell? ⟨B, j, none⟩ = some v ∧ ((w.setCell ⟨B, k, none⟩ u).alloc o1).frozen? ⟨B, j, none⟩ = false := by
  have hl' : B < (w.setCell ⟨B, k, none⟩ u).heap.size := by simpa [World.setCell] using hl
  rw [World.cell?_alloc_lt _ _ _ hl] at hc
  rw [World.frozen?_alloc_past _ _ _ hl] at hf
  refine ⟨?_, ?_⟩
  · rw [World.cell?_alloc_lt _ _ _ hl', World.cell?_setCell_other _ _ _ _ (fun e => hkj (by simp only [Addr.mk.injEq] at e; exact e.2.1))]; exact hc
  · rw [World.frozen?_alloc_past _ _ _ hl', World.frozen?_setCell]; exact hf
theorem store_past2 {w : World} {B : Nat} {u u' v : Value} {o1 : Obj} (hl : B < w.heap.size) (hc : (w.alloc o1).cell? ⟨B, 2, none⟩ = some v) (hf : (w.alloc o1).frozen? ⟨B, 2, none⟩ = false) :
    (((w.setCell ⟨B, 0, none⟩ u).setCell ⟨B, 1, none⟩ u').alloc o1).cell? ⟨B, 2, none⟩ = some v ∧ (((w.setCell ⟨B, 0, none⟩ u).setCell ⟨B, 1, none⟩ u').alloc o1).frozen? ⟨B, 2, none⟩ = false := by
  have h1 := store_past (u := u) (k := 0) hl (by omega) hc hf
  exact store_past (by simpa [World.setCell] using hl) (by omega) h1.1 h1.2

set_option maxHeartbeats 1000000 in
theorem newest_t {w : World} {b gd : Nat} {S : St} {V : Nat → Value} (h : Disk w b S gd V) (i : Nat) (_hi : i < 16384) :
    Calls Try.prog 24 #[.pointer (some ⟨b, 0, none⟩), .int .i64 i] w fun e w' => e = .returned (.agg (newestTo i S.waits 17).cells.toArray) ∧ Below w.heap.size w w' := by
  have hbl := h.hd.lt
  have H := dkhid h
  obtain ⟨B, hB⟩ : ∃ B, B = w.heap.size := ⟨_, rfl⟩
  have HB := dkhid hB
  clear h hB
  go_enter Try.func24, Try.ntmps24
  go_wp2
  go_loopw [9] (fun c wr => ∃ k : Nat, k ≤ 17 ∧ c = .int .i64 k ∧ Hid (wr.heap[w.heap.size]? = some (.cells #[.int .i64 0, .int .i64 0, .string ⟨#[]⟩] 71 (0, 0))) ∧
      Hid (wr.heap[w.heap.size + 1]? = some (.cells (newestTo i S.waits k).cells.toArray 71 (0, 0))) ∧ Below w.heap.size w wr) (fun c _ => 17 - (intOf c).toNat)
  case atStart => exact ⟨0, by omega, rfl, heap_alloc2_old _ _ _, heap_alloc2_new _ _ _, ((Below.refl _ w).alloc (Nat.le_refl _) _).alloc (by simp) _⟩
  case round =>
    obtain ⟨k, hk, rfl, h0, h1, hb⟩ := hrel
    by_cases hlt : k < 17
    · have cV : wr.cell? ⟨b, 1 + k, none⟩ = some (V k) := by rw [hb.cell (by exact hbl)]; exact H.out.hd.cV k hlt
      rcases (H.out.row k hlt).2 with ⟨hv, hn⟩ | ⟨g, cap, cur, hv, _, hg, _⟩
      · rw [hv] at cV
        have hL : S.waits k = [] := List.eq_nil_of_length_eq_zero hn
        have hnew : Hid (newestTo i S.waits (k + 1) = newestTo i S.waits k) := by
          have := newestTo_succ i S.waits k
          rw [hL] at this; exact this
        clear hv hn hL
        go_wp2
        refine wp_loop_rounds 1 ?_
        rw [rounds_succ]
        go_wp2
        refine ⟨⟨k + 1, by omega, by go_num, h0, ?_, hb⟩, by simp [intOf]; omega⟩
        rw [hnew.out]; exact h1
      · rw [hv] at cV
        have hrow := H.out.row k hlt
        rw [hv] at hrow
        have hmany := H.out.ok.many k hlt
        have hw2 := H.out.ok.w2
        have heach := dkhid (H.out.ok.each k hlt)
        have hnew := dkhid (newestTo_succ i S.waits k)
        generalize hLe : S.waits k = L at *
        have HLe := dkhid hLe
        clear hLe hv
        have Hrow := dkhid hrow
        have hgl : g < w.heap.size := (hrow.lt g rfl).2
        clear hrow hg
        generalize hbe : newestTo i S.waits k = b0 at *
        have Hbe := dkhid hbe
        clear hbe
        go_wp2
        go_loopw [19] (fun c ws => ∃ m : Nat, m ≤ L.length ∧ c = .int .i64 m ∧ Hid (ws.heap[w.heap.size]? = some (.cells #[.int .i64 0, .int .i64 0, .string ⟨#[]⟩] 71 (0, 0))) ∧
          Hid (ws.heap[w.heap.size + 1]? = some (.cells (pickL i b0 (L.take m)).cells.toArray 71 (0, 0))) ∧ Below w.heap.size w ws) (fun c _ => L.length - (intOf c).toNat)
        case atStart => exact ⟨0, by omega, rfl, h0, h1, hb⟩
        case round =>
          obtain ⟨m, hm, rfl, p0, p1, pb⟩ := hrel
          by_cases hml : m < L.length
          · obtain ⟨x, hx⟩ : ∃ x, L[m] = x := ⟨_, rfl⟩
            have hrw : wr.ownsRow 0 71 3 (.slice (some ⟨g, 0, none⟩) L.length cap) L.length (wcells L) := owns_of_block Hrow.out (fun q hq => pb.block q (by simp [Value.ownBlock] at hq; omega))
            have k0 : wr.cell? ⟨g, m * 3, none⟩ = some (.int .i64 x.order) := by
              rw [hrw.cellAt (m * 3) (by omega)]
              have := wcells_get L m 0 hml (by omega)
              rw [hx] at this; simpa [Wr.cells] using this
            have k1 : wr.cell? ⟨g, m * 3 + 1, none⟩ = some (.int .i64 x.pos) := by
              rw [hrw.cellAt (m * 3 + 1) (by omega)]
              have := wcells_get L m 1 hml (by omega)
              rw [hx] at this; simpa [Wr.cells] using this
            have k2 : wr.cell? ⟨g, m * 3 + 2, none⟩ = some (.string x.bytes) := by
              rw [hrw.cellAt (m * 3 + 2) (by omega)]
              have := wcells_get L m 2 hml (by omega)
              rw [hx] at this; simpa [Wr.cells] using this
            have hpk := pickL_take i b0 L m hml
            rw [hx] at hpk
            obtain ⟨y, hy⟩ : ∃ y, pickL i b0 (L.take m) = y := ⟨_, rfl⟩
            rw [hy] at hpk p1
            have hl1 : w.heap.size + 1 < wr.heap.size := (Array.getElem?_eq_some_iff.1 p1.out).1
            have q0 : ∀ o1, (wr.alloc o1).cell? ⟨w.heap.size + 1, 0, none⟩ = some (.int .i64 y.order) := fun o1 => by rw [World.cell?_alloc_lt _ _ _ hl1, cell_of_row wr _ 0 _ 71 _ p1.out]; rfl
            have q1 : ∀ o1, (wr.alloc o1).cell? ⟨w.heap.size + 1, 1, none⟩ = some (.int .i64 y.pos) := fun o1 => by rw [World.cell?_alloc_lt _ _ _ hl1, cell_of_row wr _ 1 _ 71 _ p1.out]; rfl
            have q2 : ∀ o1, (wr.alloc o1).cell? ⟨w.heap.size + 1, 2, none⟩ = some (.string y.bytes) := fun o1 => by rw [World.cell?_alloc_lt _ _ _ hl1, cell_of_row wr _ 2 _ 71 _ p1.out]; rfl
            have s0 : ∀ o1, (wr.alloc o1).frozen? ⟨w.heap.size + 1, 0, none⟩ = false := fun o1 => by rw [World.frozen?_alloc_past _ _ _ hl1]; exact frozen_of_row wr _ 0 _ 71 p1.out
            have s1 : ∀ o1, (wr.alloc o1).frozen? ⟨w.heap.size + 1, 1, none⟩ = false := fun o1 => by rw [World.frozen?_alloc_past _ _ _ hl1]; exact frozen_of_row wr _ 1 _ 71 p1.out
            have s2 : ∀ o1, (wr.alloc o1).frozen? ⟨w.heap.size + 1, 2, none⟩ = false := fun o1 => by rw [World.frozen?_alloc_past _ _ _ hl1]; exact frozen_of_row wr _ 2 _ 71 p1.out
            have b1 := fun u o1 => store_past (u := u) (o1 := o1) (k := 0) (j := 1) hl1 (by omega) (q1 o1) (s1 o1)
            have b2 := fun u u' o1 => store_past2 (u := u) (u' := u') (o1 := o1) hl1 (q2 o1) (s2 o1)
            have b1c := fun u o1 => (b1 u o1).1
            have b1f := fun u o1 => (b1 u o1).2
            have b2c := fun u u' o1 => (b2 u u' o1).1
            have b2f := fun u u' o1 => (b2 u u' o1).2
            clear b1 b2
            have Hx := dkhid hx
            have Hy := dkhid hy
            have Hpk := dkhid hpk
            clear hx hy hpk hrw
            by_cases e1 : x.pos = i
            · have t1 : ((x.pos : Int) == (i : Int)) = true := by simp [e1]
              by_cases e2 : y.order < x.order
              · have E1 : Hid (pickL i b0 (List.take (m + 1) L) = x) := by
                  have := Hpk.out
                  unfold pick1 at this
                  rw [if_pos ⟨e1, e2⟩] at this; exact this
                clear e1
                go_wp2
                refine ⟨⟨m + 1, by omega, by go_num, ?_, ?_, (((pb.setCell (by simp) _).setCell (by simp) _).setCell (by simp) _).alloc (by simp [World.setCell]; omega) _⟩, by simp [intOf]; omega⟩
                · show _ = _
                  rw [Below.heap_alloc _ _ _ (by simp [World.setCell]; omega), Below.heap_setCell _ _ _ _ (by simp), Below.heap_setCell _ _ _ _ (by simp), Below.heap_setCell _ _ _ _ (by simp)]
                  exact p0.out
                · show _ = _
                  rw [Below.heap_alloc _ _ _ (by simp [World.setCell]; omega), E1.out]
                  exact heap_setCell_same _ _ 2 _ 71 _ (heap_setCell_same _ _ 1 _ 71 _ (heap_setCell_same _ _ 0 _ 71 _ p1.out))
              · have E1 : Hid (pickL i b0 (List.take (m + 1) L) = y) := by
                  have := Hpk.out
                  unfold pick1 at this
                  rw [if_neg (fun e => e2 e.2)] at this; exact this
                clear e1
                have t2 : decide ((y.order : Int) < (x.order : Int)) = false := by simp; omega
                go_wp2
                refine ⟨⟨m + 1, by omega, by go_num, ?_, ?_, pb.alloc (by omega) _⟩, by simp [intOf]; omega⟩
                · show _ = _
                  rw [Below.heap_alloc _ _ _ (by omega)]; exact p0.out
                · show _ = _
                  rw [Below.heap_alloc _ _ _ (by omega), E1.out]; exact p1.out
            · have t1 : ((x.pos : Int) == (i : Int)) = false := by simp; omega
              have E1 : Hid (pickL i b0 (List.take (m + 1) L) = y) := by
                have := Hpk.out
                unfold pick1 at this
                rw [if_neg (fun e => e1 e.1)] at this; exact this
              go_wp2
              refine ⟨⟨m + 1, by omega, by go_num, ?_, ?_, pb.alloc (by omega) _⟩, by simp [intOf]; omega⟩
              · show _ = _
                rw [Below.heap_alloc _ _ _ (by omega)]; exact p0.out
              · show _ = _
                rw [Below.heap_alloc _ _ _ (by omega), E1.out]; exact p1.out
          · have e : m = L.length := by omega
            subst e
            rw [List.take_length] at p1
            go_wp2
            refine ⟨⟨k + 1, by omega, by go_num, p0, ?_, pb⟩, by simp [intOf]; omega⟩
            rw [hnew.out]; exact p1
    · have e : k = 17 := by omega
      subst e
      have r0 : wr.cell? ⟨w.heap.size, 0, none⟩ = some (.int .i64 0) := by rw [cell_of_row wr _ 0 _ 71 _ h0.out]; rfl
      have r1 : wr.cell? ⟨w.heap.size, 1, none⟩ = some (.int .i64 0) := by rw [cell_of_row wr _ 1 _ 71 _ h0.out]; rfl
      have r2 : wr.cell? ⟨w.heap.size, 2, none⟩ = some (.string ⟨#[]⟩) := by rw [cell_of_row wr _ 2 _ 71 _ h0.out]; rfl
      have s0 := frozen_of_row wr w.heap.size 0 _ 71 h0.out
      have s1 := frozen_of_row wr w.heap.size 1 _ 71 h0.out
      have s2 := frozen_of_row wr w.heap.size 2 _ 71 h0.out
      obtain ⟨x, hx⟩ : ∃ x, newestTo i S.waits 17 = x := ⟨_, rfl⟩
      rw [hx] at h1
      have Hx := dkhid hx
      clear hx
      have q0 : wr.cell? ⟨w.heap.size + 1, 0, none⟩ = some (.int .i64 x.order) := by rw [cell_of_row wr _ 0 _ 71 _ h1.out]; rfl
      have q1 : wr.cell? ⟨w.heap.size + 1, 1, none⟩ = some (.int .i64 x.pos) := by rw [cell_of_row wr _ 1 _ 71 _ h1.out]; rfl
      have q2 : wr.cell? ⟨w.heap.size + 1, 2, none⟩ = some (.string x.bytes) := by rw [cell_of_row wr _ 2 _ 71 _ h1.out]; rfl
      go_wp2
      refine bodyPost_ret (v := .agg #[.int .i64 x.order, .int .i64 x.pos, .string x.bytes]) (by simp [results, Try.results24, go_sem, r0, r1, r2]) rfl ⟨by rw [Hx.out]; rfl, ?_⟩
      exact ((hb.setCell (by simp) _).setCell (by simp) _).setCell (by simp) _

/-- What Read says. -/
def St.read (S : St) (i : Nat) : ByteArray := if 0 < (newestTo i S.waits 17).order then (newestTo i S.waits 17).bytes else S.dur i

set_option maxHeartbeats 400000 in
theorem read_down (b : Nat) (i : Int) (w : World) (c20 : w.cell? ⟨b, 20, none⟩ = some (.bool true)) :
    Calls Try.prog 17 #[.pointer (some ⟨b, 0, none⟩), .int .i64 i] w fun e w' => e = .returned (.tuple #[.string ByteArray.empty, .bool false]) ∧ w = w' := by
  go_enter Try.func17, Try.ntmps17
  go_wp2_with fail
  go_ret2
  exact ⟨rfl, rfl⟩

set_option maxHeartbeats 400000 in
theorem read_has (b n gd : Nat) (i : Int) (w : World) (c20 : w.cell? ⟨b, 20, none⟩ = some (.bool false)) (c0 : w.cell? ⟨b, 0, none⟩ = some (.slice (some ⟨gd, 0, none⟩) n n)) (h : i < 0 ∨ n ≤ i) :
    Calls Try.prog 17 #[.pointer (some ⟨b, 0, none⟩), .int .i64 i] w fun e w' => e = .returned (.tuple #[.string ByteArray.empty, .bool false]) ∧ w = w' := by
  go_enter Try.func17, Try.ntmps17
  go_wp2_with (first | (go_at_call 23; refine (has_f _ _ _ _ _ c0 h).mono ?_; rintro e w' ⟨rfl, rfl⟩))
  go_ret2
  exact ⟨rfl, rfl⟩

set_option maxHeartbeats 400000 in
theorem disk_read {w : World} {b gd : Nat} {S : St} {V : Nat → Value} (h : Disk w b S gd V) (i : Nat) (hi : i < S.n) (hd : S.down = false) :
    Calls Try.prog 17 #[.pointer (some ⟨b, 0, none⟩), .int .i64 i] w fun e w' => e = .returned (.tuple #[.string (S.read i), .bool true]) ∧ Below w.heap.size w w' := by
  have hi2 : i < 16384 := by have := h.ok.n2; omega
  have c20 : w.cell? ⟨b, 20, none⟩ = some (.bool false) := by rw [← hd]; exact h.hd.c20
  have c0 := h.hd.c0
  have hn := dkhid (newest_t h i hi2)
  have hdur : ∀ w1, Below w.heap.size w w1 → Calls Try.prog 25 #[.pointer (some ⟨b, 0, none⟩), .int .i64 i] (w1.alloc (.cells (newestTo i S.waits 17).cells.toArray 71)) fun e w' => e = .returned (.tuple #[.string (S.dur i), .bool true]) ∧ (w1.alloc (.cells (newestTo i S.waits 17).cells.toArray 71)) = w' := fun w1 hb => by
    have h1 := h.below (hb.alloc hb.size (.cells (newestTo i S.waits 17).cells.toArray 71))
    exact durable_t b gd S.n i (S.dur i) _ hi h1.hd.c0 (h1.du.size hi) (h1.du.bytes hi)
  have Hdur := dkhid hdur
  have hr : Hid (S.read i = if 0 < (newestTo i S.waits 17).order then (newestTo i S.waits 17).bytes else S.dur i) := rfl
  clear hdur
  obtain ⟨x, hx⟩ : ∃ x, newestTo i S.waits 17 = x := ⟨_, rfl⟩
  obtain ⟨r, hre⟩ : ∃ r, S.read i = r := ⟨_, rfl⟩
  obtain ⟨d, hde⟩ : ∃ d, S.dur i = d := ⟨_, rfl⟩
  rw [hx] at hn Hdur hr
  rw [hre] at hr ⊢
  rw [hde] at hr Hdur
  clear hx hre hde h
  have hn2 : Hid (Calls Try.prog 24 #[.pointer (some ⟨b, 0, none⟩), .int .i64 i] w fun e w' => e = .returned (.agg #[.int .i64 x.order, .int .i64 x.pos, .string x.bytes]) ∧ Below w.heap.size w w') := hn.out
  have Hdur2 : Hid (∀ w1, Below w.heap.size w w1 → Calls Try.prog 25 #[.pointer (some ⟨b, 0, none⟩), .int .i64 i] (w1.alloc (.cells #[.int .i64 x.order, .int .i64 x.pos, .string x.bytes] 71)) fun e w' => e = .returned (.tuple #[.string d, .bool true]) ∧ (w1.alloc (.cells #[.int .i64 x.order, .int .i64 x.pos, .string x.bytes] 71)) = w') := Hdur.out
  clear hn Hdur
  by_cases hpos : 0 < x.order
  · have e : r = x.bytes := by have := hr.out; rw [if_pos hpos] at this; exact this
    subst e
    clear Hdur2 hr
    have hp : (0 : Int) < (x.order : Int) := by omega
    go_enter Try.func17, Try.ntmps17
    go_wp2_with (first | (go_at_call 23; refine (has_t _ _ _ _ _ c0 (by omega) (by omega)).mono ?_; rintro e w' ⟨rfl, rfl⟩) | (go_at_call 24; refine hn2.out.mono ?_; rintro e w1 ⟨rfl, hb1⟩))
    go_ret2
    exact ⟨rfl, hb1.alloc hb1.size _⟩
  · have e : r = d := by have := hr.out; rw [if_neg hpos] at this; exact this
    subst e
    clear hr
    have hp : decide ((0 : Int) < (x.order : Int)) = false := by simp; omega
    go_enter Try.func17, Try.ntmps17
    go_wp2_with (first | (go_at_call 23; refine (has_t _ _ _ _ _ c0 (by omega) (by omega)).mono ?_; rintro e w' ⟨rfl, rfl⟩) | (go_at_call 24; refine hn2.out.mono ?_; rintro e w1 ⟨rfl, hb1⟩) | (go_at_call 25; refine (Hdur2.out w1 hb1).mono ?_; rintro e w2 ⟨rfl, rfl⟩))
    go_ret2
    exact ⟨rfl, hb1.alloc hb1.size _⟩

section
variable {w : World} {b gd : Nat} {S : St} {V : Nat → Value}

theorem kRead (h : Hid (Disk w b S gd V)) (i : Int) (h0 : 0 ≤ i) (h1 : i < S.n) (hd : S.down = false) (r : ByteArray) (hr : S.read i.toNat = r) :
    Calls Try.prog 17 #[.pointer (some ⟨b, 0, none⟩), .int .i64 i] w fun e w' => e = .returned (.tuple #[.string r, .bool true]) ∧ Hid (Disk w' b S gd V) ∧ Step b gd w V w' V := by
  obtain ⟨i, rfl⟩ := Int.eq_ofNat_of_zero_le h0
  subst hr
  exact (disk_read h.out i (by omega) hd).mono fun _ _ ⟨he, hb⟩ => ⟨he, h.out.below hb, Step.below hb⟩
end
end Go.Proofs.Ytaiebhkjkeadoaa
