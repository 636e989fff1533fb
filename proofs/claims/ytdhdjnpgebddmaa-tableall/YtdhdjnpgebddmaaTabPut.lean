/- The table's bytes: fields, putHouse walked. -/
import Derived.Test.YtdhdjnpgebddmaaTabCheck
import Derived.Test.YtdhdjnpgebddmaaTabRow
import Derived.Test.YtdhdjnpgebddmaaCrcCode
import Derived.Deep.RegionHeld3
namespace Go.Proofs.Ytdhdjnpgebddmaa
open Go.RowKit Tab

/-- What the list of fields holds. -/
def fieldCells : Array Value := #[.int .i64 1, .func (.func 56) #[] #[], .int .i64 2, .func (.func 57) #[] #[], .int .i64 1, .func (.func 58) #[] #[], .int .i64 3, .func (.func 59) #[] #[], .int .i64 3, .func (.func 60) #[] #[], .int .i64 1, .func (.func 61) #[] #[], .int .i64 1, .func (.func 62) #[] #[], .int .i64 6, .func (.func 63) #[] #[], .int .i64 2, .func (.func 64) #[] #[]]

set_option maxHeartbeats 1000000 in
theorem fields_t (w : World) : Calls Try.prog 44 #[] w fun e w' => e = .returned (.slice (some ⟨w.heap.size, 0, none⟩) 9 9) ∧ w' = w.alloc (.cells fieldCells 76) := by
  go_enter Try.func44, Try.ntmps44
  go_wp2
  go_ret
  exact ⟨rfl, rfl⟩

set_option maxHeartbeats 400000 in
theorem field0_t (b : Nat) (w : World) : Calls Try.prog 56 #[.pointer (some ⟨b, 0, none⟩)] w fun e w' => e = .returned (.pointer (some ⟨b, 0, none⟩)) ∧ w = w' := by
  go_enter Try.func56, Try.ntmps56
  go_wp2
  go_ret
  exact ⟨rfl, rfl⟩
set_option maxHeartbeats 400000 in
theorem field1_t (b : Nat) (w : World) : Calls Try.prog 57 #[.pointer (some ⟨b, 0, none⟩)] w fun e w' => e = .returned (.pointer (some ⟨b, 1, none⟩)) ∧ w = w' := by
  go_enter Try.func57, Try.ntmps57
  go_wp2
  go_ret
  exact ⟨rfl, rfl⟩
set_option maxHeartbeats 400000 in
theorem field2_t (b : Nat) (w : World) : Calls Try.prog 58 #[.pointer (some ⟨b, 0, none⟩)] w fun e w' => e = .returned (.pointer (some ⟨b, 2, none⟩)) ∧ w = w' := by
  go_enter Try.func58, Try.ntmps58
  go_wp2
  go_ret
  exact ⟨rfl, rfl⟩
set_option maxHeartbeats 400000 in
theorem field3_t (b : Nat) (w : World) : Calls Try.prog 59 #[.pointer (some ⟨b, 0, none⟩)] w fun e w' => e = .returned (.pointer (some ⟨b, 3, none⟩)) ∧ w = w' := by
  go_enter Try.func59, Try.ntmps59
  go_wp2
  go_ret
  exact ⟨rfl, rfl⟩
set_option maxHeartbeats 400000 in
theorem field4_t (b : Nat) (w : World) : Calls Try.prog 60 #[.pointer (some ⟨b, 0, none⟩)] w fun e w' => e = .returned (.pointer (some ⟨b, 4, none⟩)) ∧ w = w' := by
  go_enter Try.func60, Try.ntmps60
  go_wp2
  go_ret
  exact ⟨rfl, rfl⟩
set_option maxHeartbeats 400000 in
theorem field5_t (b : Nat) (w : World) : Calls Try.prog 61 #[.pointer (some ⟨b, 0, none⟩)] w fun e w' => e = .returned (.pointer (some ⟨b, 5, none⟩)) ∧ w = w' := by
  go_enter Try.func61, Try.ntmps61
  go_wp2
  go_ret
  exact ⟨rfl, rfl⟩
set_option maxHeartbeats 400000 in
theorem field6_t (b : Nat) (w : World) : Calls Try.prog 62 #[.pointer (some ⟨b, 0, none⟩)] w fun e w' => e = .returned (.pointer (some ⟨b, 6, none⟩)) ∧ w = w' := by
  go_enter Try.func62, Try.ntmps62
  go_wp2
  go_ret
  exact ⟨rfl, rfl⟩
set_option maxHeartbeats 400000 in
theorem field7_t (b : Nat) (w : World) : Calls Try.prog 63 #[.pointer (some ⟨b, 0, none⟩)] w fun e w' => e = .returned (.pointer (some ⟨b, 7, none⟩)) ∧ w = w' := by
  go_enter Try.func63, Try.ntmps63
  go_wp2
  go_ret
  exact ⟨rfl, rfl⟩
set_option maxHeartbeats 400000 in
theorem field8_t (b : Nat) (w : World) : Calls Try.prog 64 #[.pointer (some ⟨b, 0, none⟩)] w fun e w' => e = .returned (.pointer (some ⟨b, 8, none⟩)) ∧ w = w' := by
  go_enter Try.func64, Try.ntmps64
  go_wp2
  go_ret
  exact ⟨rfl, rfl⟩
theorem alloc_setCell1 (w : World) (x y z : Value) (t : TypeId) : (w.alloc (.cells #[x, y] t)).setCell ⟨w.heap.size, 1, none⟩ z = w.alloc (.cells #[x, z] t) := by
  rw [World.setCell_alloc_at _ _ _ _ _ rfl]
  rfl
theorem store_fn (w : World) (n : Int) (f : Nat) : (store ⟨w.heap.size, 1, none⟩ (.func (.func f) #[] #[])).run Try.prog (w.alloc (.cells #[.int .i64 n, .nilFunc] 76)) = .ok () (w.alloc (.cells #[.int .i64 n, .func (.func f) #[] #[]] 76)) := by
  rw [run_store _ _ _ _ _ rfl]
  simp [alloc_setCell1]

/-- Put, of a number of bytes as it is. -/
theorem putn_t (v n : Int) (w : World) (h0 : 0 ≤ n) (h7 : n ≤ 7) (h1 : -9223372036854775808 ≤ v) (h2 : v ≤ 9223372036854775807) :
    Calls Try.prog 25 #[.int .i64 v, .int .i64 n] w fun e w' => e = .returned (.string ⟨(Bin.low n.toNat v).toArray⟩) ∧ Below w.heap.size w w' :=
  put_t v n n.toNat w (by omega) h1 h2

theorem Bd.same {w w' : World} {B b : Nat} {l : List UInt8} (h : Bd w B b l) (e : w'.heap = w.heap) : Bd w' B b l := by
  unfold Bd Lib.IsBuilderF Lib.BuilderAtF World.ownsRowF at *
  rw [e]
  exact h

theorem lowS_size (n : Nat) (v : Int) : (⟨(Bin.low n v).toArray⟩ : ByteArray).size = n := by
  show (Bin.low n v).toArray.size = n
  simp [Bin.low_length]
/-- So many bytes 0. -/
def zerosS (n : Nat) : ByteArray := ⟨(List.replicate n (0 : UInt8)).toArray⟩
theorem zerosS_size (n : Nat) : (zerosS n).size = n := by
  show (List.replicate n (0 : UInt8)).toArray.size = n
  simp
theorem zerosS_list (n : Nat) : (zerosS n).data.toList = List.replicate n 0 := rfl
theorem zerosS_t (n : Nat) (w : World) (hn : n ≤ 4194304) :
    Calls Try.prog 27 #[.string ⟨#[0]⟩, .int .i64 n] w fun e w' => e = .returned (.string (zerosS n)) ∧ Below w.heap.size w w' := zeros_t n w hn
theorem nums_append (a b : List (Nat × Int)) : nums (a ++ b) = nums a ++ nums b := by simp [nums, List.flatMap_append]
theorem nums_take (h : Ho) (k : Nat) : (nums ((fieldsOf h).take k)).length ≤ 20 := by
  have e := nums_length h
  rw [← List.take_append_drop k (fieldsOf h), nums_append, List.length_append] at e
  omega

set_option maxRecDepth 10000 in
set_option maxHeartbeats 4000000 in
theorem putHouse_t (w0 : World) (b : Nat) (l : List UInt8) (h : Ho) (v : Value) (w : World) (hw : Below w0.heap.size w0 w) (hBd : Bd w w0.heap.size b l) (hI : Ints w0 v h.segs) (hf : Fits h) (hll : l.length ≤ 100000) :
    Calls Try.prog 26 #[.pointer (some ⟨b, 0, none⟩), houseV h v] w fun e w' => e = .returned (.tuple #[]) ∧ Bd w' w0.heap.size b (l ++ hbytes h) ∧ Below w0.heap.size w0 w' := by
  obtain ⟨sa, sc, rfl, hsn, hsc⟩ := hI
  have hblt := hBd.lt
  have hsz := hw.size
  have HW := tabhid hw
  have HBD := tabhid hBd
  have HSC := tabhid hsc
  obtain ⟨hf1, hf2, hf3⟩ := hf
  have HF1 := tabhid hf1
  have HF3 := tabhid hf3
  clear hw hBd hsc hf1 hf3 hsn
  go_enter Try.func26, Try.ntmps26
  go_wp2_with fail
  refine (fields_t _).mono ?_
  rintro e w1 ⟨rfl, rfl⟩
  go_wp2_with fail
  go_loopw [10] (fun c wr => ∃ (k : Nat), k ≤ 9 ∧ c = .int .i64 k ∧ Hid (Bd wr w0.heap.size b (l ++ nums ((fieldsOf h).take k))) ∧ Hid (Below w0.heap.size w0 wr) ∧ Hid (wr.heap[w.heap.size]? = some (.cells (houseCells h (.slice sa h.segs.length sc)) 42 (0, 0))) ∧ Hid (wr.heap[w.heap.size + 1]? = some (.cells fieldCells 76 (0, 0)))) (fun c _ => 9 - (intOf c).toNat)
  case atStart =>
    refine ⟨0, by omega, rfl, ?_, ?_, ?_, ?_⟩
    · show Bd _ _ _ _
      simp only [List.take_zero, nums, List.flatMap_nil, List.append_nil]
      exact HBD.out.on (((Below.refl _ _).alloc (Nat.le_refl _) _).alloc (by simp) _)
    · exact (HW.out.alloc (by omega) _).alloc (by simp; omega) _
    · show _ = _
      rw [Below.heap_alloc _ _ _ (by simp), heap_alloc_new]
      rfl
    · show _ = _
      have : w.heap.size + 1 = (w.alloc (.cells (houseCells h (.slice sa h.segs.length sc)) 42)).heap.size := by simp
      rw [this]
      exact heap_alloc_new _ _
  case round =>
    obtain ⟨k, hk, rfl, HB, HW1, HH, HF⟩ := hrel
    by_cases hlt : k < 9
    · have hc : k = 0 ∨ k = 1 ∨ k = 2 ∨ k = 3 ∨ k = 4 ∨ k = 5 ∨ k = 6 ∨ k = 7 ∨ k = 8 := by omega
      have hhl : w.heap.size < wr.heap.size := (Array.getElem?_eq_some_iff.1 HH.out).1
      have hfl : w.heap.size + 1 < wr.heap.size := (Array.getElem?_eq_some_iff.1 HF.out).1
      have hw1s := HW1.out.size
      rcases hc with rfl | rfl | rfl | rfl | rfl | rfl | rfl | rfl | rfl
      · have g0 : wr.cell? ⟨w.heap.size + 1, 0, none⟩ = some (.int .i64 1) := by rw [cell_of_row wr _ _ _ _ _ HF.out]; rfl
        have g1 : wr.cell? ⟨w.heap.size + 1, 1, none⟩ = some (.func (.func 56) #[] #[]) := by rw [cell_of_row wr _ _ _ _ _ HF.out]; rfl
        have hst := store_fn wr 1 56
        have hv := HF1.out (1, h.st) (by simp [fieldsOf])
        have hv0 : 0 ≤ h.st := hv.1
        have hv1 : h.st < 281474976710656 := by have := hv.2; simp at this; omega
        clear hv
        go_wp2_with fail
        clear g0 g1 hst
        generalize hW : wr.alloc _ = W
        have s0 : W.cell? ⟨wr.heap.size, 0, none⟩ = some (.int .i64 1) := by rw [← hW]; simp
        have s1 : W.cell? ⟨wr.heap.size, 1, none⟩ = some (.func (.func 56) #[] #[]) := by rw [← hW]; simp
        have s2 : W.cell? ⟨w.heap.size, 0, none⟩ = some (.int .i64 h.st) := by rw [← hW, ((Below.refl _ wr).alloc (Nat.le_refl _) _).cell hhl, cell_of_row wr _ _ _ _ _ HH.out]; rfl
        have hWs : W.heap.size = wr.heap.size + 1 := by rw [← hW]; simp
        have HWB : Hid (Below wr.heap.size wr W) := by rw [← hW]; exact (Below.refl _ wr).alloc (Nat.le_refl _) _
        have HWN : Hid (W.heap[wr.heap.size]? = some (.cells #[.int .i64 1, .func (.func 56) #[] #[]] 76 (0, 0))) := by rw [← hW]; exact heap_alloc_new _ _
        clear hW
        go_region_held3 (fun w' => w'.cell? ⟨wr.heap.size, 0, none⟩ = some (.int .i64 1) ∧ w'.cell? ⟨wr.heap.size, 1, none⟩ = some (.func (.func 56) #[] #[]) ∧ w'.cell? ⟨w.heap.size, 0, none⟩ = some (.int .i64 h.st)) (first | go_keep)
          (first
            | (go_at_call 56; refine (field0_t _ _).mono ?_; rintro e w1 ⟨rfl, rfl⟩)
            | (go_at_call 25; refine (putn_t _ _ _ ?_ ?_ ?_ ?_).mono ?_; (omega); (omega); (omega); (omega); rintro e w1 ⟨rfl, hb1⟩; have hp1 : Below W.heap.size W w1 := ⟨hb1.os, hb1.tape, hb1.output, hb1.size, hb1.block⟩; have p0 : w1.cell? ⟨wr.heap.size, 0, none⟩ = some (.int .i64 1) := (by rw [hp1.cell (by show wr.heap.size < _; omega)]; exact s0); have p1 : w1.cell? ⟨wr.heap.size, 1, none⟩ = some (.func (.func 56) #[] #[]) := (by rw [hp1.cell (by show wr.heap.size < _; omega)]; exact s1); have p2 : w1.cell? ⟨w.heap.size, 0, none⟩ = some (.int .i64 h.st) := (by rw [hp1.cell (by show w.heap.size < _; omega)]; exact s2))
            | (go_at_call 24; refine (write_t w0.heap.size b (l ++ nums ((fieldsOf h).take 0)) _ _ ((HB.out.on HWB.out).on hp1) ?_ ?_).mono ?_; (rw [List.length_append, lowS_size]; have := nums_take h 0; omega); (have := hp1.size; omega); rintro e w2 ⟨rfl, hbd2, hbe2, hot2⟩; have q0 : w2.cell? ⟨wr.heap.size, 0, none⟩ = some (.int .i64 1) := (by rw [cell_of_row w2 _ _ _ _ _ (hot2.block (show w1.heap[wr.heap.size]? = _ by rw [hp1.block _ (by omega)]; exact HWN.out) (by omega) (by decide))]; rfl); have q1 : w2.cell? ⟨wr.heap.size, 1, none⟩ = some (.func (.func 56) #[] #[]) := (by rw [cell_of_row w2 _ _ _ _ _ (hot2.block (show w1.heap[wr.heap.size]? = _ by rw [hp1.block _ (by omega)]; exact HWN.out) (by omega) (by decide))]; rfl); have q2 : w2.cell? ⟨w.heap.size, 0, none⟩ = some (.int .i64 h.st) := (by rw [cell_of_row w2 _ _ _ _ _ (hot2.block (show w1.heap[w.heap.size]? = _ by rw [hp1.block _ (by omega), HWB.out.block _ hhl]; exact HH.out) (by omega) (by decide))]; rfl)))
        have HF2 : Hid (w2.heap[w.heap.size + 1]? = some (.cells fieldCells 76 (0, 0))) := hot2.block (show w1.heap[w.heap.size + 1]? = _ by rw [hp1.block _ (by omega), HWB.out.block _ hfl]; exact HF.out) (by omega) (by decide)
        have HH2 : Hid (w2.heap[w.heap.size]? = some (.cells (houseCells h (.slice sa h.segs.length sc)) 42 (0, 0))) := hot2.block (show w1.heap[w.heap.size]? = _ by rw [hp1.block _ (by omega), HWB.out.block _ hhl]; exact HH.out) (by omega) (by decide)
        have HW2 : Hid (Below w0.heap.size w0 w2) := ((HW1.out.trans (HWB.out.mono HW1.out.size)).trans (hp1.mono (by omega))).trans hbe2
        have HB2 : Hid (Bd w2 w0.heap.size b (l ++ nums ((fieldsOf h).take 1))) := by
          have := hbd2
          rw [List.append_assoc] at this
          exact this
        clear hbd2 hbe2 hot2 q0 q1 q2 p0 p1 p2 hp1 hb1 HWB HWN s0 s1 s2 HB HH HF HW1
        go_wp2_with fail
        exact ⟨⟨1, by omega, rfl, HB2, HW2, HH2, HF2⟩, by simp [intOf]⟩
      · have g0 : wr.cell? ⟨w.heap.size + 1, 2, none⟩ = some (.int .i64 2) := by rw [cell_of_row wr _ _ _ _ _ HF.out]; rfl
        have g1 : wr.cell? ⟨w.heap.size + 1, 3, none⟩ = some (.func (.func 57) #[] #[]) := by rw [cell_of_row wr _ _ _ _ _ HF.out]; rfl
        have hst := store_fn wr 2 57
        have hv := HF1.out (2, h.gen) (by simp [fieldsOf])
        have hv0 : 0 ≤ h.gen := hv.1
        have hv1 : h.gen < 281474976710656 := by have := hv.2; simp at this; omega
        clear hv
        go_wp2_with fail
        clear g0 g1 hst
        generalize hW : wr.alloc _ = W
        have s0 : W.cell? ⟨wr.heap.size, 0, none⟩ = some (.int .i64 2) := by rw [← hW]; simp
        have s1 : W.cell? ⟨wr.heap.size, 1, none⟩ = some (.func (.func 57) #[] #[]) := by rw [← hW]; simp
        have s2 : W.cell? ⟨w.heap.size, 1, none⟩ = some (.int .i64 h.gen) := by rw [← hW, ((Below.refl _ wr).alloc (Nat.le_refl _) _).cell hhl, cell_of_row wr _ _ _ _ _ HH.out]; rfl
        have hWs : W.heap.size = wr.heap.size + 1 := by rw [← hW]; simp
        have HWB : Hid (Below wr.heap.size wr W) := by rw [← hW]; exact (Below.refl _ wr).alloc (Nat.le_refl _) _
        have HWN : Hid (W.heap[wr.heap.size]? = some (.cells #[.int .i64 2, .func (.func 57) #[] #[]] 76 (0, 0))) := by rw [← hW]; exact heap_alloc_new _ _
        clear hW
        go_region_held3 (fun w' => w'.cell? ⟨wr.heap.size, 0, none⟩ = some (.int .i64 2) ∧ w'.cell? ⟨wr.heap.size, 1, none⟩ = some (.func (.func 57) #[] #[]) ∧ w'.cell? ⟨w.heap.size, 1, none⟩ = some (.int .i64 h.gen)) (first | go_keep)
          (first
            | (go_at_call 57; refine (field1_t _ _).mono ?_; rintro e w1 ⟨rfl, rfl⟩)
            | (go_at_call 25; refine (putn_t _ _ _ ?_ ?_ ?_ ?_).mono ?_; (omega); (omega); (omega); (omega); rintro e w1 ⟨rfl, hb1⟩; have hp1 : Below W.heap.size W w1 := ⟨hb1.os, hb1.tape, hb1.output, hb1.size, hb1.block⟩; have p0 : w1.cell? ⟨wr.heap.size, 0, none⟩ = some (.int .i64 2) := (by rw [hp1.cell (by show wr.heap.size < _; omega)]; exact s0); have p1 : w1.cell? ⟨wr.heap.size, 1, none⟩ = some (.func (.func 57) #[] #[]) := (by rw [hp1.cell (by show wr.heap.size < _; omega)]; exact s1); have p2 : w1.cell? ⟨w.heap.size, 1, none⟩ = some (.int .i64 h.gen) := (by rw [hp1.cell (by show w.heap.size < _; omega)]; exact s2))
            | (go_at_call 24; refine (write_t w0.heap.size b (l ++ nums ((fieldsOf h).take 1)) _ _ ((HB.out.on HWB.out).on hp1) ?_ ?_).mono ?_; (rw [List.length_append, lowS_size]; have := nums_take h 1; omega); (have := hp1.size; omega); rintro e w2 ⟨rfl, hbd2, hbe2, hot2⟩; have q0 : w2.cell? ⟨wr.heap.size, 0, none⟩ = some (.int .i64 2) := (by rw [cell_of_row w2 _ _ _ _ _ (hot2.block (show w1.heap[wr.heap.size]? = _ by rw [hp1.block _ (by omega)]; exact HWN.out) (by omega) (by decide))]; rfl); have q1 : w2.cell? ⟨wr.heap.size, 1, none⟩ = some (.func (.func 57) #[] #[]) := (by rw [cell_of_row w2 _ _ _ _ _ (hot2.block (show w1.heap[wr.heap.size]? = _ by rw [hp1.block _ (by omega)]; exact HWN.out) (by omega) (by decide))]; rfl); have q2 : w2.cell? ⟨w.heap.size, 1, none⟩ = some (.int .i64 h.gen) := (by rw [cell_of_row w2 _ _ _ _ _ (hot2.block (show w1.heap[w.heap.size]? = _ by rw [hp1.block _ (by omega), HWB.out.block _ hhl]; exact HH.out) (by omega) (by decide))]; rfl)))
        have HF2 : Hid (w2.heap[w.heap.size + 1]? = some (.cells fieldCells 76 (0, 0))) := hot2.block (show w1.heap[w.heap.size + 1]? = _ by rw [hp1.block _ (by omega), HWB.out.block _ hfl]; exact HF.out) (by omega) (by decide)
        have HH2 : Hid (w2.heap[w.heap.size]? = some (.cells (houseCells h (.slice sa h.segs.length sc)) 42 (0, 0))) := hot2.block (show w1.heap[w.heap.size]? = _ by rw [hp1.block _ (by omega), HWB.out.block _ hhl]; exact HH.out) (by omega) (by decide)
        have HW2 : Hid (Below w0.heap.size w0 w2) := ((HW1.out.trans (HWB.out.mono HW1.out.size)).trans (hp1.mono (by omega))).trans hbe2
        have HB2 : Hid (Bd w2 w0.heap.size b (l ++ nums ((fieldsOf h).take 2))) := by
          have := hbd2
          rw [List.append_assoc] at this
          exact this
        clear hbd2 hbe2 hot2 q0 q1 q2 p0 p1 p2 hp1 hb1 HWB HWN s0 s1 s2 HB HH HF HW1
        go_wp2_with fail
        exact ⟨⟨2, by omega, rfl, HB2, HW2, HH2, HF2⟩, by simp [intOf]⟩
      · have g0 : wr.cell? ⟨w.heap.size + 1, 4, none⟩ = some (.int .i64 1) := by rw [cell_of_row wr _ _ _ _ _ HF.out]; rfl
        have g1 : wr.cell? ⟨w.heap.size + 1, 5, none⟩ = some (.func (.func 58) #[] #[]) := by rw [cell_of_row wr _ _ _ _ _ HF.out]; rfl
        have hst := store_fn wr 1 58
        have hv := HF1.out (1, h.lim.s) (by simp [fieldsOf])
        have hv0 : 0 ≤ h.lim.s := hv.1
        have hv1 : h.lim.s < 281474976710656 := by have := hv.2; simp at this; omega
        clear hv
        go_wp2_with fail
        clear g0 g1 hst
        generalize hW : wr.alloc _ = W
        have s0 : W.cell? ⟨wr.heap.size, 0, none⟩ = some (.int .i64 1) := by rw [← hW]; simp
        have s1 : W.cell? ⟨wr.heap.size, 1, none⟩ = some (.func (.func 58) #[] #[]) := by rw [← hW]; simp
        have s2 : W.cell? ⟨w.heap.size, 2, none⟩ = some (.int .i64 h.lim.s) := by rw [← hW, ((Below.refl _ wr).alloc (Nat.le_refl _) _).cell hhl, cell_of_row wr _ _ _ _ _ HH.out]; rfl
        have hWs : W.heap.size = wr.heap.size + 1 := by rw [← hW]; simp
        have HWB : Hid (Below wr.heap.size wr W) := by rw [← hW]; exact (Below.refl _ wr).alloc (Nat.le_refl _) _
        have HWN : Hid (W.heap[wr.heap.size]? = some (.cells #[.int .i64 1, .func (.func 58) #[] #[]] 76 (0, 0))) := by rw [← hW]; exact heap_alloc_new _ _
        clear hW
        go_region_held3 (fun w' => w'.cell? ⟨wr.heap.size, 0, none⟩ = some (.int .i64 1) ∧ w'.cell? ⟨wr.heap.size, 1, none⟩ = some (.func (.func 58) #[] #[]) ∧ w'.cell? ⟨w.heap.size, 2, none⟩ = some (.int .i64 h.lim.s)) (first | go_keep)
          (first
            | (go_at_call 58; refine (field2_t _ _).mono ?_; rintro e w1 ⟨rfl, rfl⟩)
            | (go_at_call 25; refine (putn_t _ _ _ ?_ ?_ ?_ ?_).mono ?_; (omega); (omega); (omega); (omega); rintro e w1 ⟨rfl, hb1⟩; have hp1 : Below W.heap.size W w1 := ⟨hb1.os, hb1.tape, hb1.output, hb1.size, hb1.block⟩; have p0 : w1.cell? ⟨wr.heap.size, 0, none⟩ = some (.int .i64 1) := (by rw [hp1.cell (by show wr.heap.size < _; omega)]; exact s0); have p1 : w1.cell? ⟨wr.heap.size, 1, none⟩ = some (.func (.func 58) #[] #[]) := (by rw [hp1.cell (by show wr.heap.size < _; omega)]; exact s1); have p2 : w1.cell? ⟨w.heap.size, 2, none⟩ = some (.int .i64 h.lim.s) := (by rw [hp1.cell (by show w.heap.size < _; omega)]; exact s2))
            | (go_at_call 24; refine (write_t w0.heap.size b (l ++ nums ((fieldsOf h).take 2)) _ _ ((HB.out.on HWB.out).on hp1) ?_ ?_).mono ?_; (rw [List.length_append, lowS_size]; have := nums_take h 2; omega); (have := hp1.size; omega); rintro e w2 ⟨rfl, hbd2, hbe2, hot2⟩; have q0 : w2.cell? ⟨wr.heap.size, 0, none⟩ = some (.int .i64 1) := (by rw [cell_of_row w2 _ _ _ _ _ (hot2.block (show w1.heap[wr.heap.size]? = _ by rw [hp1.block _ (by omega)]; exact HWN.out) (by omega) (by decide))]; rfl); have q1 : w2.cell? ⟨wr.heap.size, 1, none⟩ = some (.func (.func 58) #[] #[]) := (by rw [cell_of_row w2 _ _ _ _ _ (hot2.block (show w1.heap[wr.heap.size]? = _ by rw [hp1.block _ (by omega)]; exact HWN.out) (by omega) (by decide))]; rfl); have q2 : w2.cell? ⟨w.heap.size, 2, none⟩ = some (.int .i64 h.lim.s) := (by rw [cell_of_row w2 _ _ _ _ _ (hot2.block (show w1.heap[w.heap.size]? = _ by rw [hp1.block _ (by omega), HWB.out.block _ hhl]; exact HH.out) (by omega) (by decide))]; rfl)))
        have HF2 : Hid (w2.heap[w.heap.size + 1]? = some (.cells fieldCells 76 (0, 0))) := hot2.block (show w1.heap[w.heap.size + 1]? = _ by rw [hp1.block _ (by omega), HWB.out.block _ hfl]; exact HF.out) (by omega) (by decide)
        have HH2 : Hid (w2.heap[w.heap.size]? = some (.cells (houseCells h (.slice sa h.segs.length sc)) 42 (0, 0))) := hot2.block (show w1.heap[w.heap.size]? = _ by rw [hp1.block _ (by omega), HWB.out.block _ hhl]; exact HH.out) (by omega) (by decide)
        have HW2 : Hid (Below w0.heap.size w0 w2) := ((HW1.out.trans (HWB.out.mono HW1.out.size)).trans (hp1.mono (by omega))).trans hbe2
        have HB2 : Hid (Bd w2 w0.heap.size b (l ++ nums ((fieldsOf h).take 3))) := by
          have := hbd2
          rw [List.append_assoc] at this
          exact this
        clear hbd2 hbe2 hot2 q0 q1 q2 p0 p1 p2 hp1 hb1 HWB HWN s0 s1 s2 HB HH HF HW1
        go_wp2_with fail
        exact ⟨⟨3, by omega, rfl, HB2, HW2, HH2, HF2⟩, by simp [intOf]⟩
      · have g0 : wr.cell? ⟨w.heap.size + 1, 6, none⟩ = some (.int .i64 3) := by rw [cell_of_row wr _ _ _ _ _ HF.out]; rfl
        have g1 : wr.cell? ⟨w.heap.size + 1, 7, none⟩ = some (.func (.func 59) #[] #[]) := by rw [cell_of_row wr _ _ _ _ _ HF.out]; rfl
        have hst := store_fn wr 3 59
        have hv := HF1.out (3, h.lim.hb) (by simp [fieldsOf])
        have hv0 : 0 ≤ h.lim.hb := hv.1
        have hv1 : h.lim.hb < 281474976710656 := by have := hv.2; simp at this; omega
        clear hv
        go_wp2_with fail
        clear g0 g1 hst
        generalize hW : wr.alloc _ = W
        have s0 : W.cell? ⟨wr.heap.size, 0, none⟩ = some (.int .i64 3) := by rw [← hW]; simp
        have s1 : W.cell? ⟨wr.heap.size, 1, none⟩ = some (.func (.func 59) #[] #[]) := by rw [← hW]; simp
        have s2 : W.cell? ⟨w.heap.size, 3, none⟩ = some (.int .i64 h.lim.hb) := by rw [← hW, ((Below.refl _ wr).alloc (Nat.le_refl _) _).cell hhl, cell_of_row wr _ _ _ _ _ HH.out]; rfl
        have hWs : W.heap.size = wr.heap.size + 1 := by rw [← hW]; simp
        have HWB : Hid (Below wr.heap.size wr W) := by rw [← hW]; exact (Below.refl _ wr).alloc (Nat.le_refl _) _
        have HWN : Hid (W.heap[wr.heap.size]? = some (.cells #[.int .i64 3, .func (.func 59) #[] #[]] 76 (0, 0))) := by rw [← hW]; exact heap_alloc_new _ _
        clear hW
        go_region_held3 (fun w' => w'.cell? ⟨wr.heap.size, 0, none⟩ = some (.int .i64 3) ∧ w'.cell? ⟨wr.heap.size, 1, none⟩ = some (.func (.func 59) #[] #[]) ∧ w'.cell? ⟨w.heap.size, 3, none⟩ = some (.int .i64 h.lim.hb)) (first | go_keep)
          (first
            | (go_at_call 59; refine (field3_t _ _).mono ?_; rintro e w1 ⟨rfl, rfl⟩)
            | (go_at_call 25; refine (putn_t _ _ _ ?_ ?_ ?_ ?_).mono ?_; (omega); (omega); (omega); (omega); rintro e w1 ⟨rfl, hb1⟩; have hp1 : Below W.heap.size W w1 := ⟨hb1.os, hb1.tape, hb1.output, hb1.size, hb1.block⟩; have p0 : w1.cell? ⟨wr.heap.size, 0, none⟩ = some (.int .i64 3) := (by rw [hp1.cell (by show wr.heap.size < _; omega)]; exact s0); have p1 : w1.cell? ⟨wr.heap.size, 1, none⟩ = some (.func (.func 59) #[] #[]) := (by rw [hp1.cell (by show wr.heap.size < _; omega)]; exact s1); have p2 : w1.cell? ⟨w.heap.size, 3, none⟩ = some (.int .i64 h.lim.hb) := (by rw [hp1.cell (by show w.heap.size < _; omega)]; exact s2))
            | (go_at_call 24; refine (write_t w0.heap.size b (l ++ nums ((fieldsOf h).take 3)) _ _ ((HB.out.on HWB.out).on hp1) ?_ ?_).mono ?_; (rw [List.length_append, lowS_size]; have := nums_take h 3; omega); (have := hp1.size; omega); rintro e w2 ⟨rfl, hbd2, hbe2, hot2⟩; have q0 : w2.cell? ⟨wr.heap.size, 0, none⟩ = some (.int .i64 3) := (by rw [cell_of_row w2 _ _ _ _ _ (hot2.block (show w1.heap[wr.heap.size]? = _ by rw [hp1.block _ (by omega)]; exact HWN.out) (by omega) (by decide))]; rfl); have q1 : w2.cell? ⟨wr.heap.size, 1, none⟩ = some (.func (.func 59) #[] #[]) := (by rw [cell_of_row w2 _ _ _ _ _ (hot2.block (show w1.heap[wr.heap.size]? = _ by rw [hp1.block _ (by omega)]; exact HWN.out) (by omega) (by decide))]; rfl); have q2 : w2.cell? ⟨w.heap.size, 3, none⟩ = some (.int .i64 h.lim.hb) := (by rw [cell_of_row w2 _ _ _ _ _ (hot2.block (show w1.heap[w.heap.size]? = _ by rw [hp1.block _ (by omega), HWB.out.block _ hhl]; exact HH.out) (by omega) (by decide))]; rfl)))
        have HF2 : Hid (w2.heap[w.heap.size + 1]? = some (.cells fieldCells 76 (0, 0))) := hot2.block (show w1.heap[w.heap.size + 1]? = _ by rw [hp1.block _ (by omega), HWB.out.block _ hfl]; exact HF.out) (by omega) (by decide)
        have HH2 : Hid (w2.heap[w.heap.size]? = some (.cells (houseCells h (.slice sa h.segs.length sc)) 42 (0, 0))) := hot2.block (show w1.heap[w.heap.size]? = _ by rw [hp1.block _ (by omega), HWB.out.block _ hhl]; exact HH.out) (by omega) (by decide)
        have HW2 : Hid (Below w0.heap.size w0 w2) := ((HW1.out.trans (HWB.out.mono HW1.out.size)).trans (hp1.mono (by omega))).trans hbe2
        have HB2 : Hid (Bd w2 w0.heap.size b (l ++ nums ((fieldsOf h).take 4))) := by
          have := hbd2
          rw [List.append_assoc] at this
          exact this
        clear hbd2 hbe2 hot2 q0 q1 q2 p0 p1 p2 hp1 hb1 HWB HWN s0 s1 s2 HB HH HF HW1
        go_wp2_with fail
        exact ⟨⟨4, by omega, rfl, HB2, HW2, HH2, HF2⟩, by simp [intOf]⟩
      · have g0 : wr.cell? ⟨w.heap.size + 1, 8, none⟩ = some (.int .i64 3) := by rw [cell_of_row wr _ _ _ _ _ HF.out]; rfl
        have g1 : wr.cell? ⟨w.heap.size + 1, 9, none⟩ = some (.func (.func 60) #[] #[]) := by rw [cell_of_row wr _ _ _ _ _ HF.out]; rfl
        have hst := store_fn wr 3 60
        have hv := HF1.out (3, h.lim.sb) (by simp [fieldsOf])
        have hv0 : 0 ≤ h.lim.sb := hv.1
        have hv1 : h.lim.sb < 281474976710656 := by have := hv.2; simp at this; omega
        clear hv
        go_wp2_with fail
        clear g0 g1 hst
        generalize hW : wr.alloc _ = W
        have s0 : W.cell? ⟨wr.heap.size, 0, none⟩ = some (.int .i64 3) := by rw [← hW]; simp
        have s1 : W.cell? ⟨wr.heap.size, 1, none⟩ = some (.func (.func 60) #[] #[]) := by rw [← hW]; simp
        have s2 : W.cell? ⟨w.heap.size, 4, none⟩ = some (.int .i64 h.lim.sb) := by rw [← hW, ((Below.refl _ wr).alloc (Nat.le_refl _) _).cell hhl, cell_of_row wr _ _ _ _ _ HH.out]; rfl
        have hWs : W.heap.size = wr.heap.size + 1 := by rw [← hW]; simp
        have HWB : Hid (Below wr.heap.size wr W) := by rw [← hW]; exact (Below.refl _ wr).alloc (Nat.le_refl _) _
        have HWN : Hid (W.heap[wr.heap.size]? = some (.cells #[.int .i64 3, .func (.func 60) #[] #[]] 76 (0, 0))) := by rw [← hW]; exact heap_alloc_new _ _
        clear hW
        go_region_held3 (fun w' => w'.cell? ⟨wr.heap.size, 0, none⟩ = some (.int .i64 3) ∧ w'.cell? ⟨wr.heap.size, 1, none⟩ = some (.func (.func 60) #[] #[]) ∧ w'.cell? ⟨w.heap.size, 4, none⟩ = some (.int .i64 h.lim.sb)) (first | go_keep)
          (first
            | (go_at_call 60; refine (field4_t _ _).mono ?_; rintro e w1 ⟨rfl, rfl⟩)
            | (go_at_call 25; refine (putn_t _ _ _ ?_ ?_ ?_ ?_).mono ?_; (omega); (omega); (omega); (omega); rintro e w1 ⟨rfl, hb1⟩; have hp1 : Below W.heap.size W w1 := ⟨hb1.os, hb1.tape, hb1.output, hb1.size, hb1.block⟩; have p0 : w1.cell? ⟨wr.heap.size, 0, none⟩ = some (.int .i64 3) := (by rw [hp1.cell (by show wr.heap.size < _; omega)]; exact s0); have p1 : w1.cell? ⟨wr.heap.size, 1, none⟩ = some (.func (.func 60) #[] #[]) := (by rw [hp1.cell (by show wr.heap.size < _; omega)]; exact s1); have p2 : w1.cell? ⟨w.heap.size, 4, none⟩ = some (.int .i64 h.lim.sb) := (by rw [hp1.cell (by show w.heap.size < _; omega)]; exact s2))
            | (go_at_call 24; refine (write_t w0.heap.size b (l ++ nums ((fieldsOf h).take 4)) _ _ ((HB.out.on HWB.out).on hp1) ?_ ?_).mono ?_; (rw [List.length_append, lowS_size]; have := nums_take h 4; omega); (have := hp1.size; omega); rintro e w2 ⟨rfl, hbd2, hbe2, hot2⟩; have q0 : w2.cell? ⟨wr.heap.size, 0, none⟩ = some (.int .i64 3) := (by rw [cell_of_row w2 _ _ _ _ _ (hot2.block (show w1.heap[wr.heap.size]? = _ by rw [hp1.block _ (by omega)]; exact HWN.out) (by omega) (by decide))]; rfl); have q1 : w2.cell? ⟨wr.heap.size, 1, none⟩ = some (.func (.func 60) #[] #[]) := (by rw [cell_of_row w2 _ _ _ _ _ (hot2.block (show w1.heap[wr.heap.size]? = _ by rw [hp1.block _ (by omega)]; exact HWN.out) (by omega) (by decide))]; rfl); have q2 : w2.cell? ⟨w.heap.size, 4, none⟩ = some (.int .i64 h.lim.sb) := (by rw [cell_of_row w2 _ _ _ _ _ (hot2.block (show w1.heap[w.heap.size]? = _ by rw [hp1.block _ (by omega), HWB.out.block _ hhl]; exact HH.out) (by omega) (by decide))]; rfl)))
        have HF2 : Hid (w2.heap[w.heap.size + 1]? = some (.cells fieldCells 76 (0, 0))) := hot2.block (show w1.heap[w.heap.size + 1]? = _ by rw [hp1.block _ (by omega), HWB.out.block _ hfl]; exact HF.out) (by omega) (by decide)
        have HH2 : Hid (w2.heap[w.heap.size]? = some (.cells (houseCells h (.slice sa h.segs.length sc)) 42 (0, 0))) := hot2.block (show w1.heap[w.heap.size]? = _ by rw [hp1.block _ (by omega), HWB.out.block _ hhl]; exact HH.out) (by omega) (by decide)
        have HW2 : Hid (Below w0.heap.size w0 w2) := ((HW1.out.trans (HWB.out.mono HW1.out.size)).trans (hp1.mono (by omega))).trans hbe2
        have HB2 : Hid (Bd w2 w0.heap.size b (l ++ nums ((fieldsOf h).take 5))) := by
          have := hbd2
          rw [List.append_assoc] at this
          exact this
        clear hbd2 hbe2 hot2 q0 q1 q2 p0 p1 p2 hp1 hb1 HWB HWN s0 s1 s2 HB HH HF HW1
        go_wp2_with fail
        exact ⟨⟨5, by omega, rfl, HB2, HW2, HH2, HF2⟩, by simp [intOf]⟩
      · have g0 : wr.cell? ⟨w.heap.size + 1, 10, none⟩ = some (.int .i64 1) := by rw [cell_of_row wr _ _ _ _ _ HF.out]; rfl
        have g1 : wr.cell? ⟨w.heap.size + 1, 11, none⟩ = some (.func (.func 61) #[] #[]) := by rw [cell_of_row wr _ _ _ _ _ HF.out]; rfl
        have hst := store_fn wr 1 61
        have hv := HF1.out (1, h.lim.hn) (by simp [fieldsOf])
        have hv0 : 0 ≤ h.lim.hn := hv.1
        have hv1 : h.lim.hn < 281474976710656 := by have := hv.2; simp at this; omega
        clear hv
        go_wp2_with fail
        clear g0 g1 hst
        generalize hW : wr.alloc _ = W
        have s0 : W.cell? ⟨wr.heap.size, 0, none⟩ = some (.int .i64 1) := by rw [← hW]; simp
        have s1 : W.cell? ⟨wr.heap.size, 1, none⟩ = some (.func (.func 61) #[] #[]) := by rw [← hW]; simp
        have s2 : W.cell? ⟨w.heap.size, 5, none⟩ = some (.int .i64 h.lim.hn) := by rw [← hW, ((Below.refl _ wr).alloc (Nat.le_refl _) _).cell hhl, cell_of_row wr _ _ _ _ _ HH.out]; rfl
        have hWs : W.heap.size = wr.heap.size + 1 := by rw [← hW]; simp
        have HWB : Hid (Below wr.heap.size wr W) := by rw [← hW]; exact (Below.refl _ wr).alloc (Nat.le_refl _) _
        have HWN : Hid (W.heap[wr.heap.size]? = some (.cells #[.int .i64 1, .func (.func 61) #[] #[]] 76 (0, 0))) := by rw [← hW]; exact heap_alloc_new _ _
        clear hW
        go_region_held3 (fun w' => w'.cell? ⟨wr.heap.size, 0, none⟩ = some (.int .i64 1) ∧ w'.cell? ⟨wr.heap.size, 1, none⟩ = some (.func (.func 61) #[] #[]) ∧ w'.cell? ⟨w.heap.size, 5, none⟩ = some (.int .i64 h.lim.hn)) (first | go_keep)
          (first
            | (go_at_call 61; refine (field5_t _ _).mono ?_; rintro e w1 ⟨rfl, rfl⟩)
            | (go_at_call 25; refine (putn_t _ _ _ ?_ ?_ ?_ ?_).mono ?_; (omega); (omega); (omega); (omega); rintro e w1 ⟨rfl, hb1⟩; have hp1 : Below W.heap.size W w1 := ⟨hb1.os, hb1.tape, hb1.output, hb1.size, hb1.block⟩; have p0 : w1.cell? ⟨wr.heap.size, 0, none⟩ = some (.int .i64 1) := (by rw [hp1.cell (by show wr.heap.size < _; omega)]; exact s0); have p1 : w1.cell? ⟨wr.heap.size, 1, none⟩ = some (.func (.func 61) #[] #[]) := (by rw [hp1.cell (by show wr.heap.size < _; omega)]; exact s1); have p2 : w1.cell? ⟨w.heap.size, 5, none⟩ = some (.int .i64 h.lim.hn) := (by rw [hp1.cell (by show w.heap.size < _; omega)]; exact s2))
            | (go_at_call 24; refine (write_t w0.heap.size b (l ++ nums ((fieldsOf h).take 5)) _ _ ((HB.out.on HWB.out).on hp1) ?_ ?_).mono ?_; (rw [List.length_append, lowS_size]; have := nums_take h 5; omega); (have := hp1.size; omega); rintro e w2 ⟨rfl, hbd2, hbe2, hot2⟩; have q0 : w2.cell? ⟨wr.heap.size, 0, none⟩ = some (.int .i64 1) := (by rw [cell_of_row w2 _ _ _ _ _ (hot2.block (show w1.heap[wr.heap.size]? = _ by rw [hp1.block _ (by omega)]; exact HWN.out) (by omega) (by decide))]; rfl); have q1 : w2.cell? ⟨wr.heap.size, 1, none⟩ = some (.func (.func 61) #[] #[]) := (by rw [cell_of_row w2 _ _ _ _ _ (hot2.block (show w1.heap[wr.heap.size]? = _ by rw [hp1.block _ (by omega)]; exact HWN.out) (by omega) (by decide))]; rfl); have q2 : w2.cell? ⟨w.heap.size, 5, none⟩ = some (.int .i64 h.lim.hn) := (by rw [cell_of_row w2 _ _ _ _ _ (hot2.block (show w1.heap[w.heap.size]? = _ by rw [hp1.block _ (by omega), HWB.out.block _ hhl]; exact HH.out) (by omega) (by decide))]; rfl)))
        have HF2 : Hid (w2.heap[w.heap.size + 1]? = some (.cells fieldCells 76 (0, 0))) := hot2.block (show w1.heap[w.heap.size + 1]? = _ by rw [hp1.block _ (by omega), HWB.out.block _ hfl]; exact HF.out) (by omega) (by decide)
        have HH2 : Hid (w2.heap[w.heap.size]? = some (.cells (houseCells h (.slice sa h.segs.length sc)) 42 (0, 0))) := hot2.block (show w1.heap[w.heap.size]? = _ by rw [hp1.block _ (by omega), HWB.out.block _ hhl]; exact HH.out) (by omega) (by decide)
        have HW2 : Hid (Below w0.heap.size w0 w2) := ((HW1.out.trans (HWB.out.mono HW1.out.size)).trans (hp1.mono (by omega))).trans hbe2
        have HB2 : Hid (Bd w2 w0.heap.size b (l ++ nums ((fieldsOf h).take 6))) := by
          have := hbd2
          rw [List.append_assoc] at this
          exact this
        clear hbd2 hbe2 hot2 q0 q1 q2 p0 p1 p2 hp1 hb1 HWB HWN s0 s1 s2 HB HH HF HW1
        go_wp2_with fail
        exact ⟨⟨6, by omega, rfl, HB2, HW2, HH2, HF2⟩, by simp [intOf]⟩
      · have g0 : wr.cell? ⟨w.heap.size + 1, 12, none⟩ = some (.int .i64 1) := by rw [cell_of_row wr _ _ _ _ _ HF.out]; rfl
        have g1 : wr.cell? ⟨w.heap.size + 1, 13, none⟩ = some (.func (.func 62) #[] #[]) := by rw [cell_of_row wr _ _ _ _ _ HF.out]; rfl
        have hst := store_fn wr 1 62
        have hv := HF1.out (1, h.lim.sn) (by simp [fieldsOf])
        have hv0 : 0 ≤ h.lim.sn := hv.1
        have hv1 : h.lim.sn < 281474976710656 := by have := hv.2; simp at this; omega
        clear hv
        go_wp2_with fail
        clear g0 g1 hst
        generalize hW : wr.alloc _ = W
        have s0 : W.cell? ⟨wr.heap.size, 0, none⟩ = some (.int .i64 1) := by rw [← hW]; simp
        have s1 : W.cell? ⟨wr.heap.size, 1, none⟩ = some (.func (.func 62) #[] #[]) := by rw [← hW]; simp
        have s2 : W.cell? ⟨w.heap.size, 6, none⟩ = some (.int .i64 h.lim.sn) := by rw [← hW, ((Below.refl _ wr).alloc (Nat.le_refl _) _).cell hhl, cell_of_row wr _ _ _ _ _ HH.out]; rfl
        have hWs : W.heap.size = wr.heap.size + 1 := by rw [← hW]; simp
        have HWB : Hid (Below wr.heap.size wr W) := by rw [← hW]; exact (Below.refl _ wr).alloc (Nat.le_refl _) _
        have HWN : Hid (W.heap[wr.heap.size]? = some (.cells #[.int .i64 1, .func (.func 62) #[] #[]] 76 (0, 0))) := by rw [← hW]; exact heap_alloc_new _ _
        clear hW
        go_region_held3 (fun w' => w'.cell? ⟨wr.heap.size, 0, none⟩ = some (.int .i64 1) ∧ w'.cell? ⟨wr.heap.size, 1, none⟩ = some (.func (.func 62) #[] #[]) ∧ w'.cell? ⟨w.heap.size, 6, none⟩ = some (.int .i64 h.lim.sn)) (first | go_keep)
          (first
            | (go_at_call 62; refine (field6_t _ _).mono ?_; rintro e w1 ⟨rfl, rfl⟩)
            | (go_at_call 25; refine (putn_t _ _ _ ?_ ?_ ?_ ?_).mono ?_; (omega); (omega); (omega); (omega); rintro e w1 ⟨rfl, hb1⟩; have hp1 : Below W.heap.size W w1 := ⟨hb1.os, hb1.tape, hb1.output, hb1.size, hb1.block⟩; have p0 : w1.cell? ⟨wr.heap.size, 0, none⟩ = some (.int .i64 1) := (by rw [hp1.cell (by show wr.heap.size < _; omega)]; exact s0); have p1 : w1.cell? ⟨wr.heap.size, 1, none⟩ = some (.func (.func 62) #[] #[]) := (by rw [hp1.cell (by show wr.heap.size < _; omega)]; exact s1); have p2 : w1.cell? ⟨w.heap.size, 6, none⟩ = some (.int .i64 h.lim.sn) := (by rw [hp1.cell (by show w.heap.size < _; omega)]; exact s2))
            | (go_at_call 24; refine (write_t w0.heap.size b (l ++ nums ((fieldsOf h).take 6)) _ _ ((HB.out.on HWB.out).on hp1) ?_ ?_).mono ?_; (rw [List.length_append, lowS_size]; have := nums_take h 6; omega); (have := hp1.size; omega); rintro e w2 ⟨rfl, hbd2, hbe2, hot2⟩; have q0 : w2.cell? ⟨wr.heap.size, 0, none⟩ = some (.int .i64 1) := (by rw [cell_of_row w2 _ _ _ _ _ (hot2.block (show w1.heap[wr.heap.size]? = _ by rw [hp1.block _ (by omega)]; exact HWN.out) (by omega) (by decide))]; rfl); have q1 : w2.cell? ⟨wr.heap.size, 1, none⟩ = some (.func (.func 62) #[] #[]) := (by rw [cell_of_row w2 _ _ _ _ _ (hot2.block (show w1.heap[wr.heap.size]? = _ by rw [hp1.block _ (by omega)]; exact HWN.out) (by omega) (by decide))]; rfl); have q2 : w2.cell? ⟨w.heap.size, 6, none⟩ = some (.int .i64 h.lim.sn) := (by rw [cell_of_row w2 _ _ _ _ _ (hot2.block (show w1.heap[w.heap.size]? = _ by rw [hp1.block _ (by omega), HWB.out.block _ hhl]; exact HH.out) (by omega) (by decide))]; rfl)))
        have HF2 : Hid (w2.heap[w.heap.size + 1]? = some (.cells fieldCells 76 (0, 0))) := hot2.block (show w1.heap[w.heap.size + 1]? = _ by rw [hp1.block _ (by omega), HWB.out.block _ hfl]; exact HF.out) (by omega) (by decide)
        have HH2 : Hid (w2.heap[w.heap.size]? = some (.cells (houseCells h (.slice sa h.segs.length sc)) 42 (0, 0))) := hot2.block (show w1.heap[w.heap.size]? = _ by rw [hp1.block _ (by omega), HWB.out.block _ hhl]; exact HH.out) (by omega) (by decide)
        have HW2 : Hid (Below w0.heap.size w0 w2) := ((HW1.out.trans (HWB.out.mono HW1.out.size)).trans (hp1.mono (by omega))).trans hbe2
        have HB2 : Hid (Bd w2 w0.heap.size b (l ++ nums ((fieldsOf h).take 7))) := by
          have := hbd2
          rw [List.append_assoc] at this
          exact this
        clear hbd2 hbe2 hot2 q0 q1 q2 p0 p1 p2 hp1 hb1 HWB HWN s0 s1 s2 HB HH HF HW1
        go_wp2_with fail
        exact ⟨⟨7, by omega, rfl, HB2, HW2, HH2, HF2⟩, by simp [intOf]⟩
      · have g0 : wr.cell? ⟨w.heap.size + 1, 14, none⟩ = some (.int .i64 6) := by rw [cell_of_row wr _ _ _ _ _ HF.out]; rfl
        have g1 : wr.cell? ⟨w.heap.size + 1, 15, none⟩ = some (.func (.func 63) #[] #[]) := by rw [cell_of_row wr _ _ _ _ _ HF.out]; rfl
        have hst := store_fn wr 6 63
        have hv := HF1.out (6, h.lim.gr) (by simp [fieldsOf])
        have hv0 : 0 ≤ h.lim.gr := hv.1
        have hv1 : h.lim.gr < 281474976710656 := by have := hv.2; simp at this; omega
        clear hv
        go_wp2_with fail
        clear g0 g1 hst
        generalize hW : wr.alloc _ = W
        have s0 : W.cell? ⟨wr.heap.size, 0, none⟩ = some (.int .i64 6) := by rw [← hW]; simp
        have s1 : W.cell? ⟨wr.heap.size, 1, none⟩ = some (.func (.func 63) #[] #[]) := by rw [← hW]; simp
        have s2 : W.cell? ⟨w.heap.size, 7, none⟩ = some (.int .i64 h.lim.gr) := by rw [← hW, ((Below.refl _ wr).alloc (Nat.le_refl _) _).cell hhl, cell_of_row wr _ _ _ _ _ HH.out]; rfl
        have hWs : W.heap.size = wr.heap.size + 1 := by rw [← hW]; simp
        have HWB : Hid (Below wr.heap.size wr W) := by rw [← hW]; exact (Below.refl _ wr).alloc (Nat.le_refl _) _
        have HWN : Hid (W.heap[wr.heap.size]? = some (.cells #[.int .i64 6, .func (.func 63) #[] #[]] 76 (0, 0))) := by rw [← hW]; exact heap_alloc_new _ _
        clear hW
        go_region_held3 (fun w' => w'.cell? ⟨wr.heap.size, 0, none⟩ = some (.int .i64 6) ∧ w'.cell? ⟨wr.heap.size, 1, none⟩ = some (.func (.func 63) #[] #[]) ∧ w'.cell? ⟨w.heap.size, 7, none⟩ = some (.int .i64 h.lim.gr)) (first | go_keep)
          (first
            | (go_at_call 63; refine (field7_t _ _).mono ?_; rintro e w1 ⟨rfl, rfl⟩)
            | (go_at_call 25; refine (putn_t _ _ _ ?_ ?_ ?_ ?_).mono ?_; (omega); (omega); (omega); (omega); rintro e w1 ⟨rfl, hb1⟩; have hp1 : Below W.heap.size W w1 := ⟨hb1.os, hb1.tape, hb1.output, hb1.size, hb1.block⟩; have p0 : w1.cell? ⟨wr.heap.size, 0, none⟩ = some (.int .i64 6) := (by rw [hp1.cell (by show wr.heap.size < _; omega)]; exact s0); have p1 : w1.cell? ⟨wr.heap.size, 1, none⟩ = some (.func (.func 63) #[] #[]) := (by rw [hp1.cell (by show wr.heap.size < _; omega)]; exact s1); have p2 : w1.cell? ⟨w.heap.size, 7, none⟩ = some (.int .i64 h.lim.gr) := (by rw [hp1.cell (by show w.heap.size < _; omega)]; exact s2))
            | (go_at_call 24; refine (write_t w0.heap.size b (l ++ nums ((fieldsOf h).take 7)) _ _ ((HB.out.on HWB.out).on hp1) ?_ ?_).mono ?_; (rw [List.length_append, lowS_size]; have := nums_take h 7; omega); (have := hp1.size; omega); rintro e w2 ⟨rfl, hbd2, hbe2, hot2⟩; have q0 : w2.cell? ⟨wr.heap.size, 0, none⟩ = some (.int .i64 6) := (by rw [cell_of_row w2 _ _ _ _ _ (hot2.block (show w1.heap[wr.heap.size]? = _ by rw [hp1.block _ (by omega)]; exact HWN.out) (by omega) (by decide))]; rfl); have q1 : w2.cell? ⟨wr.heap.size, 1, none⟩ = some (.func (.func 63) #[] #[]) := (by rw [cell_of_row w2 _ _ _ _ _ (hot2.block (show w1.heap[wr.heap.size]? = _ by rw [hp1.block _ (by omega)]; exact HWN.out) (by omega) (by decide))]; rfl); have q2 : w2.cell? ⟨w.heap.size, 7, none⟩ = some (.int .i64 h.lim.gr) := (by rw [cell_of_row w2 _ _ _ _ _ (hot2.block (show w1.heap[w.heap.size]? = _ by rw [hp1.block _ (by omega), HWB.out.block _ hhl]; exact HH.out) (by omega) (by decide))]; rfl)))
        have HF2 : Hid (w2.heap[w.heap.size + 1]? = some (.cells fieldCells 76 (0, 0))) := hot2.block (show w1.heap[w.heap.size + 1]? = _ by rw [hp1.block _ (by omega), HWB.out.block _ hfl]; exact HF.out) (by omega) (by decide)
        have HH2 : Hid (w2.heap[w.heap.size]? = some (.cells (houseCells h (.slice sa h.segs.length sc)) 42 (0, 0))) := hot2.block (show w1.heap[w.heap.size]? = _ by rw [hp1.block _ (by omega), HWB.out.block _ hhl]; exact HH.out) (by omega) (by decide)
        have HW2 : Hid (Below w0.heap.size w0 w2) := ((HW1.out.trans (HWB.out.mono HW1.out.size)).trans (hp1.mono (by omega))).trans hbe2
        have HB2 : Hid (Bd w2 w0.heap.size b (l ++ nums ((fieldsOf h).take 8))) := by
          have := hbd2
          rw [List.append_assoc] at this
          exact this
        clear hbd2 hbe2 hot2 q0 q1 q2 p0 p1 p2 hp1 hb1 HWB HWN s0 s1 s2 HB HH HF HW1
        go_wp2_with fail
        exact ⟨⟨8, by omega, rfl, HB2, HW2, HH2, HF2⟩, by simp [intOf]⟩
      · have g0 : wr.cell? ⟨w.heap.size + 1, 16, none⟩ = some (.int .i64 2) := by rw [cell_of_row wr _ _ _ _ _ HF.out]; rfl
        have g1 : wr.cell? ⟨w.heap.size + 1, 17, none⟩ = some (.func (.func 64) #[] #[]) := by rw [cell_of_row wr _ _ _ _ _ HF.out]; rfl
        have hst := store_fn wr 2 64
        have hv := HF1.out (2, h.lim.bu) (by simp [fieldsOf])
        have hv0 : 0 ≤ h.lim.bu := hv.1
        have hv1 : h.lim.bu < 281474976710656 := by have := hv.2; simp at this; omega
        clear hv
        go_wp2_with fail
        clear g0 g1 hst
        generalize hW : wr.alloc _ = W
        have s0 : W.cell? ⟨wr.heap.size, 0, none⟩ = some (.int .i64 2) := by rw [← hW]; simp
        have s1 : W.cell? ⟨wr.heap.size, 1, none⟩ = some (.func (.func 64) #[] #[]) := by rw [← hW]; simp
        have s2 : W.cell? ⟨w.heap.size, 8, none⟩ = some (.int .i64 h.lim.bu) := by rw [← hW, ((Below.refl _ wr).alloc (Nat.le_refl _) _).cell hhl, cell_of_row wr _ _ _ _ _ HH.out]; rfl
        have hWs : W.heap.size = wr.heap.size + 1 := by rw [← hW]; simp
        have HWB : Hid (Below wr.heap.size wr W) := by rw [← hW]; exact (Below.refl _ wr).alloc (Nat.le_refl _) _
        have HWN : Hid (W.heap[wr.heap.size]? = some (.cells #[.int .i64 2, .func (.func 64) #[] #[]] 76 (0, 0))) := by rw [← hW]; exact heap_alloc_new _ _
        clear hW
        go_region_held3 (fun w' => w'.cell? ⟨wr.heap.size, 0, none⟩ = some (.int .i64 2) ∧ w'.cell? ⟨wr.heap.size, 1, none⟩ = some (.func (.func 64) #[] #[]) ∧ w'.cell? ⟨w.heap.size, 8, none⟩ = some (.int .i64 h.lim.bu)) (first | go_keep)
          (first
            | (go_at_call 64; refine (field8_t _ _).mono ?_; rintro e w1 ⟨rfl, rfl⟩)
            | (go_at_call 25; refine (putn_t _ _ _ ?_ ?_ ?_ ?_).mono ?_; (omega); (omega); (omega); (omega); rintro e w1 ⟨rfl, hb1⟩; have hp1 : Below W.heap.size W w1 := ⟨hb1.os, hb1.tape, hb1.output, hb1.size, hb1.block⟩; have p0 : w1.cell? ⟨wr.heap.size, 0, none⟩ = some (.int .i64 2) := (by rw [hp1.cell (by show wr.heap.size < _; omega)]; exact s0); have p1 : w1.cell? ⟨wr.heap.size, 1, none⟩ = some (.func (.func 64) #[] #[]) := (by rw [hp1.cell (by show wr.heap.size < _; omega)]; exact s1); have p2 : w1.cell? ⟨w.heap.size, 8, none⟩ = some (.int .i64 h.lim.bu) := (by rw [hp1.cell (by show w.heap.size < _; omega)]; exact s2))
            | (go_at_call 24; refine (write_t w0.heap.size b (l ++ nums ((fieldsOf h).take 8)) _ _ ((HB.out.on HWB.out).on hp1) ?_ ?_).mono ?_; (rw [List.length_append, lowS_size]; have := nums_take h 8; omega); (have := hp1.size; omega); rintro e w2 ⟨rfl, hbd2, hbe2, hot2⟩; have q0 : w2.cell? ⟨wr.heap.size, 0, none⟩ = some (.int .i64 2) := (by rw [cell_of_row w2 _ _ _ _ _ (hot2.block (show w1.heap[wr.heap.size]? = _ by rw [hp1.block _ (by omega)]; exact HWN.out) (by omega) (by decide))]; rfl); have q1 : w2.cell? ⟨wr.heap.size, 1, none⟩ = some (.func (.func 64) #[] #[]) := (by rw [cell_of_row w2 _ _ _ _ _ (hot2.block (show w1.heap[wr.heap.size]? = _ by rw [hp1.block _ (by omega)]; exact HWN.out) (by omega) (by decide))]; rfl); have q2 : w2.cell? ⟨w.heap.size, 8, none⟩ = some (.int .i64 h.lim.bu) := (by rw [cell_of_row w2 _ _ _ _ _ (hot2.block (show w1.heap[w.heap.size]? = _ by rw [hp1.block _ (by omega), HWB.out.block _ hhl]; exact HH.out) (by omega) (by decide))]; rfl)))
        have HF2 : Hid (w2.heap[w.heap.size + 1]? = some (.cells fieldCells 76 (0, 0))) := hot2.block (show w1.heap[w.heap.size + 1]? = _ by rw [hp1.block _ (by omega), HWB.out.block _ hfl]; exact HF.out) (by omega) (by decide)
        have HH2 : Hid (w2.heap[w.heap.size]? = some (.cells (houseCells h (.slice sa h.segs.length sc)) 42 (0, 0))) := hot2.block (show w1.heap[w.heap.size]? = _ by rw [hp1.block _ (by omega), HWB.out.block _ hhl]; exact HH.out) (by omega) (by decide)
        have HW2 : Hid (Below w0.heap.size w0 w2) := ((HW1.out.trans (HWB.out.mono HW1.out.size)).trans (hp1.mono (by omega))).trans hbe2
        have HB2 : Hid (Bd w2 w0.heap.size b (l ++ nums ((fieldsOf h).take 9))) := by
          have := hbd2
          rw [List.append_assoc] at this
          exact this
        clear hbd2 hbe2 hot2 q0 q1 q2 p0 p1 p2 hp1 hb1 HWB HWN s0 s1 s2 HB HH HF HW1
        go_wp2_with fail
        exact ⟨⟨9, by omega, rfl, HB2, HW2, HH2, HF2⟩, by simp [intOf]⟩
    · have hk9 : k = 9 := by omega
      subst hk9
      have HB9 : Hid (Bd wr w0.heap.size b (l ++ nums (fieldsOf h))) := HB.out
      have hhl : w.heap.size < wr.heap.size := (Array.getElem?_eq_some_iff.1 HH.out).1
      have hw1s := HW1.out.size
      have c9 : wr.cell? ⟨w.heap.size, 9, none⟩ = some (.slice sa h.segs.length sc) := by rw [cell_of_row wr _ _ _ _ _ HH.out]; rfl
      have HNL := tabhid (nums_length h)
      clear HB HF HF1
      go_wp2_with fail
      refine (putn_t _ _ _ (by omega) (by omega) (by omega) (by omega)).mono ?_
      rintro e w1 ⟨rfl, hb1⟩
      have HH1 : Hid (w1.heap[w.heap.size]? = some (.cells (houseCells h (.slice sa h.segs.length sc)) 42 (0, 0))) := by show _ = _; rw [hb1.block _ hhl]; exact HH.out
      have HB1 := tabhid (HB9.out.on hb1)
      have HW2 : Hid (Below w0.heap.size w0 w1) := HW1.out.trans (hb1.mono (by omega))
      have hb1s := hb1.size
      clear hb1 HH HB9 HW1 c9
      go_wp2_with fail
      refine (write_t w0.heap.size b (l ++ nums (fieldsOf h)) _ _ HB1.out (by rw [List.length_append, lowS_size]; have := HNL.out; omega) (by omega)).mono ?_
      rintro e w2 ⟨rfl, hbd2, hbe2, hot2⟩
      have HH2 : Hid (w2.heap[w.heap.size]? = some (.cells (houseCells h (.slice sa h.segs.length sc)) 42 (0, 0))) := hot2.block HH1.out (by omega) (by decide)
      have HW3 : Hid (Below w0.heap.size w0 w2) := HW2.out.trans hbe2
      have HBL : Hid (Bd w2 w0.heap.size b (l ++ nums (fieldsOf h) ++ Bin.low 1 h.segs.length)) := hbd2
      have c9 : w2.cell? ⟨w.heap.size, 9, none⟩ = some (.slice sa h.segs.length sc) := by rw [cell_of_row w2 _ _ _ _ _ HH2.out]; rfl
      have hL : Hid ((l ++ nums (fieldsOf h) ++ Bin.low 1 h.segs.length).length ≤ 100100) := by
        show _ ≤ _
        rw [List.length_append, List.length_append, Bin.low_length]
        have := HNL.out
        omega
      clear hbd2 hbe2 hot2 HB1 HH1 HW2 HNL
      go_wp2_with fail
      go_loopw [34] (fun c w3 => ∃ (i : Nat), i ≤ h.segs.length ∧ c = .int .i64 i ∧ Hid (Bd w3 w0.heap.size b (l ++ nums (fieldsOf h) ++ Bin.low 1 h.segs.length ++ segBytes (h.segs.take i))) ∧ Hid (Below w0.heap.size w0 w3) ∧ Hid (w3.heap[w.heap.size]? = some (.cells (houseCells h (.slice sa h.segs.length sc)) 42 (0, 0)))) (fun c _ => h.segs.length - (intOf c).toNat)
      case atStart =>
        refine ⟨0, by omega, rfl, ?_, HW3, HH2⟩
        show Bd _ _ _ _
        simp only [List.take_zero, segBytes, List.flatMap_nil, List.append_nil]
        exact HBL.out
      case round =>
        obtain ⟨i, hi, rfl, HB3, HW4, HH3⟩ := hrel
        rename World => w3
        have hhl3 : w.heap.size < w3.heap.size := (Array.getElem?_eq_some_iff.1 HH3.out).1
        have hw4s := HW4.out.size
        have hsl : (segBytes (h.segs.take i)).length ≤ 80 := by rw [segBytes_length, List.length_take]; omega
        clear HBL HW3 HH2 c9
        by_cases hlt : i < h.segs.length
        · obtain ⟨sb, so, rfl, hsb, hsi⟩ := HSC.out (by omega)
          have hx := HF3.out h.segs[i] (List.getElem_mem hlt)
          have c0 : w3.cell? ⟨sb, so + i, none⟩ = some (.int .i64 h.segs[i]) := by rw [HW4.out.cell hsb]; exact hsi i hlt
          have HSN : Hid (segBytes (h.segs.take (i + 1)) = segBytes (h.segs.take i) ++ Bin.low 2 h.segs[i]) := by
            show _ = _
            rw [List.take_succ_eq_append_getElem hlt]
            simp only [segBytes, List.flatMap_append, List.flatMap_cons, List.flatMap_nil, List.append_nil]
          clear hsi HSC
          generalize h.segs[i] = y at *
          go_wp2_with fail
          refine (putn_t _ _ _ (by omega) (by omega) (by omega) (by omega)).mono ?_
          rintro e w5 ⟨rfl, hb5⟩
          have HH5 : Hid (w5.heap[w.heap.size]? = some (.cells (houseCells h (.slice (some ⟨sb, so, none⟩) h.segs.length sc)) 42 (0, 0))) := by show _ = _; rw [hb5.block _ hhl3]; exact HH3.out
          have HB5 := tabhid (HB3.out.on hb5)
          have HW5 : Hid (Below w0.heap.size w0 w5) := HW4.out.trans (hb5.mono (by omega))
          have hb5s := hb5.size
          clear hb5 HH3 HB3 HW4 c0
          go_wp2_with fail
          refine (write_t w0.heap.size b _ _ _ HB5.out (by rw [List.length_append, lowS_size]; have := hL.out; omega) (by omega)).mono ?_
          rintro e w6 ⟨rfl, hbd6, hbe6, hot6⟩
          have HH6 : Hid (w6.heap[w.heap.size]? = some (.cells (houseCells h (.slice (some ⟨sb, so, none⟩) h.segs.length sc)) 42 (0, 0))) := hot6.block HH5.out (by omega) (by decide)
          have HW6 : Hid (Below w0.heap.size w0 w6) := HW5.out.trans hbe6
          have HB6 : Hid (Bd w6 w0.heap.size b (l ++ nums (fieldsOf h) ++ Bin.low 1 h.segs.length ++ segBytes (h.segs.take (i + 1)))) := by
            show Bd _ _ _ _
            rw [HSN.out, ← List.append_assoc]
            exact hbd6
          clear hbd6 hbe6 hot6 HB5 HH5 HW5 HSN
          go_wp2_with fail
          exact ⟨⟨i + 1, by omega, by go_num, HB6, HW6, HH6⟩, by simp [intOf]; omega⟩
        · have hil : i = h.segs.length := by omega
          have HB4 : Hid (Bd w3 w0.heap.size b (l ++ nums (fieldsOf h) ++ Bin.low 1 h.segs.length ++ segBytes h.segs)) := by
            have := HB3.out
            rw [hil, List.take_length] at this
            exact this
          have hsl2 : (segBytes h.segs).length ≤ 80 := by rw [segBytes_length]; omega
          have c9 : w3.cell? ⟨w.heap.size, 9, none⟩ = some (.slice sa h.segs.length sc) := by rw [cell_of_row w3 _ _ _ _ _ HH3.out]; rfl
          have HE : Hid (l ++ hbytes h = l ++ nums (fieldsOf h) ++ Bin.low 1 h.segs.length ++ segBytes h.segs ++ List.replicate (2 * (40 - h.segs.length)) 0) := by
            show _ = _
            unfold hbytes
            simp only [List.append_assoc]
          have hd1 : (40 : Int) - (h.segs.length : Int) = ((40 - h.segs.length : Nat) : Int) := by omega
          have hd2 : (2 : Int) * ((40 - h.segs.length : Nat) : Int) = ((2 * (40 - h.segs.length) : Nat) : Int) := by omega
          have hd3 : 2 * (40 - h.segs.length) ≤ 80 := by omega
          generalize 2 * (40 - h.segs.length) = d2 at *
          generalize 40 - h.segs.length = d1 at *
          clear HB3 hil
          go_wp2_with fail
          refine (zerosS_t d2 _ (by omega)).mono ?_
          rintro e w5 ⟨rfl, hb5⟩
          have HB5 := tabhid (HB4.out.on hb5)
          have HW5 : Hid (Below w0.heap.size w0 w5) := HW4.out.trans (hb5.mono (by omega))
          have hb5s := hb5.size
          clear hb5 HH3 HB4 HW4 c9
          go_wp2_with fail
          refine (write_t w0.heap.size b _ _ _ HB5.out (by rw [List.length_append, zerosS_size]; have := hL.out; omega) (by omega)).mono ?_
          rintro e w6 ⟨rfl, hbd6, hbe6, hot6⟩
          have HW6 : Hid (Below w0.heap.size w0 w6) := HW5.out.trans hbe6
          have HB6 : Hid (Bd w6 w0.heap.size b (l ++ hbytes h)) := by
            show Bd _ _ _ _
            rw [HE.out]
            exact hbd6
          clear hbd6 hbe6 hot6 HB5 HW5
          go_wp2_with fail
          go_end0
          exact ⟨rfl, HB6.out, HW6.out⟩
end Go.Proofs.Ytdhdjnpgebddmaa
