/- What was put is got; the laws' own awake walked. -/
import Derived.Test.YtclfpblnjdlnfaaNodeGetAll
import Derived.Test.YtclfpblnjdlnfaaZeros
import Derived.Test.YtclfpblnjdlnfaaPlace
import Derived.Deep.WholeRow
namespace Go.Proofs.Ytclfpblnjdlnfaa
open Go.RowKit Rec Nod

theorem gotX_put {x : Nd} (hp : okB x = true) : gotX (putS x) = x := by
  have k := get_put hp
  unfold gotX
  rw [k.1, k.2]
  rfl
theorem gotX_no {s : ByteArray} (h : getB s = false) : gotX s = Nd.z := by
  unfold gotX
  rw [h]
  rfl

/-- What was put is got. -/
theorem rget_t (x : Nd) (w : World) (hp : okB x = true) :
    Calls Try.prog 10 #[.string (putS x)] w fun e w' => e = .returned (.tuple #[nodeV x, .bool true]) ∧ Below w.heap.size w w' := by
  have := nget_t (putS x) w (by rw [putS_size hp]; decide)
  rw [gotX_put hp, (get_put hp).1] at this
  exact this
/-- What is no node is not got. -/
theorem nog_t (s : ByteArray) (w : World) (h : getB s = false) (hl : s.size ≤ 9223372036854775807) :
    Calls Try.prog 10 #[.string s] w fun e w' => e = .returned (.tuple #[nodeV Nd.z, .bool false]) ∧ Below w.heap.size w w' := by
  have := nget_t s w hl
  rw [gotX_no h, h] at this
  exact this

abbrev wakeX : Nd := ⟨3, 1, 1, 700, 0, 0, 0, 0, 0, 0, 0, 0, 0, 0, 0, 0, 0, 0, 0⟩
theorem wake_put : okB wakeX = true := by decide

set_option maxRecDepth 10000 in
set_option maxHeartbeats 2000000 in
theorem awake_t (w : World) : Calls Try.prog 7 #[] w fun e w' => e = .returned (.bool true) ∧ Below w.heap.size w w' := by
  have PUT := ndhid (nput_t wakeX w)
  rw [wake_put] at PUT
  have GET := ndhid (fun w1 => rget_t wakeX w1 wake_put)
  have NO := ndhid (fun w1 => nog_t (zerosS 256) w1 (get_zero (zerosS_list 256)) (by rw [zerosS_size]; decide))
  have HCV : Hid (∀ g wr, wr.heap[g]? = some (.cells (zrow 256) 5 (0, 0)) → (convert 33 9 (.slice (some ⟨g, 0, none⟩) 256 256)).run Try.prog wr = .ok (.string (zerosS 256)) wr) := fun g wr h => zconv 256 g wr h
  have HMK : Hid (∀ w1 : World, (Instr.makeSlice 33 (.int .i64 256) (.int .i64 256)).run Try.prog w1 = .ok (.slice (some ⟨w1.heap.size, 0, none⟩) 256 256) (w1.alloc (.cells (zrow 256) 5))) := zmake 256 (by decide)
  generalize putS wakeX = S at *
  generalize zrow 256 = Z at *
  generalize zerosS 256 = ZS at *
  go_enter Try.func7, Try.ntmps7
  go_wp2_with fail
  refine PUT.out.mono ?_
  rintro e w1 ⟨rfl, hb1⟩
  have HB1 := ndhid hb1
  clear hb1 PUT
  go_wp2_with fail
  refine (GET.out _).mono ?_
  rintro e w2 ⟨rfl, hb2⟩
  have HB2 : Hid (Below w.heap.size w w2) := HB1.out.trans (hb2.mono HB1.out.size)
  clear hb2 GET HB1
  go_wp2_with (first | (refine wpList_store_row rfl 24 (.tmp 3) (.tmp 15) rfl w2.heap.size (nodeC wakeX) rfl rfl 24 (nodeC Nd.z) (heap_alloc_new _ _) Try.nodeSize rfl (nodeC_one wakeX) ?_; rw [World.setRow_alloc_new]) | fail)
  generalize hW : w2.alloc _ = W
  have HX : Hid (W.heap[w2.heap.size]? = some (.cells (nodeC wakeX) 24 (0, 0))) := by rw [← hW]; exact heap_alloc_new _ _
  have hws : w2.heap.size < W.heap.size := by rw [← hW]; simp
  have HBW : Hid (Below w.heap.size w W) := by rw [← hW]; exact HB2.out.alloc HB2.out.size _
  have hmk := HMK.out W
  have hcv := HCV.out W.heap.size (W.alloc (.cells Z 5)) (heap_alloc_new _ _)
  clear hW HMK HCV HB2
  rw [hmk]
  go_wp2_with fail
  refine (NO.out _).mono ?_
  rintro e w3 ⟨rfl, hb3⟩
  have HX3 : Hid (w3.heap[w2.heap.size]? = some (.cells (nodeC wakeX) 24 (0, 0))) := by show _ = _; rw [hb3.block _ (by simp; omega), Below.heap_alloc _ _ _ hws]; exact HX.out
  have hw3 : w2.heap.size < w3.heap.size := by have := hb3.size; simp at this; omega
  have HX4 : Hid (∀ o, (w3.alloc o).heap[w2.heap.size]? = some (.cells (nodeC wakeX) 24 (0, 0))) := fun o => by rw [Below.heap_alloc _ _ _ hw3]; exact HX3.out
  have d0 : ∀ o, (w3.alloc o).cell? ⟨w2.heap.size, 0, none⟩ = some (.int .i64 3) := fun o => (cell_of_row _ _ _ _ _ _ (HX4.out o)).trans rfl
  have d3 : ∀ o, (w3.alloc o).cell? ⟨w2.heap.size, 3, none⟩ = some (.int .i64 700) := fun o => (cell_of_row _ _ _ _ _ _ (HX4.out o)).trans rfl
  have HB3 : Hid (Below w.heap.size w w3) := (HBW.out.alloc HBW.out.size _).trans (hb3.mono (by have := HBW.out.size; simp; omega))
  clear hb3 NO hmk hcv HX HX3 HX4 HBW
  go_wp2_with (first | (refine wpList_store_row rfl 24 (.tmp 5) (.tmp 21) rfl w3.heap.size (nodeC Nd.z) rfl rfl 24 (nodeC Nd.z) (heap_alloc_new _ _) Try.nodeSize rfl (nodeC_one Nd.z) ?_; rw [World.setRow_alloc_new]) | fail)
  go_ret
  exact ⟨rfl, HB3.out.alloc HB3.out.size _⟩
end Go.Proofs.Ytclfpblnjdlnfaa
