/- What was put is got; the laws' own awake walked. -/
import Derived.Test.YtgpjjbffndmhjaaSlotGetAll
import Derived.Test.YtgpjjbffndmhjaaZeros
import Derived.Test.YtgpjjbffndmhjaaPlace
namespace Go.Proofs.Ytgpjjbffndmhjaa
open Go.RowKit Rec Slt

theorem gotV_put {h g : Int} {x : Sl} (hp : putB h g x = true) : gotV (putS h g x) = .tuple #[.int .i64 h, .int .i64 g, slotV x, .bool true] := by
  have k := get_put hp
  unfold gotV
  rw [k.1, k.2.1, k.2.2.1, k.2.2.2]
  rfl
theorem gotV_no {s : ByteArray} (h : getB s = false) : gotV s = .tuple #[.int .i64 0, .int .i64 0, slotV Sl.z, .bool false] := by
  unfold gotV
  rw [h]
  rfl

/-- What was put is got. -/
theorem rget_t (h g : Int) (x : Sl) (w : World) (hp : putB h g x = true) :
    Calls Try.prog 10 #[.string (putS h g x)] w fun e w' => e = .returned (.tuple #[.int .i64 h, .int .i64 g, slotV x, .bool true]) ∧ Below w.heap.size w w' := by
  rw [← gotV_put hp]
  exact sget_t _ w (by rw [putS_size hp]; decide)
/-- What is no state is not got. -/
theorem nget_t (s : ByteArray) (w : World) (h : getB s = false) (hl : s.size ≤ 9223372036854775807) :
    Calls Try.prog 10 #[.string s] w fun e w' => e = .returned (.tuple #[.int .i64 0, .int .i64 0, slotV Sl.z, .bool false]) ∧ Below w.heap.size w w' := by
  rw [← gotV_no h]
  exact sget_t _ w hl

abbrev wakeX : Sl := ⟨1, 1, 0, 0, 0, 0, 7, 0, 0, 0, 0, 0, 0⟩
theorem wake_put : putB 2 5 wakeX = true := by decide

set_option maxRecDepth 10000 in
set_option maxHeartbeats 2000000 in
theorem awake_t (w : World) : Calls Try.prog 7 #[] w fun e w' => e = .returned (.bool true) ∧ Below w.heap.size w w' := by
  have PUT := slthid (sput_t 2 5 wakeX w)
  rw [wake_put] at PUT
  have GET : Hid (∀ w1, Calls Try.prog 10 #[.string (putS 2 5 wakeX)] w1 fun e w' => e = .returned (.tuple #[.int .i64 2, .int .i64 5, .agg #[.int .i64 1, .int .i64 1, .int .i64 0, .int .i64 0, .int .i64 0, .int .i64 0, .int .i64 7, .int .i64 0, .int .i64 0, .int .i64 0, .int .i64 0, .int .i64 0, .int .i64 0], .bool true]) ∧ Below w1.heap.size w1 w') := fun w1 => rget_t 2 5 wakeX w1 wake_put
  have NO : Hid (∀ w1, Calls Try.prog 10 #[.string (zerosS 256)] w1 fun e w' => e = .returned (.tuple #[.int .i64 0, .int .i64 0, .agg #[.int .i64 0, .int .i64 0, .int .i64 0, .int .i64 0, .int .i64 0, .int .i64 0, .int .i64 0, .int .i64 0, .int .i64 0, .int .i64 0, .int .i64 0, .int .i64 0, .int .i64 0], .bool false]) ∧ Below w1.heap.size w1 w') := fun w1 => nget_t (zerosS 256) w1 (get_zero (zerosS_list 256)) (by rw [zerosS_size]; decide)
  have HCV : Hid (∀ g wr, wr.heap[g]? = some (.cells (zrow 256) 5 (0, 0)) → (convert 34 9 (.slice (some ⟨g, 0, none⟩) 256 256)).run Try.prog wr = .ok (.string (zerosS 256)) wr) := fun g wr h => zconv 256 g wr h
  have HMK : Hid (∀ w1 : World, (Instr.makeSlice 34 (.int .i64 256) (.int .i64 256)).run Try.prog w1 = .ok (.slice (some ⟨w1.heap.size, 0, none⟩) 256 256) (w1.alloc (.cells (zrow 256) 5))) := zmake 256 (by decide)
  generalize putS 2 5 wakeX = S at *
  generalize zrow 256 = Z at *
  generalize zerosS 256 = ZS at *
  go_enter Try.func7, Try.ntmps7
  go_wp2_with fail
  refine PUT.out.mono ?_
  rintro e w1 ⟨rfl, hb1⟩
  have HB1 := slthid hb1
  clear hb1 PUT
  go_wp2_with fail
  refine (GET.out _).mono ?_
  rintro e w2 ⟨rfl, hb2⟩
  have HB2 : Hid (Below w.heap.size w w2) := HB1.out.trans (hb2.mono HB1.out.size)
  clear hb2 GET HB1
  go_wp2_with fail
  generalize hW : w2.alloc _ = W
  have c6 : W.cell? ⟨w2.heap.size, 6, none⟩ = some (.int .i64 7) := by rw [← hW]; simp
  have hws : w2.heap.size < W.heap.size := by rw [← hW]; simp
  have HBW : Hid (Below w.heap.size w W) := by rw [← hW]; exact HB2.out.alloc HB2.out.size _
  have hmk := HMK.out W
  have hcv := HCV.out W.heap.size (W.alloc (.cells Z 5)) (heap_alloc_new _ _)
  clear hW HMK HCV HB2
  rw [hmk]
  go_wp2_with fail
  refine (NO.out _).mono ?_
  rintro e w3 ⟨rfl, hb3⟩
  have d6 : w3.cell? ⟨w2.heap.size, 6, none⟩ = some (.int .i64 7) := by rw [hb3.cell (by simp; omega), ((Below.refl _ W).alloc (Nat.le_refl _) _).cell hws]; exact c6
  have hw3 : w2.heap.size < w3.heap.size := by have := hb3.size; simp at this; omega
  have HB3 : Hid (Below w.heap.size w w3) := (HBW.out.alloc HBW.out.size _).trans (hb3.mono (by have := HBW.out.size; simp; omega))
  clear hb3 NO hmk hcv c6 HBW
  go_wp2_with fail
  go_ret
  exact ⟨rfl, HB3.out.alloc HB3.out.size _⟩
end Go.Proofs.Ytgpjjbffndmhjaa
