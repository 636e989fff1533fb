/- New. -/
import Derived.Test.YtaiebhkjkeadoaaDiskMeth
namespace Go.Proofs.Ytaiebhkjkeadoaa
open Go.RowKit

/-- The cells of a new disk's head. -/
def newHead (g n : Nat) : Array Value := #[.slice (some ⟨g, 0, none⟩) n n, .slice none 0 0, .slice none 0 0, .slice none 0 0, .slice none 0 0, .slice none 0 0, .slice none 0 0, .slice none 0 0, .slice none 0 0,
  .slice none 0 0, .slice none 0 0, .slice none 0 0, .slice none 0 0, .slice none 0 0, .slice none 0 0, .slice none 0 0, .slice none 0 0, .slice none 0 0, .int .i64 0, .int .i64 0, .bool false]

set_option maxHeartbeats 400000 in
theorem new_t (n : Nat) (w : World) (hn : 1 ≤ n) (hn2 : n ≤ 16384) :
    Calls Try.prog 8 #[.int .i64 n] w fun e w' => e = .returned (.pointer (some ⟨w.heap.size + 1, 0, none⟩)) ∧ w' = (w.alloc (.cells (zcells (n * 256)) 90)).alloc (.cells (newHead w.heap.size n) 58) := by
  have hmk := make_sectors n hn2
  have hx : max (n : Int) 1 = n := by omega
  have hm : min (n : Int) 16384 = n := by omega
  go_enter Try.func8, Try.ntmps8
  go_wp2
  go_ret
  exact ⟨rfl, rfl⟩

set_option maxHeartbeats 400000 in
theorem new_small (n : Int) (w : World) (hn : n ≤ 0) :
    Calls Try.prog 8 #[.int .i64 n] w fun e w' => e = .returned (.pointer (some ⟨w.heap.size + 1, 0, none⟩)) ∧ w' = (w.alloc (.cells (zcells (1 * 256)) 90)).alloc (.cells (newHead w.heap.size 1) 58) := by
  have hmk : ∀ w, (Instr.makeSlice 54 (.int .i64 1) (.int .i64 1)).run Try.prog w = .ok (.slice (some ⟨w.heap.size, 0, none⟩) 1 1) (w.alloc (.cells (zcells (1 * 256)) 90)) := make_sectors 1 (by omega)
  have hx : max n 1 = 1 := by omega
  have hm : min (1 : Int) 16384 = 1 := by omega
  go_enter Try.func8, Try.ntmps8
  go_wp2
  go_ret
  exact ⟨rfl, rfl⟩

/-- A new disk. -/
def St.new (n : Nat) : St := ⟨n, fun _ => zbytes 256, fun _ => [], 0, 0, false⟩

theorem zbytes_get (n j : Nat) (h : j < (zbytes n).size) : (zbytes n)[j] = 0 := by
  have e : (zbytes n)[j] = (zbytes n).data[j]'h := rfl
  rw [e]; simp [zbytes]

theorem disk_made (n : Nat) (w : World) (hn : 1 ≤ n) (hn2 : n ≤ 16384) :
    Disk ((w.alloc (.cells (zcells (n * 256)) 90)).alloc (.cells (newHead w.heap.size n) 58)) (w.heap.size + 1) (St.new n) w.heap.size (fun _ => .slice none 0 0) := by
  refine ⟨⟨newHead w.heap.size n, heap_alloc2_new _ _ _, rfl, rfl, fun o ho => ?_, rfl, rfl, rfl⟩, ⟨zcells (n * 256), heap_alloc2_old _ _ _, (by show (zcells (n * 256)).size = n * 256; simp [zcells]), fun i hi => ⟨zbytes_size 256, fun j hj => ?_⟩⟩, fun o _ => World.ownsRow_nil _ _ _ _, by omega,
    fun o _ g hg => (by cases hg), fun o o' _ _ _ g hg => (by cases hg), ⟨hn, hn2, Nat.zero_le _, Nat.zero_le _, fun _ _ _ hx => (by cases hx), fun _ _ => Nat.zero_le _⟩⟩
  · rcases (show o = 0 ∨ o = 1 ∨ o = 2 ∨ o = 3 ∨ o = 4 ∨ o = 5 ∨ o = 6 ∨ o = 7 ∨ o = 8 ∨ o = 9 ∨ o = 10 ∨ o = 11 ∨ o = 12 ∨ o = 13 ∨ o = 14 ∨ o = 15 ∨ o = 16 by omega) with rfl | rfl | rfl | rfl | rfl | rfl | rfl | rfl | rfl | rfl | rfl | rfl | rfl | rfl | rfl | rfl | rfl <;> rfl
  · have hi' : i < n := hi
    dsimp only [St.new] at hj ⊢
    rw [zbytes_get 256 j hj]
    rw [zbytes_size] at hj
    have : i * 256 + j < n * 256 := by omega
    simp only [zcells, List.getElem?_toArray, List.getElem?_replicate, if_pos this]
    rfl

theorem disk_new (n : Nat) (w : World) (hn : 1 ≤ n) (hn2 : n ≤ 16384) :
    Calls Try.prog 8 #[.int .i64 n] w fun e w' => ∃ b gd V, e = .returned (.pointer (some ⟨b, 0, none⟩)) ∧ Disk w' b (St.new n) gd V ∧ Below w.heap.size w w' ∧ ∀ k, foot b gd V k → w.heap.size ≤ k := by
  refine (new_t n w hn hn2).mono ?_
  rintro e w' ⟨rfl, rfl⟩
  refine ⟨_, _, _, rfl, disk_made n w hn hn2, ((Below.refl _ w).alloc (Nat.le_refl _) _).alloc (by simp) _, fun k hf => ?_⟩
  rcases hf with rfl | rfl | ⟨o, _, e⟩
  · omega
  · omega
  · cases e

theorem disk_new_small (n : Int) (w : World) (hn : n ≤ 0) :
    Calls Try.prog 8 #[.int .i64 n] w fun e w' => ∃ b gd V, e = .returned (.pointer (some ⟨b, 0, none⟩)) ∧ Disk w' b (St.new 1) gd V ∧ Below w.heap.size w w' ∧ ∀ k, foot b gd V k → w.heap.size ≤ k := by
  refine (new_small n w hn).mono ?_
  rintro e w' ⟨rfl, rfl⟩
  refine ⟨_, _, _, rfl, disk_made 1 w (by omega) (by omega), ((Below.refl _ w).alloc (Nat.le_refl _) _).alloc (by simp) _, fun k hf => ?_⟩
  rcases hf with rfl | rfl | ⟨o, _, e⟩
  · omega
  · omega
  · cases e

section
variable {w : World} {b gd : Nat} {S : St} {V : Nat → Value}

theorem kNew (n : Int) (w : World) (h1 : 1 ≤ n) (h2 : n ≤ 16384) :
    Calls Try.prog 8 #[.int .i64 n] w fun e w' => ∃ b gd V, e = .returned (.pointer (some ⟨b, 0, none⟩)) ∧ Disk w' b (St.new n.toNat) gd V ∧ Below w.heap.size w w' ∧ ∀ k, foot b gd V k → w.heap.size ≤ k := by
  obtain ⟨m, rfl⟩ := Int.eq_ofNat_of_zero_le (show 0 ≤ n by omega)
  exact disk_new m w (by omega) (by omega)
end
end Go.Proofs.Ytaiebhkjkeadoaa
