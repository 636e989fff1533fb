/- Every so manieth segment is a house's, plainly: which are, how many are nobody's. Nothing of the program. -/
import Derived.Test.YtlpcofmifpgflaaPoolRow
namespace Go.Proofs.Ytlpcofmifpgflaa
open Go.RowKit Pool

/-- The first j numbers that e divides. -/
def evs (e : Nat) (j : Nat) : List Int := (List.range j).map fun (t : Nat) => ((t * e : Nat) : Int)
theorem evs_succ (e j : Nat) : evs e (j + 1) = evs e j ++ [((j * e : Nat) : Int)] := by simp [evs, List.range_succ]
theorem evs_length (e j : Nat) : (evs e j).length = j := by simp [evs]
theorem evs_mem {e j k : Nat} (he : 0 < e) (hk : k ≤ j * e) {s : Int} (h0 : 0 ≤ s) (h1 : s < k) : s ∈ evs e j ↔ s % (e : Int) = 0 := by
  unfold evs
  rw [List.mem_map]
  constructor
  · rintro ⟨t, _, rfl⟩
    rw [Int.natCast_mul]
    exact Int.mul_emod_left _ _
  · intro h
    obtain ⟨n, rfl⟩ : ∃ n : Nat, s = (n : Int) := ⟨s.toNat, by omega⟩
    have h2 : n % e = 0 := by omega
    have h3 : n / e * e = n := Nat.div_mul_cancel (Nat.dvd_of_mod_eq_zero h2)
    refine ⟨n / e, List.mem_range.2 ?_, by rw [h3]⟩
    exact (Nat.div_lt_iff_lt_mul he).2 (by omega)

theorem cnt_same {S T : Int → Bool} : ∀ {n : Nat}, (∀ s : Int, 0 ≤ s → s < n → S s = T s) → cnt S n = cnt T n
  | 0, _ => rfl
  | n + 1, h => by
    simp only [cnt]
    rw [cnt_same (S := S) (T := T) (fun s h0 h1 => h s h0 (by omega)), h n (by omega) (by omega)]
theorem freeL_cnt (l : List Ho) : ∀ n : Nat, (freeL l n).length + cnt (tkn l) n = n
  | 0 => rfl
  | n + 1 => by
    have := freeL_cnt l n
    cases h : tkn l (n : Int)
    · rw [freeL_yes l n h, List.length_append]
      simp only [cnt, h, List.length_cons, List.length_nil]
      simp
      omega
    · rw [freeL_no l n h]
      simp only [cnt, h, if_true]
      omega
theorem cnt_mult (e : Nat) (he : 0 < e) : ∀ n : Nat, cnt (fun s => decide (s % (e : Int) = 0)) n = (n + e - 1) / e
  | 0 => by
    rw [Nat.div_eq_of_lt (by omega)]
    rfl
  | n + 1 => by
    simp only [cnt]
    rw [cnt_mult e he n]
    have e1 : n + 1 + e - 1 = (n + e - 1) + 1 := by omega
    rw [e1, Nat.succ_div]
    congr 1
    have e2 : (e ∣ n + e - 1 + 1) ↔ ((n : Int) % (e : Int) = 0) := by
      rw [show n + e - 1 + 1 = n + e by omega, Nat.dvd_add_left (Nat.dvd_refl e), Nat.dvd_iff_mod_eq_zero]
      omega
    by_cases h : (n : Int) % (e : Int) = 0
    · rw [if_pos (e2.2 h), if_pos (decide_eq_true h)]
    · rw [if_neg (fun h' => h (e2.1 h')), if_neg (by simpa using h)]

/-- Three houses: one that is none, one with these segments, one with segments that are none. -/
def ordL (a : List Int) : List Ho := [Ho.z, ⟨1, 0, Lm.z, a⟩, ⟨2, 0, Lm.z, [500, -7]⟩]
theorem ordL_tkn {e j k : Nat} (he : 0 < e) (hk : k ≤ j * e) (hk5 : k ≤ 150) {s : Int} (h0 : 0 ≤ s) (h1 : s < k) : tkn (ordL (evs e j)) s = decide (s % (e : Int) = 0) := by
  have e1 : tkn (ordL (evs e j)) s = inL (evs e j) s := by
    simp only [tkn, ordL, List.any_cons, List.any_nil, Ho.z, Bool.or_false]
    have h5 : inL [500, -7] s = false := by
      rw [Bool.eq_false_iff]
      intro h
      have := (inL_iff _ _).1 h
      simp at this
      omega
    rw [h5, Bool.or_false]
    rfl
  rw [e1]
  by_cases h : s % (e : Int) = 0
  · rw [decide_eq_true h, inL_iff]
    exact (evs_mem he hk h0 h1).2 h
  · rw [decide_eq_false h, Bool.eq_false_iff]
    intro hh
    exact h ((evs_mem he hk h0 h1).1 ((inL_iff _ _).1 hh))
theorem ordL_length {e j k : Nat} (he : 0 < e) (hk : k ≤ j * e) (hk5 : k ≤ 150) (hj : j * e < k + e) : (freeL (ordL (evs e j)) k).length + j = k := by
  have h1 := freeL_cnt (ordL (evs e j)) k
  rw [cnt_same (T := fun s => decide (s % (e : Int) = 0)) (fun s h0 h1 => ordL_tkn he hk hk5 h0 h1), cnt_mult e he k] at h1
  have h2 : (k + e - 1) / e = j := by
    refine Nat.div_eq_of_lt_le (by omega) ?_
    rw [Nat.add_mul]
    omega
  omega
/-- What a free segment is: not one that e divides; all rise. -/
theorem ordL_free {e j k : Nat} (he : 0 < e) (hk : k ≤ j * e) (hk5 : k ≤ 150) {i : Nat} (hi : i < (freeL (ordL (evs e j)) k).length) :
    0 ≤ (freeL (ordL (evs e j)) k)[i] ∧ (freeL (ordL (evs e j)) k)[i] < k ∧ (freeL (ordL (evs e j)) k)[i] % (e : Int) ≠ 0 := by
  obtain ⟨h0, h1, h2⟩ := (freeL_mem _ _ _).1 (List.getElem_mem hi)
  refine ⟨h0, h1, fun h => ?_⟩
  rw [ordL_tkn he hk hk5 h0 h1, decide_eq_true h] at h2
  cases h2
theorem freeL_up (l : List Ho) (k : Nat) {i : Nat} (hi : i < (freeL l k).length) (h0 : 0 < i) : (freeL l k)[i - 1] < (freeL l k)[i] :=
  List.pairwise_iff_getElem.1 (freeL_lt l k) (i - 1) i (by omega) hi (by omega)
theorem ordL_free? {e j k : Nat} (he : 0 < e) (hk : k ≤ j * e) (hk5 : k ≤ 150) {i : Nat} {x : Int} (hi : (freeL (ordL (evs e j)) k)[i]? = some x) : 0 ≤ x ∧ x < k ∧ x % (e : Int) ≠ 0 := by
  obtain ⟨h, rfl⟩ := List.getElem?_eq_some_iff.1 hi
  exact ordL_free he hk hk5 h
theorem freeL_up? (l : List Ho) (k : Nat) {i : Nat} {x y : Int} (hi : (freeL l k)[i]? = some y) (h0 : 0 < i) (hx : (freeL l k)[i - 1]? = some x) : x < y := by
  obtain ⟨h1, rfl⟩ := List.getElem?_eq_some_iff.1 hi
  obtain ⟨h2, rfl⟩ := List.getElem?_eq_some_iff.1 hx
  exact freeL_up l k h1 h0
end Go.Proofs.Ytlpcofmifpgflaa
