/- Which of the waiting writes are kept, plainly; the disk behind Back. -/
import Derived.Test.YtaiebhkjkeadoaaGreatDiskMeth
namespace Go.Proofs.YtaiebhkjkeadoaaGreat
open Go.RowKit

/-- Of the first k writes those at places that are named. -/
def selTo (L : List Wr) (ps : List Int) : Nat → List Wr
  | 0 => []
  | k + 1 => selTo L ps k ++ (if (k : Int) ∈ ps then (L[k]?).toList else [])
def sel (L : List Wr) (ps : List Int) : List Wr := selTo L ps L.length

theorem selTo_length (L : List Wr) (ps : List Int) : ∀ k, (selTo L ps k).length ≤ k
  | 0 => Nat.le_refl _
  | k + 1 => by
    have := selTo_length L ps k
    simp only [selTo, List.length_append]
    split
    · have : (L[k]?).toList.length ≤ 1 := by cases L[k]? <;> simp
      omega
    · simp; omega

/-- What is kept of the first j owners. -/
def keptTo (waits : Nat → List Wr) (K : List (List Int)) : Nat → List Wr
  | 0 => []
  | j + 1 => keptTo waits K j ++ sel (waits j) (K.getD j [])

theorem sel_length (L : List Wr) (ps : List Int) : (sel L ps).length ≤ L.length := selTo_length L ps L.length

theorem keptTo_length (waits : Nat → List Wr) (K : List (List Int)) (m : Nat) (h : ∀ o, o < 17 → (waits o).length ≤ m) : ∀ j, j ≤ 17 → (keptTo waits K j).length ≤ j * m
  | 0, _ => by simp [keptTo]
  | j + 1, hj => by
    have h1 := keptTo_length waits K m h j (by omega)
    have h2 := sel_length (waits j) (K.getD j [])
    have h3 := h j (by omega)
    simp only [keptTo, List.length_append]
    have : (j + 1) * m = j * m + m := by rw [Nat.add_mul, Nat.one_mul]
    omega

theorem selTo_mem (L : List Wr) (ps : List Int) : ∀ k, ∀ x ∈ selTo L ps k, x ∈ L
  | 0, x, h => by cases h
  | k + 1, x, h => by
    simp only [selTo, List.mem_append] at h
    rcases h with h | h
    · exact selTo_mem L ps k x h
    · split at h
      · rw [Option.mem_toList] at h
        exact List.mem_of_getElem? h
      · cases h

theorem keptTo_mem (waits : Nat → List Wr) (K : List (List Int)) : ∀ j, ∀ x ∈ keptTo waits K j, ∃ o, o < j ∧ x ∈ waits o
  | 0, x, h => by cases h
  | j + 1, x, h => by
    simp only [keptTo, List.mem_append] at h
    rcases h with h | h
    · obtain ⟨o, ho, hx⟩ := keptTo_mem waits K j x h
      exact ⟨o, by omega, hx⟩
    · exact ⟨j, by omega, selTo_mem _ _ _ x h⟩

/-- Back, with what is kept in the order L'. -/
def St.back (S : St) (L' : List Wr) : St := { S with dur := settleL S.dur L', waits := fun _ => [], left := 0, down := false }

theorem St.Ok.back {S : St} (h : S.Ok) (L' : List Wr) : (S.back L').Ok := ⟨h.n1, h.n2, h.w2, Nat.zero_le _, fun _ _ _ hx => (by cases hx), fun _ _ => Nat.zero_le _⟩

end Go.Proofs.YtaiebhkjkeadoaaGreat
