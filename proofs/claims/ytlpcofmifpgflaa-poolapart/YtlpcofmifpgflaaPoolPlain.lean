/- Which segments no house has, plainly: the list of them, its length, what a house more takes from it. Nothing of the program. -/
import Derived.Test.YtlpcofmifpgflaaRows
import Derived.WalkKit
namespace Go.Proofs.Ytlpcofmifpgflaa
namespace Pool

/-- Bounds. -/
structure Lm where
  s : Int
  hb : Int
  sb : Int
  hn : Int
  sn : Int
  gr : Int
  bu : Int
/-- A house. -/
structure Ho where
  st : Int
  gen : Int
  lim : Lm
  segs : List Int
def Lm.z : Lm := ⟨0, 0, 0, 0, 0, 0, 0⟩
def Ho.z : Ho := ⟨0, 0, Lm.z, []⟩

/-- Is s among these numbers? -/
def inL (l : List Int) (s : Int) : Bool := l.contains s
/-- Has a house of these the segment? -/
def tkn (l : List Ho) (s : Int) : Bool := l.any fun h => inL h.segs s
/-- The segments below k that no house has, rising. -/
def freeL (l : List Ho) (k : Nat) : List Int := ((List.range k).map fun (s : Nat) => (s : Int)).filter fun s => !tkn l s
/-- How many segments the table's bytes tell apart, at most. -/
def cutN (n : Int) : Nat := (min (max n 0) 65536).toNat

theorem inL_iff (l : List Int) (s : Int) : inL l s = true ↔ s ∈ l := by simp [inL]
theorem tkn_iff (l : List Ho) (s : Int) : tkn l s = true ↔ ∃ h ∈ l, s ∈ h.segs := by simp [tkn, inL]
theorem tkn_app (a b : List Ho) (s : Int) : tkn (a ++ b) s = (tkn a s || tkn b s) := by simp [tkn]
theorem tkn_one (h : Ho) (s : Int) : tkn [h] s = inL h.segs s := by simp [tkn]
theorem tkn_nil (s : Int) : tkn [] s = false := rfl
theorem tkn_take (l : List Ho) (i : Nat) (hi : i < l.length) (s : Int) : tkn (l.take (i + 1)) s = (tkn (l.take i) s || inL l[i].segs s) := by
  rw [List.take_succ_eq_append_getElem hi, tkn_app, tkn_one]
theorem inL_take (l : List Int) (j : Nat) (hj : j < l.length) (s : Int) : inL (l.take (j + 1)) s = (inL (l.take j) s || (s == l[j])) := by
  unfold inL
  rw [List.take_succ_eq_append_getElem hj]
  rw [List.contains_eq_mem, List.contains_eq_mem]
  simp only [List.mem_append, List.mem_singleton, Bool.decide_or]
  rfl

theorem freeL_zero (l : List Ho) : freeL l 0 = [] := rfl
theorem freeL_succ (l : List Ho) (k : Nat) : freeL l (k + 1) = freeL l k ++ (if tkn l k then [] else [(k : Int)]) := by
  unfold freeL
  rw [List.range_succ, List.map_append, List.filter_append]
  congr 1
  cases h : tkn l (k : Int) <;> simp [h]
theorem freeL_yes (l : List Ho) (k : Nat) (h : tkn l k = false) : freeL l (k + 1) = freeL l k ++ [(k : Int)] := by rw [freeL_succ, h]; rfl
theorem freeL_no (l : List Ho) (k : Nat) (h : tkn l k = true) : freeL l (k + 1) = freeL l k := by rw [freeL_succ, h]; simp
theorem freeL_le (l : List Ho) : ∀ k, (freeL l k).length ≤ k
  | 0 => by simp [freeL_zero]
  | k + 1 => by
    have := freeL_le l k
    rw [freeL_succ, List.length_append]
    split <;> simp <;> omega
theorem freeL_mem (l : List Ho) (k : Nat) (s : Int) : s ∈ freeL l k ↔ 0 ≤ s ∧ s < k ∧ tkn l s = false := by
  unfold freeL
  rw [List.mem_filter, List.mem_map]
  constructor
  · rintro ⟨⟨a, ha, rfl⟩, hb⟩
    have := List.mem_range.1 ha
    exact ⟨by omega, by omega, by simpa using hb⟩
  · rintro ⟨h0, h1, h2⟩
    exact ⟨⟨s.toNat, List.mem_range.2 (by omega), by omega⟩, by simp [h2]⟩
theorem freeL_lt (l : List Ho) (k : Nat) : (freeL l k).Pairwise (· < ·) := by
  unfold freeL
  refine List.Pairwise.filter _ ?_
  rw [List.pairwise_map]
  exact List.pairwise_lt_range.imp fun h => by omega
/-- A house takes none, where it has none of those that are looked at. -/
theorem freeL_same {a b : List Ho} {k : Nat} (h : ∀ s : Int, 0 ≤ s → s < k → tkn a s = tkn b s) : freeL a k = freeL b k := by
  unfold freeL
  refine List.filter_congr fun s hs => ?_
  obtain ⟨i, hi, rfl⟩ := List.mem_map.1 hs
  have := List.mem_range.1 hi
  rw [h i (by omega) (by omega)]

/-- Of the first n numbers, how many are in S? -/
def cnt (S : Int → Bool) : Nat → Nat
  | 0 => 0
  | n + 1 => cnt S n + if S n then 1 else 0
theorem cnt_le (S : Int → Bool) : ∀ n, cnt S n ≤ n
  | 0 => Nat.le_refl _
  | n + 1 => by
    have := cnt_le S n
    simp only [cnt]
    split <;> omega
theorem cnt_none {S : Int → Bool} (h : ∀ x, S x = false) : ∀ n, cnt S n = 0
  | 0 => rfl
  | n + 1 => by simp [cnt, cnt_none h n, h]
theorem cnt_out {S : Int → Bool} {x : Int} : ∀ {n : Nat}, (n : Int) ≤ x → cnt (fun y => S y || (y == x)) n = cnt S n
  | 0, _ => rfl
  | n + 1, h => by
    have e : ((n : Int) == x) = false := by rw [beq_eq_false_iff_ne]; omega
    simp only [cnt, cnt_out (S := S) (show (n : Int) ≤ x by omega), e, Bool.or_false]
theorem cnt_more {S : Int → Bool} {x : Int} (h0 : 0 ≤ x) (hS : S x = false) : ∀ {n : Nat}, x < n → cnt (fun y => S y || (y == x)) n = cnt S n + 1
  | 0, h => by omega
  | n + 1, h => by
    by_cases e : (n : Int) = x
    · have e3 := cnt_out (S := S) (x := x) (n := n) (by omega)
      simp only [cnt, e3, e, hS, beq_self_eq_true, Bool.or_true, if_true, Bool.false_eq_true, if_false, Nat.add_zero]
    · have e2 : ((n : Int) == x) = false := by rw [beq_eq_false_iff_ne]; exact e
      have e3 := cnt_more h0 hS (show x < n by omega)
      simp only [cnt, e3, e2, Bool.or_false]
      omega
end Pool
end Go.Proofs.Ytlpcofmifpgflaa
