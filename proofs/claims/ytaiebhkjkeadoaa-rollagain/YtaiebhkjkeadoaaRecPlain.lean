/- Records of numbers, plainly: numbers one behind the other as bytes, there and back; bytes with their sum behind; a byte that is turned makes them none. Nothing of the program. -/
import Derived.Test.YtaiebhkjkeadoaaSum
import Derived.Test.YtaiebhkjkeadoaaBinNum
namespace Go.Proofs.Ytaiebhkjkeadoaa
namespace Rec
open Bin (low)

def inB (v a b : Int) : Bool := decide (a ≤ v ∧ v ≤ b)
theorem inB_yes {v a b : Int} (h1 : a ≤ v) (h2 : v ≤ b) : inB v a b = true := by simp [inB, h1, h2]
theorem inB_iff {v a b : Int} : inB v a b = true ↔ a ≤ v ∧ v ≤ b := by simp [inB]
theorem inB_no {v a b : Int} (h : v < a ∨ b < v) : inB v a b = false := by
  simp only [inB, decide_eq_false_iff_not]
  omega

/-- Numbers, each in so many bytes. -/
def nums (l : List (Nat × Int)) : List UInt8 := l.flatMap fun p => low p.1 p.2
theorem nums_nil : nums [] = [] := rfl
theorem nums_cons (p : Nat × Int) (l : List (Nat × Int)) : nums (p :: l) = low p.1 p.2 ++ nums l := rfl
theorem nums_append (a b : List (Nat × Int)) : nums (a ++ b) = nums a ++ nums b := by simp [nums, List.flatMap_append]
theorem nums_length : ∀ l : List (Nat × Int), (nums l).length = (l.map Prod.fst).sum
  | [] => rfl
  | p :: l => by rw [nums_cons, List.length_append, Bin.low_length, nums_length l, List.map_cons, List.sum_cons]
theorem nums_take_length (l : List (Nat × Int)) (k : Nat) : (nums (l.take k)).length ≤ (nums l).length := by
  conv => rhs; rw [← List.take_append_drop k l, nums_append, List.length_append]
  omega
theorem nums_snoc (l : List (Nat × Int)) (k : Nat) (hk : k < l.length) : nums (l.take (k + 1)) = nums (l.take k) ++ low l[k].1 l[k].2 := by
  rw [List.take_succ_eq_append_getElem hk, nums_append]
  simp [nums]

/-- The number at a place. -/
def numAt (s : List UInt8) (a n : Nat) : Int := (Bin.num ((s.drop a).take n) : Nat)
/-- Numbers one behind the other, from a place on. -/
def valsAt (s : List UInt8) : Nat → List Nat → List Int
  | _, [] => []
  | a, n :: r => numAt s a n :: valsAt s (a + n) r
/-- Do numbers fit their bytes? -/
def FitsL (l : List (Nat × Int)) : Prop := ∀ p ∈ l, 0 ≤ p.2 ∧ p.2 < ((256 ^ p.1 : Nat) : Int)

theorem numAt_lt (s : List UInt8) (a n : Nat) : 0 ≤ numAt s a n ∧ numAt s a n < ((256 ^ n : Nat) : Int) := by
  have h := Bin.num_lt ((s.drop a).take n)
  have h2 : ((s.drop a).take n).length ≤ n := List.length_take_le _ _
  have h3 : 256 ^ ((s.drop a).take n).length ≤ 256 ^ n := Nat.pow_le_pow_right (by decide) h2
  unfold numAt
  omega

theorem numAt_mid {s p q : List UInt8} {a n : Nat} {v : Int} (hs : s = p ++ low n v ++ q) (ha : p.length = a) (h0 : 0 ≤ v) (h1 : v < ((256 ^ n : Nat) : Int)) : numAt s a n = v := by
  subst hs ha
  unfold numAt
  have e : ((p ++ low n v ++ q).drop p.length).take n = low n v := by
    have hl := Bin.low_length n v
    generalize low n v = m at *
    subst hl
    rw [List.append_assoc, List.drop_left, List.take_left]
  rw [e]
  exact Bin.num_low n v h0 h1

theorem valsAt_mid {s q : List UInt8} : ∀ (l : List (Nat × Int)) (p : List UInt8) (a : Nat), s = p ++ nums l ++ q → p.length = a → FitsL l → valsAt s a (l.map Prod.fst) = l.map Prod.snd
  | [], _, _, _, _, _ => rfl
  | x :: l, p, a, hs, ha, hf => by
    have hx := hf x (by simp)
    rw [List.map_cons, List.map_cons, valsAt]
    congr 1
    · refine numAt_mid (p := p) (q := nums l ++ q) ?_ ha hx.1 hx.2
      rw [hs, nums_cons]
      simp only [List.append_assoc]
    · refine valsAt_mid (q := q) l (p ++ low x.1 x.2) (a + x.1) ?_ ?_ (fun y hy => hf y (by simp [hy]))
      · rw [hs, nums_cons]
        simp only [List.append_assoc]
      · rw [List.length_append, Bin.low_length, ha]

/-! ### Bytes with their sum behind -/

/-- Bytes with their sum behind. -/
def sumd (f : List UInt8) : List UInt8 := f ++ low 4 (Sum.crc f : Nat)
theorem sumd_length (f : List UInt8) : (sumd f).length = f.length + 4 := by simp [sumd, Bin.low_length]

theorem crc_one {p r : List UInt8} {x y : UInt8} (e : Sum.crc (p ++ x :: r) = Sum.crc (p ++ y :: r)) : x = y := by
  have h := Sum.more_inj 0 e
  rw [Sum.feed_append, Sum.feed_append, Sum.feed_cons, Sum.feed_cons] at h
  have hp : Sum.feed (Sum.ones ^^^ 0) p < 4294967296 := Sum.feed_lt p (by decide)
  have hx := Sum.byte_lt x
  have hy := Sum.byte_lt y
  have h2 := Sum.feed_inj r (Sum.byte1_lt hp hx) (Sum.byte1_lt hp hy) h
  unfold Sum.byte1 at h2
  have h3 := Sum.it_inj 8 (Sum.xor_lt hp (by omega)) (Sum.xor_lt hp (by omega)) h2
  have h4 := congrArg (Sum.feed (Sum.ones ^^^ 0) p ^^^ ·) h3
  simp only [Sum.xor_back] at h4
  exact UInt8.toNat_inj.1 h4

theorem low4_inj {a b : Nat} (ha : a < 4294967296) (hb : b < 4294967296) (e : low 4 (a : Int) = low 4 (b : Int)) : a = b := by
  have h1 := Bin.num_low 4 (a : Int) (by omega) (by omega)
  have h2 := Bin.num_low 4 (b : Int) (by omega) (by omega)
  rw [e, h2] at h1
  omega

/-- Bytes with their sum, one of which is turned, are none with their sum. -/
theorem sumd_turned {f g : List UInt8} (hl : g.length = f.length) {i : Nat} {y : UInt8} (hi : i < (sumd f).length) (e : sumd g = (sumd f).set i y) : y = (sumd f)[i] := by
  have ht := sumd_length f
  by_cases hlt : i < f.length
  · have e1 : g ++ low 4 (Sum.crc g : Nat) = f.set i y ++ low 4 (Sum.crc f : Nat) := by
      rw [← List.set_append_left _ _ hlt]
      exact e
    obtain ⟨e2, e3⟩ := List.append_inj e1 (by simp [hl])
    have e4 := low4_inj (Sum.crc_lt _) (Sum.crc_lt _) e3
    rw [e2] at e4
    have e5 : f.set i y = f.take i ++ y :: f.drop (i + 1) := List.set_eq_take_append_cons_drop .. |>.trans (by rw [if_pos hlt])
    have e6 : f = f.take i ++ f[i] :: f.drop (i + 1) := by
      rw [← List.drop_eq_getElem_cons hlt, List.take_append_drop]
    rw [e5] at e4
    have e7 := crc_one (e4.trans (congrArg Sum.crc e6))
    rw [e7]
    exact (List.getElem_append_left (bs := low 4 (Sum.crc f : Nat)) hlt).symm
  · have e1 : g ++ low 4 (Sum.crc g : Nat) = f ++ (low 4 (Sum.crc f : Nat)).set (i - f.length) y := by
      rw [← List.set_append_right _ _ (by omega)]
      exact e
    obtain ⟨e2, e3⟩ := List.append_inj e1 hl
    have e4 : sumd g = sumd f := by rw [e2]
    rw [e4] at e
    have hi3 : i < ((sumd f).set i y).length := by simpa using hi
    have e8 : ((sumd f).set i y)[i] = y := List.getElem_set_self ..
    rw [← e8]
    congr 1
    exact e.symm
end Rec
end Go.Proofs.Ytaiebhkjkeadoaa
