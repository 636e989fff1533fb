/- Which pointer leads to which block, plainly: ways, blocks of pointers, a block's numbers. Nothing of the program. -/
import Derived.Test.YtdkicnpbcljofaaBinNum
namespace Go.Proofs.Ytdkicnpbcljofaa
open Go.RowKit

namespace Span
/-- A way as a value. -/
abbrev wV (k c a : Int) (b : Bool) : Value := .tuple #[.int .i64 k, .int .i64 c, .int .i64 a, .bool b]
/-- The way of a block. -/
def wayV (i : Int) : Value := if i < 0 ∨ 588 ≤ i then wV 0 0 0 false else if i < 12 then wV 0 0 i true else if i < 76 then wV 1 0 (i - 12) true else wV 2 ((i - 76) / 64) ((i - 76) % 64) true
theorem wayV_none {i : Int} (h : i < 0 ∨ 588 ≤ i) : wayV i = wV 0 0 0 false := by unfold wayV; rw [if_pos h]
theorem wayV_straight {i : Int} (h0 : 0 ≤ i) (h1 : i < 12) : wayV i = wV 0 0 i true := by unfold wayV; rw [if_neg (by omega), if_pos h1]
theorem wayV_single {i : Int} (h0 : 12 ≤ i) (h1 : i < 76) : wayV i = wV 1 0 (i - 12) true := by unfold wayV; rw [if_neg (by omega), if_neg (by omega), if_pos h1]
theorem wayV_double {i : Int} (h0 : 76 ≤ i) (h1 : i < 588) : wayV i = wV 2 ((i - 76) / 64) ((i - 76) % 64) true := by unfold wayV; rw [if_neg (by omega), if_neg (by omega), if_neg (by omega)]
theorem wayV_some (i : Int) : ∃ k c a b, wayV i = wV k c a b := by
  by_cases h : i < 0 ∨ 588 ≤ i
  · exact ⟨_, _, _, _, wayV_none h⟩
  · by_cases h1 : i < 12
    · exact ⟨_, _, _, _, wayV_straight (by omega) h1⟩
    · by_cases h2 : i < 76
      · exact ⟨_, _, _, _, wayV_single (by omega) h2⟩
      · exact ⟨_, _, _, _, wayV_double (by omega) (by omega)⟩

/-- Is one of the numbers between these? -/
def inR (a b : Int) (l : List Int) : Bool := l.any fun i => decide (a ≤ i ∧ i < b)
theorem inR_nil (a b : Int) : inR a b [] = false := rfl
theorem inR_append (a b : Int) (l m : List Int) : inR a b (l ++ m) = (inR a b l || inR a b m) := by simp [inR, List.any_append]
theorem inR_snoc (a b : Int) (l : List Int) (x : Int) : inR a b (l ++ [x]) = (inR a b l || decide (a ≤ x ∧ x < b)) := by simp [inR, List.any_append]
theorem inR_in {a b : Int} {l : List Int} {x : Int} (h : a ≤ x ∧ x < b) : inR a b (l ++ [x]) = true := by rw [inR_snoc, decide_eq_true h, Bool.or_true]
theorem inR_out {a b : Int} {l : List Int} {x : Int} (h : ¬ (a ≤ x ∧ x < b)) : inR a b (l ++ [x]) = inR a b l := by rw [inR_snoc, decide_eq_false h, Bool.or_false]
/-- 1 of what is, 0 of what is not. -/
def n01 (b : Bool) : Int := if b then 1 else 0
theorem n01_t : n01 true = 1 := rfl
theorem n01_f : n01 false = 0 := rfl
theorem n01_bound (b : Bool) : 0 ≤ n01 b ∧ n01 b ≤ 1 := by cases b <;> simp [n01]
theorem n01_or (a b : Bool) : n01 a ≤ n01 (a || b) ∧ n01 b ≤ n01 (a || b) ∧ n01 (a || b) ≤ n01 a + n01 b := by cases a <;> cases b <;> simp [n01]
/-- Has a kid a block? -/
def kidB (l : List Int) (c : Nat) : Bool := inR (76 + 64 * c) (140 + 64 * c) l
/-- How many of the first kids have one. -/
def kids (l : List Int) : Nat → Int
  | 0 => 0
  | c + 1 => kids l c + n01 (kidB l c)
theorem kids_bound (l : List Int) : ∀ c : Nat, 0 ≤ kids l c ∧ kids l c ≤ c
  | 0 => by simp [kids]
  | c + 1 => by
    have h := kids_bound l c
    have h2 := n01_bound (kidB l c)
    rw [kids]
    omega
theorem kids_append (l m : List Int) : ∀ c : Nat, kids l c ≤ kids (l ++ m) c ∧ kids m c ≤ kids (l ++ m) c ∧ kids (l ++ m) c ≤ kids l c + kids m c
  | 0 => by simp [kids]
  | c + 1 => by
    have h := kids_append l m c
    have h2 := n01_or (kidB l c) (kidB m c)
    have e : kidB (l ++ m) c = (kidB l c || kidB m c) := inR_append _ _ _ _
    rw [kids, kids, kids, e]
    omega
/-- How many blocks of pointers. -/
def indsL (l : List Int) : Int := n01 (inR 12 76 l) + n01 (inR 76 588 l) + kids l 8
theorem indsL_bound (l : List Int) : 0 ≤ indsL l ∧ indsL l ≤ 10 := by
  have h1 := n01_bound (inR 12 76 l)
  have h2 := n01_bound (inR 76 588 l)
  have h3 := kids_bound l 8
  unfold indsL
  omega
theorem indsL_append (l m : List Int) : indsL l ≤ indsL (l ++ m) ∧ indsL m ≤ indsL (l ++ m) ∧ indsL (l ++ m) ≤ indsL l + indsL m := by
  have h1 := n01_or (inR 12 76 l) (inR 12 76 m)
  have h2 := n01_or (inR 76 588 l) (inR 76 588 m)
  have h3 := kids_append l m 8
  unfold indsL
  rw [inR_append, inR_append]
  omega
theorem kids_twice (l : List Int) : ∀ c : Nat, kids (l ++ l) c = kids l c
  | 0 => rfl
  | c + 1 => by
    have e : kidB (l ++ l) c = kidB l c := (inR_append _ _ _ _).trans (Bool.or_self _)
    rw [kids, kids, kids_twice l c, e]
theorem indsL_twice (l : List Int) : indsL (l ++ l) = indsL l := by
  unfold indsL
  rw [inR_append, inR_append, Bool.or_self, Bool.or_self, kids_twice]
/-- Which kids have one, as numbers; as the array of them. -/
def kidF (l : List Int) (c : Nat) : Int := n01 (kidB l c)
def kidC (f : Nat → Int) : Array Value := #[.int .i64 (f 0), .int .i64 (f 1), .int .i64 (f 2), .int .i64 (f 3), .int .i64 (f 4), .int .i64 (f 5), .int .i64 (f 6), .int .i64 (f 7)]
theorem kidC_get (f : Nat → Int) (c : Nat) (hc : c < 8) : (kidC f)[c]? = some (.int .i64 (f c)) := by
  have h : c = 0 ∨ c = 1 ∨ c = 2 ∨ c = 3 ∨ c = 4 ∨ c = 5 ∨ c = 6 ∨ c = 7 := by omega
  rcases h with rfl | rfl | rfl | rfl | rfl | rfl | rfl | rfl <;> rfl
theorem kidC_eq {f g : Nat → Int} (h : ∀ c, c < 8 → f c = g c) : kidC f = kidC g := by
  unfold kidC
  rw [h 0 (by decide), h 1 (by decide), h 2 (by decide), h 3 (by decide), h 4 (by decide), h 5 (by decide), h 6 (by decide), h 7 (by decide)]
theorem kidF_out {l : List Int} {x : Int} (h : x < 76 ∨ 588 ≤ x) (c : Nat) (hc : c < 8) : kidF (l ++ [x]) c = kidF l c := by
  unfold kidF kidB
  rw [inR_out (by omega)]
theorem kidC_set {l : List Int} {x : Int} {c : Nat} (h0 : 76 + 64 * (c : Int) ≤ x) (h1 : x < 140 + 64 * (c : Int)) (hc : c < 8) : (kidC (kidF l)).setIfInBounds c (.int .i64 1) = kidC (kidF (l ++ [x])) := by
  have hs : kidF (l ++ [x]) c = 1 := by
    unfold kidF kidB
    rw [inR_in (by omega), n01_t]
  have ho : ∀ d : Nat, d ≠ c → kidF (l ++ [x]) d = kidF l d := fun d hd => by
    unfold kidF kidB
    rw [inR_out (by omega)]
  have h : c = 0 ∨ c = 1 ∨ c = 2 ∨ c = 3 ∨ c = 4 ∨ c = 5 ∨ c = 6 ∨ c = 7 := by omega
  unfold kidC
  rcases h with rfl | rfl | rfl | rfl | rfl | rfl | rfl | rfl <;> (simp only [List.setIfInBounds_toArray, List.set_cons_zero, List.set_cons_succ, hs]; simp [ho])
theorem kids_succ (l : List Int) (c : Nat) : kids l (c + 1) = kids l c + kidF l c := rfl
/-- The document's row: which kids have one, is there a single one. -/
def seenC (l : List Int) : Array Value := #[.bool (kidB l 0), .bool (kidB l 1), .bool (kidB l 2), .bool (kidB l 3), .bool (kidB l 4), .bool (kidB l 5), .bool (kidB l 6), .bool (kidB l 7), .bool (inR 12 76 l)]
def seenB (l : List Int) (c : Nat) : Bool := if c < 8 then kidB l c else inR 12 76 l
theorem seenC_get (l : List Int) (c : Nat) (hc : c < 9) : (seenC l)[c]? = some (.bool (seenB l c)) := by
  have h : c = 0 ∨ c = 1 ∨ c = 2 ∨ c = 3 ∨ c = 4 ∨ c = 5 ∨ c = 6 ∨ c = 7 ∨ c = 8 := by omega
  rcases h with rfl | rfl | rfl | rfl | rfl | rfl | rfl | rfl | rfl <;> rfl
theorem seenC_set {l : List Int} {x : Int} {c : Nat} (h0 : 76 + 64 * (c : Int) ≤ x) (h1 : x < 140 + 64 * (c : Int)) (hc : c < 8) : (seenC l).setIfInBounds c (.bool true) = seenC (l ++ [x]) := by
  have hs : kidB (l ++ [x]) c = true := by
    unfold kidB
    rw [inR_in (by omega)]
  have ho : ∀ d : Nat, d ≠ c → kidB (l ++ [x]) d = kidB l d := fun d hd => by
    unfold kidB
    rw [inR_out (by omega)]
  have h8 : inR 12 76 (l ++ [x]) = inR 12 76 l := inR_out (by omega)
  have h : c = 0 ∨ c = 1 ∨ c = 2 ∨ c = 3 ∨ c = 4 ∨ c = 5 ∨ c = 6 ∨ c = 7 := by omega
  unfold seenC
  rw [h8]
  rcases h with rfl | rfl | rfl | rfl | rfl | rfl | rfl | rfl <;> (simp only [List.setIfInBounds_toArray, List.set_cons_zero, List.set_cons_succ, hs]; simp [ho])
theorem seenC_set8 {l : List Int} {x : Int} (h0 : 12 ≤ x) (h1 : x < 76) : (seenC l).setIfInBounds 8 (.bool true) = seenC (l ++ [x]) := by
  have hs : inR 12 76 (l ++ [x]) = true := inR_in (by omega)
  have ho : ∀ d : Nat, kidB (l ++ [x]) d = kidB l d := fun d => by
    unfold kidB
    rw [inR_out (by omega)]
  unfold seenC
  simp [hs, ho]
theorem seenC_out {l : List Int} {x : Int} (h : x < 12 ∨ 588 ≤ x) : seenC (l ++ [x]) = seenC l := by
  have hs : inR 12 76 (l ++ [x]) = inR 12 76 l := inR_out (by omega)
  have ho : ∀ d : Nat, d < 8 → kidB (l ++ [x]) d = kidB l d := fun d hd => by
    unfold kidB
    rw [inR_out (by omega)]
  unfold seenC
  rw [hs, ho 0 (by decide), ho 1 (by decide), ho 2 (by decide), ho 3 (by decide), ho 4 (by decide), ho 5 (by decide), ho 6 (by decide), ho 7 (by decide)]
/-- How many of the row's first are. -/
def seenN (l : List Int) : Nat → Int
  | 0 => 0
  | c + 1 => seenN l c + n01 (seenB l c)
theorem seen_kids (l : List Int) : ∀ c : Nat, c ≤ 8 → seenN l c = kids l c
  | 0, _ => rfl
  | c + 1, h => by
    rw [seenN, kids, seen_kids l c (by omega), seenB, if_pos (by omega)]
theorem seen_9 (l : List Int) : seenN l 9 = kids l 8 + n01 (inR 12 76 l) := by
  rw [seenN, seen_kids l 8 (Nat.le_refl _), seenB, if_neg (by decide)]
theorem seen_bound (l : List Int) : ∀ c : Nat, 0 ≤ seenN l c ∧ seenN l c ≤ c
  | 0 => by simp [seenN]
  | c + 1 => by
    have h := seen_bound l c
    have h2 := n01_bound (seenB l c)
    rw [seenN]
    omega

/-- So many numbers, each twice. -/
def dbl (k : Nat) : List Int := (List.range k).flatMap fun i : Nat => [(i : Int), (i : Int)]
theorem dbl_zero : dbl 0 = [] := rfl
theorem dbl_succ (k : Nat) : dbl (k + 1) = dbl k ++ [(k : Int), (k : Int)] := by simp [dbl, List.range_succ]
theorem dbl_length : ∀ k : Nat, (dbl k).length = 2 * k
  | 0 => rfl
  | k + 1 => by rw [dbl_succ, List.length_append, dbl_length k]; simp; omega
theorem inR_dbl (a b : Nat) (hab : a < b) : ∀ k : Nat, inR a b (dbl k) = decide (a < k)
  | 0 => by rw [dbl_zero, inR_nil, decide_eq_false (by omega)]
  | k + 1 => by
    have h := inR_dbl a b hab k
    rw [dbl_succ, show dbl k ++ [(k : Int), (k : Int)] = (dbl k ++ [(k : Int)]) ++ [(k : Int)] by simp, inR_snoc, inR_snoc, h]
    by_cases h1 : a < k
    · rw [decide_eq_true h1, decide_eq_true (show a < k + 1 by omega)]
      simp
    · by_cases h2 : a = k
      · subst h2
        rw [decide_eq_true (show a < a + 1 by omega), decide_eq_true (show (a : Int) ≤ (a : Int) ∧ (a : Int) < (b : Int) by omega)]
        simp
      · rw [decide_eq_false h1, decide_eq_false (show ¬ a < k + 1 by omega), decide_eq_false (show ¬ ((a : Int) ≤ (k : Int) ∧ (k : Int) < (b : Int)) by omega)]
        rfl
theorem n01_lt (a k : Nat) : n01 (decide (a < k)) = if a < k then 1 else 0 := by
  by_cases h : a < k
  · rw [decide_eq_true h, if_pos h]; rfl
  · rw [decide_eq_false h, if_neg h]; rfl
theorem kids_dbl (k : Nat) : ∀ c : Nat, kids (dbl k) c = if k ≤ 76 then 0 else min (((k : Int) - 76 + 63) / 64) c
  | 0 => by
    rw [kids]
    split <;> omega
  | c + 1 => by
    have e : kidB (dbl k) c = decide (76 + 64 * c < k) := by
      have h := inR_dbl (76 + 64 * c) (140 + 64 * c) (by omega) k
      unfold kidB
      rw [← h]
      congr 1
    rw [kids, kids_dbl k c, e, n01_lt]
    split <;> split <;> omega
theorem indsL_dbl (k : Nat) (hk : k ≤ 588) : indsL (dbl k) = if k ≤ 12 then 0 else if k ≤ 76 then 1 else 2 + ((k : Int) - 76 + 63) / 64 := by
  have e1 : inR 12 76 (dbl k) = decide (12 < k) := inR_dbl 12 76 (by decide) k
  have e2 : inR 76 588 (dbl k) = decide (76 < k) := inR_dbl 76 588 (by decide) k
  unfold indsL
  rw [e1, e2, n01_lt, n01_lt, kids_dbl]
  split <;> split <;> split <;> split <;> omega
theorem indsL_one (x : Int) : indsL [x] = if 12 ≤ x ∧ x < 76 then 1 else if 76 ≤ x ∧ x < 588 then 2 else 0 := by
  have h : ∀ a b : Int, inR a b [x] = decide (a ≤ x ∧ x < b) := fun a b => by simp [inR]
  have e : kids [x] 8 = n01 (decide (76 ≤ x ∧ x < 140)) + n01 (decide (140 ≤ x ∧ x < 204)) + n01 (decide (204 ≤ x ∧ x < 268)) + n01 (decide (268 ≤ x ∧ x < 332)) + n01 (decide (332 ≤ x ∧ x < 396)) + n01 (decide (396 ≤ x ∧ x < 460)) + n01 (decide (460 ≤ x ∧ x < 524)) + n01 (decide (524 ≤ x ∧ x < 588)) := by
    simp [kids, kidB, h]
  have hn : ∀ (p : Prop) [Decidable p], n01 (decide p) = if p then 1 else 0 := fun p _ => by
    by_cases hp : p
    · rw [decide_eq_true hp, if_pos hp]; rfl
    · rw [decide_eq_false hp, if_neg hp]; rfl
  unfold indsL
  rw [h, h, e]
  simp only [hn]
  by_cases c1 : 12 ≤ x ∧ x < 76
  · rw [if_pos c1, if_pos c1, if_neg (by omega), if_neg (by omega), if_neg (by omega), if_neg (by omega), if_neg (by omega), if_neg (by omega), if_neg (by omega), if_neg (by omega), if_neg (by omega)]
    rfl
  · rw [if_neg c1, if_neg c1]
    by_cases c2 : 76 ≤ x ∧ x < 588
    · rw [if_pos c2, if_pos c2]
      by_cases d0 : x < 140
      · rw [if_pos (by omega), if_neg (by omega), if_neg (by omega), if_neg (by omega), if_neg (by omega), if_neg (by omega), if_neg (by omega), if_neg (by omega)]; rfl
      · by_cases d1 : x < 204
        · rw [if_neg (by omega), if_pos (by omega), if_neg (by omega), if_neg (by omega), if_neg (by omega), if_neg (by omega), if_neg (by omega), if_neg (by omega)]; rfl
        · by_cases d2 : x < 268
          · rw [if_neg (by omega), if_neg (by omega), if_pos (by omega), if_neg (by omega), if_neg (by omega), if_neg (by omega), if_neg (by omega), if_neg (by omega)]; rfl
          · by_cases d3 : x < 332
            · rw [if_neg (by omega), if_neg (by omega), if_neg (by omega), if_pos (by omega), if_neg (by omega), if_neg (by omega), if_neg (by omega), if_neg (by omega)]; rfl
            · by_cases d4 : x < 396
              · rw [if_neg (by omega), if_neg (by omega), if_neg (by omega), if_neg (by omega), if_pos (by omega), if_neg (by omega), if_neg (by omega), if_neg (by omega)]; rfl
              · by_cases d5 : x < 460
                · rw [if_neg (by omega), if_neg (by omega), if_neg (by omega), if_neg (by omega), if_neg (by omega), if_pos (by omega), if_neg (by omega), if_neg (by omega)]; rfl
                · by_cases d6 : x < 524
                  · rw [if_neg (by omega), if_neg (by omega), if_neg (by omega), if_neg (by omega), if_neg (by omega), if_neg (by omega), if_pos (by omega), if_neg (by omega)]; rfl
                  · rw [if_neg (by omega), if_neg (by omega), if_neg (by omega), if_neg (by omega), if_neg (by omega), if_neg (by omega), if_neg (by omega), if_pos (by omega)]; rfl
    · rw [if_neg c2, if_neg c2, if_neg (by omega), if_neg (by omega), if_neg (by omega), if_neg (by omega), if_neg (by omega), if_neg (by omega), if_neg (by omega), if_neg (by omega)]
      rfl
theorem indsL_no (x y : Int) (hx : x < 12 ∨ 588 ≤ x) (hy : y < 12 ∨ 588 ≤ y) : indsL [x, y] = 0 := by
  have h : ∀ a b : Int, 12 ≤ a → b ≤ 588 → inR a b [x, y] = false := fun a b ha hb => by
    unfold inR
    rw [List.any_cons, List.any_cons, decide_eq_false (by omega), decide_eq_false (by omega)]
    rfl
  have e : ∀ c : Nat, c ≤ 8 → kids [x, y] c = 0 := by
    intro c
    induction c with
    | zero => intro _; rfl
    | succ c ih =>
      intro hc
      rw [kids, ih (by omega), kidB, h _ _ (by omega) (by omega)]
      rfl
  unfold indsL
  rw [h 12 76 (by decide) (by decide), h 76 588 (by decide) (by decide), e 8 (by decide)]
  rfl
/-- How many blocks so many bytes take. -/
def blocks (v : Int) : Int := (min (max v 0) 150528 + 255) / 256

/-- A byte of the block of numbers. -/
def byteAt (l : List Int) (j : Nat) : Int := if j < 128 then l.getD (j / 2) 0 / 256 ^ (j % 2) % 256 else 0
theorem byteAt_bound (l : List Int) (j : Nat) : 0 ≤ byteAt l j ∧ byteAt l j < 256 := by
  unfold byteAt
  split
  · exact ⟨Int.emod_nonneg _ (by decide), Int.emod_lt_of_pos _ (by decide)⟩
  · decide
theorem byteAt_even (l : List Int) (k : Nat) (hk : k < 64) : byteAt l (2 * k) = l.getD k 0 % 256 := by
  unfold byteAt
  rw [if_pos (by omega), show 2 * k / 2 = k by omega, show 2 * k % 2 = 0 by omega, Int.pow_zero, Int.ediv_one]
theorem byteAt_odd (l : List Int) (k : Nat) (hk : k < 64) : byteAt l (2 * k + 1) = l.getD k 0 / 256 % 256 := by
  unfold byteAt
  rw [if_pos (by omega), show (2 * k + 1) / 2 = k by omega, show (2 * k + 1) % 2 = 1 by omega]
  rfl
theorem byteAt_far (l : List Int) (j : Nat) (h : l.length ≤ j / 2) : byteAt l j = 0 := by
  unfold byteAt
  rw [List.getD_eq_getElem?_getD, List.getElem?_eq_none h]
  split
  · simp
  · rfl
/-- The block of numbers. -/
def bytesL (l : List Int) : List UInt8 := (List.range 256).map fun j => UInt8.ofNat (byteAt l j).toNat
theorem bytesL_length (l : List Int) : (bytesL l).length = 256 := by simp [bytesL]
theorem bytesL_get (l : List Int) (j : Nat) (hj : j < (bytesL l).length) : ((bytesL l)[j].toNat : Int) = byteAt l j := by
  have h := byteAt_bound l j
  simp only [bytesL, List.getElem_map, List.getElem_range]
  rw [Bin.toNat_of _ (by omega)]
  omega
def bytesS (l : List Int) : ByteArray := ⟨(bytesL l).toArray⟩
theorem bytesS_size (l : List Int) : (bytesS l).size = 256 := by
  show (bytesL l).toArray.size = 256
  rw [List.size_toArray, bytesL_length]
/-- The row behind k rounds. -/
def bRow (l : List Int) (k : Nat) : Array Value := ((List.range 256).map fun j => Value.int .u8 (if j < 2 * k then byteAt l j else 0)).toArray
theorem bRow_size (l : List Int) (k : Nat) : (bRow l k).size = 256 := by simp [bRow]
theorem bRow_get (l : List Int) (k j : Nat) (hj : j < 256) : (bRow l k)[j]? = some (.int .u8 (if j < 2 * k then byteAt l j else 0)) := by
  simp [bRow, hj]
theorem bRow_set (l : List Int) (k : Nat) (hk : k < 64) : ((bRow l k).setIfInBounds (2 * k) (.int .u8 (l.getD k 0 % 256))).setIfInBounds (2 * k + 1) (.int .u8 (l.getD k 0 / 256 % 256)) = bRow l (k + 1) := by
  apply Array.ext_getElem?
  intro j
  by_cases hj : j < 256
  · rw [bRow_get l (k + 1) j hj]
    by_cases e1 : 2 * k + 1 = j
    · subst e1
      rw [Array.getElem?_setIfInBounds_self_of_lt (by rw [Array.size_setIfInBounds, bRow_size]; exact hj), if_pos (by omega), byteAt_odd l k hk]
    · rw [Array.getElem?_setIfInBounds_ne e1]
      by_cases e2 : 2 * k = j
      · subst e2
        rw [Array.getElem?_setIfInBounds_self_of_lt (by rw [bRow_size]; exact hj), if_pos (by omega), byteAt_even l k hk]
      · rw [Array.getElem?_setIfInBounds_ne e2, bRow_get l k j hj]
        have : (j < 2 * (k + 1)) = (j < 2 * k) := by simp; omega
        simp only [this]
  · rw [Array.getElem?_eq_none (by simp [bRow_size]; omega), Array.getElem?_eq_none (by simp [bRow_size]; omega)]
theorem bRow_end (l : List Int) (k : Nat) (hk : k = 64 ∨ l.length ≤ k) (j : Nat) (hj : j < 256) : (bRow l k)[j]? = some (.int .u8 (byteAt l j)) := by
  rw [bRow_get l k j hj]
  by_cases h : j < 2 * k
  · rw [if_pos h]
  · rw [if_neg h]
    rcases hk with rfl | hk
    · rw [show byteAt l j = 0 by unfold byteAt; rw [if_neg (by omega)]]
    · rw [byteAt_far l j (by omega)]
/-- The document's way: the first k numbers, each in two bytes. -/
theorem bytesL_take (l : List Int) (k : Nat) (hk : k < 64) : (bytesL l).take (2 * (k + 1)) = (bytesL l).take (2 * k) ++ Bin.low 2 (l.getD k 0) := by
  have hl := bytesL_length l
  have e0 : UInt8.ofNat (byteAt l (2 * k)).toNat = UInt8.ofNat (l.getD k 0 % 256).toNat := by rw [byteAt_even l k hk]
  have e1 : UInt8.ofNat (byteAt l (2 * k + 1)).toNat = UInt8.ofNat (l.getD k 0 / 256 % 256).toNat := by rw [byteAt_odd l k hk]
  rw [show 2 * (k + 1) = 2 * k + 1 + 1 by omega, List.take_succ_eq_append_getElem (by omega), List.take_succ_eq_append_getElem (show 2 * k < (bytesL l).length by omega), List.append_assoc]
  congr 1
  simp only [bytesL, List.getElem_map, List.getElem_range, e0, e1]
  rfl
theorem bytesL_end (l : List Int) : (bytesL l).take 128 ++ List.replicate 128 0 = bytesL l := by
  apply List.ext_getElem
  · rw [List.length_append, List.length_take, bytesL_length, List.length_replicate]
    rfl
  · intro j h1 h2
    rw [bytesL_length] at h2
    by_cases hj : j < 128
    · rw [List.getElem_append_left (by rw [List.length_take, bytesL_length]; omega), List.getElem_take]
    · rw [List.getElem_append_right (by rw [List.length_take, bytesL_length]; omega), List.getElem_replicate]
      simp only [bytesL, List.getElem_map, List.getElem_range]
      rw [show byteAt l j = 0 by unfold byteAt; rw [if_neg hj]]
      rfl
end Span
end Go.Proofs.Ytdkicnpbcljofaa
