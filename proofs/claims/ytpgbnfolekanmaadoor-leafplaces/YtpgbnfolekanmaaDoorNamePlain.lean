/- Names and paths, plainly: nothing of the program's code. okb, chk (may a name be?), cuts (a text's names between '/'), pathOk. -/
import Derived.Lib.Split
import Derived.Lib.SplitLaws
import Derived.Lib.Join
namespace Go.Proofs.YtpgbnfolekanmaaDoor.Word
open Go

/-- A byte of a name. -/
def okb (b : UInt8) : Bool := decide (33 ≤ b.toNat ∧ b.toNat ≤ 126 ∧ b.toNat ≠ 47)
/-- May a name be? -/
def chk (l : List UInt8) : Bool := decide (1 ≤ l.length ∧ l.length ≤ 26) && (l.all okb && (l != [46] && l != [46, 46]))
/-- The names between '/'. -/
def cuts : List UInt8 → List (List UInt8)
  | [] => [[]]
  | b :: l => if b = 47 then [] :: cuts l else (b :: (cuts l).headD []) :: (cuts l).tail
/-- May these be a path's names? -/
def pathOk (l : List (List UInt8)) : Bool := decide (l.length ≤ 8) && l.all chk

theorem cuts_ne (l : List UInt8) : cuts l ≠ [] := by
  cases l with
  | nil => simp [cuts]
  | cons b l => unfold cuts; split <;> simp

theorem cuts_pos (l : List UInt8) : 1 ≤ (cuts l).length := by
  have := cuts_ne l
  cases h : cuts l with
  | nil => exact absurd h this
  | cons a t => simp

theorem cuts_head (l : List UInt8) : (cuts l).headD [] :: (cuts l).tail = cuts l := by
  have := cuts_ne l
  cases h : cuts l with
  | nil => exact absurd h this
  | cons a t => simp

theorem cuts_none {a : List UInt8} (h : 47 ∉ a) : cuts a = [a] := by
  induction a with
  | nil => rfl
  | cons b l ih =>
    have hb : b ≠ 47 := fun e => h (by simp [e])
    have hl : 47 ∉ l := fun e => h (by simp [e])
    rw [cuts, if_neg hb, ih hl]
    rfl

theorem cuts_app {a : List UInt8} (h : 47 ∉ a) (b : List UInt8) : cuts (a ++ 47 :: b) = a :: cuts b := by
  induction a with
  | nil => simp [cuts]
  | cons c l ih =>
    have hb : c ≠ 47 := fun e => h (by simp [e])
    have hl : 47 ∉ l := fun e => h (by simp [e])
    rw [List.cons_append, cuts, if_neg hb, ih hl]
    rfl

/-- Between the names there is no '/'. -/
theorem cuts_free (s : List UInt8) : ∀ p, p ∈ cuts s → 47 ∉ p := by
  induction s with
  | nil => intro p hp; simp [cuts] at hp; simp [hp]
  | cons b l ih =>
    intro p hp
    unfold cuts at hp
    split at hp
    · rcases List.mem_cons.1 hp with e | e
      · simp [e]
      · exact ih p e
    · rename_i hb
      have hh := cuts_head l
      rcases List.mem_cons.1 hp with e | e
      · subst e
        intro hm
        rcases List.mem_cons.1 hm with e | e
        · exact hb e.symm
        · exact ih _ (by rw [← hh]; exact List.mem_cons_self) e
      · exact ih p (by rw [← hh]; exact List.mem_cons_of_mem _ e)

theorem join_cons2 (x y : List UInt8) (r : List (List UInt8)) : Lib.join (x :: y :: r) [47] = x ++ 47 :: Lib.join (y :: r) [47] := by
  rw [Lib.join_cons, Lib.join_cons]
  simp [Lib.joinTail]

/-- The names with '/' between them are the text. -/
theorem join_cuts (s : List UInt8) : Lib.join (cuts s) [47] = s := by
  induction s with
  | nil => rfl
  | cons b l ih =>
    have hh := cuts_head l
    unfold cuts
    split
    · rename_i hb
      rw [← hh, join_cons2, hh, ih, hb]; rfl
    · rw [← hh, Lib.join_cons] at ih
      rw [Lib.join_cons, List.cons_append, ih]

/-- Names without '/' are what is between them again. -/
theorem cuts_join (x : List UInt8) (r : List (List UInt8)) (h : ∀ p, p ∈ x :: r → 47 ∉ p) : cuts (Lib.join (x :: r) [47]) = x :: r := by
  induction r generalizing x with
  | nil => rw [Lib.join_one]; exact cuts_none (h x (by simp))
  | cons y r ih =>
    rw [join_cons2, cuts_app (h x (by simp)), ih y (fun p hp => h p (List.mem_cons_of_mem _ hp))]

theorem index_none {s : List UInt8} (h : Lib.index s [47] = -1) : 47 ∉ s := by
  induction s with
  | nil => simp
  | cons b l ih =>
    unfold Lib.index at h
    split at h
    · exact absurd h (by decide)
    · rename_i hp
      have hb : 47 ≠ b := fun e => hp (by simp [e])
      split at h
      · rename_i h2
        have := ih (by simpa using h2)
        simp [hb, this]
      · have := Lib.index_ge l [47]
        omega

theorem index_some {s : List UInt8} {i : Nat} (h : Lib.index s [47] = i) : 47 ∉ s.take i ∧ s = s.take i ++ 47 :: s.drop (i + 1) := by
  induction s generalizing i with
  | nil => simp [Lib.index] at h
  | cons b l ih =>
    unfold Lib.index at h
    split at h
    · rename_i hp
      have hb : 47 = b := by simpa [List.isPrefixOf] using hp
      have : i = 0 := by omega
      subst this
      simp [hb]
    · rename_i hp
      have hb : 47 ≠ b := fun e => hp (by simp [e])
      split at h
      · omega
      · have hg := Lib.index_ge l [47]
        have hm : Lib.index l [47] ≠ -1 := by simpa using ‹¬ (Lib.index l [47] == -1) = true›
        have h1 : Lib.index l [47] = ((i - 1 : Nat) : Int) := by omega
        obtain ⟨j, rfl⟩ : ∃ j, i = j + 1 := ⟨i - 1, by omega⟩
        obtain ⟨h2, h3⟩ := ih h1
        rw [Nat.add_sub_cancel] at h2 h3
        refine ⟨by simp [hb, h2], ?_⟩
        rw [List.take_succ_cons, List.drop_succ_cons, List.cons_append, ← h3]

/-- Cut at the first k '/' at most: all the names, if there are no more than k + 1; else k + 1 pieces. -/
theorem splitK_cuts : ∀ (k : Nat) (s : List UInt8), ((cuts s).length ≤ k + 1 → Lib.splitK [47] 0 k s = cuts s) ∧ (k + 1 < (cuts s).length → (Lib.splitK [47] 0 k s).length = k + 1)
  | 0, s => by
    refine ⟨fun h => ?_, fun _ => rfl⟩
    rcases Int.lt_or_le (Lib.index s [47]) 0 with hi | hi
    · have := Lib.index_ge s [47]
      rw [cuts_none (index_none (by omega))]; rfl
    · obtain ⟨i, hi⟩ : ∃ i : Nat, Lib.index s [47] = i := ⟨(Lib.index s [47]).toNat, by omega⟩
      obtain ⟨h1, h2⟩ := index_some hi
      rw [h2, cuts_app h1] at h
      have := cuts_pos (s.drop (i + 1))
      simp at h
      exact absurd h (cuts_ne _)
  | k + 1, s => by
    unfold Lib.splitK
    rcases Int.lt_or_le (Lib.index s [47]) 0 with hi | hi
    · have := Lib.index_ge s [47]
      have e : Lib.index s [47] = -1 := by omega
      rw [cuts_none (index_none e), e]
      refine ⟨fun _ => rfl, fun h => ?_⟩
      simp at h
    · obtain ⟨i, hi⟩ : ∃ i : Nat, Lib.index s [47] = i := ⟨(Lib.index s [47]).toNat, by omega⟩
      obtain ⟨h1, h2⟩ := index_some hi
      have ec : cuts s = s.take i :: cuts (s.drop (i + 1)) := by
        have := cuts_app h1 (s.drop (i + 1))
        rw [← h2] at this
        exact this
      have hne : ((i : Int) == -1) = false := by rw [beq_eq_false_iff_ne]; omega
      rw [hi, hne, ec]
      obtain ⟨ih1, ih2⟩ := splitK_cuts k (s.drop (i + 1))
      refine ⟨fun h => ?_, fun h => ?_⟩
      · simp at h
        simp [ih1 (by omega)]
      · simp at h
        simp [ih2 (by omega)]

theorem cuts_len (s : List UInt8) : (cuts s).length ≤ s.length + 1 := by
  induction s with
  | nil => simp [cuts]
  | cons b l ih =>
    unfold cuts
    split
    · simp; omega
    · have := cuts_pos l
      simp; omega

/-- What the library's splitting into nine at most says about the path. -/
theorem splitN_path (s : List UInt8) : pathOk (Lib.splitK [47] 0 (min 9 (s.length + 1) - 1) s) = pathOk (cuts s) ∧ (pathOk (cuts s) = true → Lib.splitK [47] 0 (min 9 (s.length + 1) - 1) s = cuts s) := by
  have hl := cuts_len s
  by_cases h9 : (cuts s).length ≤ 9
  · have e : Lib.splitK [47] 0 (min 9 (s.length + 1) - 1) s = cuts s := by
      refine (splitK_cuts _ s).1 ?_
      omega
    rw [e]
    exact ⟨rfl, fun _ => rfl⟩
  · have e : min 9 (s.length + 1) - 1 = 8 := by omega
    rw [e]
    have := (splitK_cuts 8 s).2 (by omega)
    have h1 : pathOk (cuts s) = false := by simp [pathOk]; intro h; omega
    have h2 : pathOk (Lib.splitK [47] 0 8 s) = false := by simp [pathOk, this]
    rw [h1, h2]
    exact ⟨rfl, fun h => by cases h⟩

theorem chk_free {l : List UInt8} (h : chk l = true) : 47 ∉ l := by
  intro hm
  simp only [chk, Bool.and_eq_true, List.all_eq_true] at h
  have := h.2.1 _ hm
  simp [okb] at this

theorem chk_nil : chk [] = false := rfl

theorem chk_len {l : List UInt8} (h : chk l = true) : 1 ≤ l.length ∧ l.length ≤ 26 := by
  simp only [chk, Bool.and_eq_true, decide_eq_true_eq] at h
  exact h.1

/-- The path of names that are a path's. -/
theorem path_join {l : List (List UInt8)} (h : pathOk l = true) (hne : l ≠ []) : cuts (Lib.join l [47]) = l := by
  cases l with
  | nil => exact absurd rfl hne
  | cons x r =>
    refine cuts_join x r fun p hp => chk_free ?_
    simp only [pathOk, Bool.and_eq_true, List.all_eq_true] at h
    exact h.2 p hp

theorem join_len : ∀ (l : List (List UInt8)), l.all chk = true → (Lib.join l [47]).length ≤ 27 * l.length
  | [], _ => by simp [Lib.join_nil]
  | [x], h => by
    have := chk_len (l := x) (by simpa using h)
    rw [Lib.join_one]; simp; omega
  | x :: y :: r, h => by
    rw [List.all_cons, Bool.and_eq_true] at h
    have h1 := chk_len h.1
    have h2 := join_len (y :: r) h.2
    rw [join_cons2]
    simp only [List.length_append, List.length_cons] at h2 ⊢
    omega

theorem join_pos {l : List (List UInt8)} (h : l.all chk = true) (hne : l ≠ []) : Lib.join l [47] ≠ [] := by
  cases l with
  | nil => exact absurd rfl hne
  | cons x r =>
    rw [List.all_cons, Bool.and_eq_true] at h
    have h1 := chk_len h.1
    rw [Lib.join_cons]
    intro e
    have : x = [] := (List.append_eq_nil_iff.1 e).1
    rw [this] at h1
    simp at h1

/-- Is there such a path, and its names; the path of names. -/
def pathB (s : List UInt8) : Bool := s.isEmpty || pathOk (cuts s)
def pathL (s : List UInt8) : List (List UInt8) := if s.isEmpty then [] else if pathOk (cuts s) then cuts s else []
def joinL (l : List (List UInt8)) : List UInt8 := if pathOk l then Lib.join l [47] else []

theorem pathOk_all {l : List (List UInt8)} (h : pathOk l = true) : l.length ≤ 8 ∧ l.all chk = true := by
  simpa [pathOk] using h

/-- A path's names joined are that path. -/
theorem join_path {s : List UInt8} (h : pathB s = true) : joinL (pathL s) = s := by
  cases hs : s.isEmpty with
  | true =>
    have : s = [] := by simpa using hs
    subst this
    rfl
  | false =>
    have hp : pathOk (cuts s) = true := by simpa [pathB, hs] using h
    have e : pathL s = cuts s := by simp [pathL, hs, hp]
    rw [e, joinL, if_pos hp, join_cuts]

theorem empty_false {l : List UInt8} (h : l ≠ []) : l.isEmpty = false := by
  cases l with
  | nil => exact absurd rfl h
  | cons _ _ => rfl

/-- Names joined are a path of these. -/
theorem path_of_join {l : List (List UInt8)} (h : pathOk l = true) : pathB (joinL l) = true ∧ pathL (joinL l) = l := by
  cases l with
  | nil => exact ⟨rfl, rfl⟩
  | cons x r =>
    have hc := path_join h (by simp)
    have hp := join_pos (pathOk_all h).2 (by simp)
    have e : joinL (x :: r) = Lib.join (x :: r) [47] := by rw [joinL, if_pos h]
    rw [e]
    have he := empty_false hp
    exact ⟨by simp [pathB, hc, h], by rw [pathL, he, hc, h]; rfl⟩

theorem joinL_no {l : List (List UInt8)} (h : pathOk l = false) : joinL l = [] := by simp [joinL, h]

theorem joinL_len (l : List (List UInt8)) : (joinL l).length ≤ 216 := by
  cases h : pathOk l with
  | true =>
    obtain ⟨h1, h2⟩ := pathOk_all h
    have := join_len l h2
    rw [joinL, if_pos h]
    omega
  | false => rw [joinL_no h]; simp

theorem join_snoc {l : List (List UInt8)} (h : l ≠ []) (x : List UInt8) : Lib.join (l ++ [x]) [47] = Lib.join l [47] ++ [47] ++ x := by
  cases l with
  | nil => exact absurd rfl h
  | cons y r =>
    rw [List.cons_append, Lib.join_cons, Lib.join_cons]
    simp [Lib.joinTail]

/-- Where a piece is none, or one too many, there is no path. -/
theorem pathOk_no {l r : List (List UInt8)} {x : List UInt8} (h : chk x = false ∨ 8 ≤ l.length) : pathOk (l ++ x :: r) = false := by
  rcases h with h | h
  · simp [pathOk, h]
  · simp [pathOk]
    intro h2
    omega

theorem cuts_piece {s : List UInt8} {f i : Nat} (h1 : f ≤ i) (hi : s[i]? = some 47) (hf : 47 ∉ (s.drop f).take (i - f)) : cuts (s.drop f) = (s.drop f).take (i - f) :: cuts (s.drop (i + 1)) := by
  have hlt : i < s.length := (List.getElem?_eq_some_iff.1 hi).1
  have e : s.drop f = (s.drop f).take (i - f) ++ 47 :: s.drop (i + 1) := by
    have h2 : s.drop i = 47 :: s.drop (i + 1) := by
      rw [List.drop_eq_getElem_cons hlt]
      congr 1
      exact Option.some.inj ((List.getElem?_eq_getElem hlt).symm.trans hi)
    have h3 : (s.drop f).drop (i - f) = s.drop i := by
      rw [List.drop_drop]
      congr 1
      omega
    rw [← h2, ← h3, List.take_append_drop]
  have := cuts_app hf (s.drop (i + 1))
  rw [← e] at this
  exact this

theorem free_more {s : List UInt8} {f i : Nat} {b : UInt8} (h1 : f ≤ i) (hi : s[i]? = some b) (hb : b ≠ 47) (hf : 47 ∉ (s.drop f).take (i - f)) : 47 ∉ (s.drop f).take (i + 1 - f) := by
  have e : i + 1 - f = (i - f) + 1 := by omega
  have h2 : (s.drop f)[i - f]? = some b := by
    rw [List.getElem?_drop]
    rw [← hi]
    congr 1
    omega
  rw [e, List.take_add_one, h2]
  intro hm
  rcases List.mem_append.1 hm with h | h
  · exact hf h
  · have e2 : (47 : UInt8) = b := by simpa using h
    exact hb e2.symm
end Go.Proofs.YtpgbnfolekanmaaDoor.Word
