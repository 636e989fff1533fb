/- The law NamePaths walked. -/
import Derived.Test.YtfiakggilhinpaaDoorNameAwake
import Derived.Test.YtfiakggilhinpaaDoorNameText
namespace Go.Proofs.YtfiakggilhinpaaDoor
open Go.RowKit

/-- Names with '/' between them, the second time with an empty one in the place e. -/
def Built (S T : ByteArray) (e i : Nat) : Prop := ∃ us vs : List (List UInt8), us.length = i ∧ vs.length = i ∧ us.all Word.chk = true ∧ (∀ p ∈ vs, 47 ∉ p) ∧ (e < i → [] ∈ vs) ∧ S.data.toList = Lib.join us [47] ∧ T.data.toList = Lib.join vs [47]

theorem Built.zero (e : Nat) : Built ⟨#[]⟩ ⟨#[]⟩ e 0 := ⟨[], [], rfl, rfl, rfl, fun p hp => (by cases hp), fun h => absurd h (Nat.not_lt_zero _), rfl, rfl⟩

theorem join_first {l : List (List UInt8)} (h : l.length = 0) (x : List UInt8) : Lib.join (l ++ [x]) [47] = Lib.join l [47] ++ x := by
  have : l = [] := List.eq_nil_of_length_eq_zero h
  subst this
  rw [List.nil_append, Lib.join_one]
  rfl

theorem ne_of_len {l : List (List UInt8)} {i : Nat} (h : l.length = i) (h0 : 0 < i) : l ≠ [] := by
  intro e
  rw [e] at h
  simp at h
  omega

/-- The first name. -/
theorem Built.first {S T W V : ByteArray} {e : Nat} (h : Built S T e 0) (hw : Word.chk W.data.toList = true) (hv : V = W ∨ V = ⟨#[]⟩) (he : e = 0 → V = ⟨#[]⟩) : Built (S ++ W) (T ++ V) e 1 := by
  obtain ⟨us, vs, h1, h2, h3, h4, h5, h6, h7⟩ := h
  refine ⟨us ++ [W.data.toList], vs ++ [V.data.toList], by simp [h1], by simp [h2], by rw [List.all_append, h3, List.all_cons, hw]; rfl, ?_, ?_, ?_, ?_⟩
  · intro p hp
    rcases List.mem_append.1 hp with hp | hp
    · exact h4 p hp
    · rw [List.mem_singleton.1 hp]
      rcases hv with rfl | rfl
      · exact Word.chk_free hw
      · simp
  · intro h
    rw [he (by omega)]
    simp
  · rw [join_first h1, ← h6]; simp
  · rw [join_first h2, ← h7]; simp

/-- A name more. -/
theorem Built.next {S T W V : ByteArray} {e i : Nat} (h : Built S T e i) (h0 : 0 < i) (hw : Word.chk W.data.toList = true) (hv : V = W ∨ V = ⟨#[]⟩) (he : i = e → V = ⟨#[]⟩) : Built (S ++ ⟨#[47]⟩ ++ W) (T ++ ⟨#[47]⟩ ++ V) e (i + 1) := by
  obtain ⟨us, vs, h1, h2, h3, h4, h5, h6, h7⟩ := h
  refine ⟨us ++ [W.data.toList], vs ++ [V.data.toList], by simp [h1], by simp [h2], by rw [List.all_append, h3, List.all_cons, hw]; rfl, ?_, ?_, ?_, ?_⟩
  · intro p hp
    rcases List.mem_append.1 hp with hp | hp
    · exact h4 p hp
    · rw [List.mem_singleton.1 hp]
      rcases hv with rfl | rfl
      · exact Word.chk_free hw
      · simp
  · intro h
    by_cases hei : i = e
    · rw [he hei]
      simp
    · exact List.mem_append.2 (.inl (h5 (by omega)))
  · rw [Word.join_snoc (ne_of_len h1 h0), ← h6]; simp
  · rw [Word.join_snoc (ne_of_len h2 h0), ← h7]; simp

theorem Built.first_ {S T W V : ByteArray} {e i : Nat} (h : Built S T e i) (h0 : i = 0) (hw : Word.chk W.data.toList = true) (hv : V = W ∨ V = ⟨#[]⟩) (he : i = e → V = ⟨#[]⟩) : Built (S ++ W) (T ++ V) e (i + 1) := by
  subst h0
  exact h.first hw hv fun e0 => he e0.symm

theorem Built.same {S T T' : ByteArray} {e i : Nat} (h : Built S T e i) (ht : T = T') : Built S T' e i := ht ▸ h

theorem append_none (T : ByteArray) : T ++ ⟨#[]⟩ = T := by
  apply ByteArray.ext
  simp

/-- What Path says of the first. -/
theorem Built.path {S T : ByteArray} {e k : Nat} (h : Built S T e k) (hk : 1 ≤ k) : Word.pathB S.data.toList = decide (k ≤ 8) ∧ (Word.pathL S.data.toList).length = if k ≤ 8 then k else 0 := by
  obtain ⟨us, vs, h1, _, h3, _, _, h6, _⟩ := h
  have hne := ne_of_len h1 hk
  have hc : Word.cuts (Lib.join us [47]) = us := by
    cases us with
    | nil => exact absurd rfl hne
    | cons x r => exact Word.cuts_join x r fun p hp => Word.chk_free (List.all_eq_true.1 h3 p hp)
  have hp := Word.empty_false (Word.join_pos h3 hne)
  have hok : Word.pathOk us = decide (k ≤ 8) := by rw [Word.pathOk, h1, h3]; simp
  rw [h6, Word.pathB, Word.pathL, hp, hc, hok]
  refine ⟨by simp, ?_⟩
  by_cases h8 : k ≤ 8
  · simp [h8, h1]
  · simp [h8]

/-- What Path says of the second. -/
theorem Built.none_ {S T : ByteArray} {e k : Nat} (h : Built S T e k) (he : e < k) : Word.pathB T.data.toList = decide (k = 1) ∧ Word.pathL T.data.toList = [] := by
  obtain ⟨us, vs, _, h2, _, h4, h5, _, h7⟩ := h
  have hm := h5 he
  by_cases h1 : k = 1
  · have hv : vs = [[]] := by
      rw [h1] at h2
      cases vs with
      | nil => simp at h2
      | cons x r =>
        have hr : r = [] := List.eq_nil_of_length_eq_zero (by simpa using h2)
        subst hr
        rw [List.mem_singleton.1 hm]
    rw [h7, hv, h1]
    exact ⟨rfl, rfl⟩
  · cases vs with
    | nil => cases hm
    | cons x r =>
      cases r with
      | nil => simp at h2; omega
      | cons y q =>
        have hc := Word.cuts_join x (y :: q) h4
        have hp : Lib.join (x :: y :: q) [47] ≠ [] := by
          rw [Word.join_cons2]
          simp
        have hno : Word.pathOk (x :: y :: q) = false := by
          have : (x :: y :: q).all Word.chk = false := List.all_eq_false.2 ⟨[], hm, by simp [Word.chk_nil]⟩
          simp [Word.pathOk, this]
        rw [h7, Word.pathB, Word.pathL, Word.empty_false hp, hc, hno]
        simp [h1]

/-- Path's answer, by its number of names alone. -/
theorem pathLen_t (s : ByteArray) (w : World) (B : Bool) (m : Nat) (hs : s.size < 4294967281) (hB : Word.pathB s.data.toList = B) (hm : (Word.pathL s.data.toList).length = m) :
    Calls Tryd.prog 9 #[.string s] w fun e w' => (∃ (a : Option Addr) (c : Nat), e = .returned (.tuple #[.slice a m c, .bool B])) ∧ Below w.heap.size w w' := by
  refine (path_t s w hs).mono fun e w' ⟨a, n, c, xs, he, hn, _, _, hr, _, hb⟩ => ?_
  have e1 : n = m := by rw [← hn, ← raw_length, hr, hm]
  subst e1
  exact ⟨⟨a, c, by rw [he, hB]⟩, hb⟩

set_option maxHeartbeats 4000000 in
theorem namePaths_t (n at_ : Int) (w : World) :
    Calls Tryd.prog 6 #[.int .i64 n, .int .i64 at_] w fun e w' => e = .returned (.bool true) ∧ Below w.heap.size w w' := by
  go_enter Tryd.func6, Tryd.ntmps6
  go_wp2_with fail
  refine (nplace_t n 10 w (by decide) (by decide)).mono ?_
  rintro e w1 ⟨⟨k0, rfl, hk0⟩, rfl⟩
  obtain ⟨k, hk⟩ : ∃ k : Nat, (1 : Int) + (k0 : Int) = k := ⟨1 + k0, by omega⟩
  have hk1 : 1 ≤ k := by omega
  have hk10 : k ≤ 10 := by omega
  clear hk0
  go_wp2_with fail
  refine (nplace_t at_ k w (by omega) (by omega)).mono ?_
  rintro e w1 ⟨⟨e, rfl, he0⟩, rfl⟩
  have he : e < k := by omega
  clear he0 hk
  go_wp2_with fail
  go_loopw [6, 7, 9] (fun sv tv iv wr => ∃ (S T : ByteArray) (i : Nat), sv = .string S ∧ tv = .string T ∧ iv = .int .i64 i ∧ i ≤ k ∧ S.size ≤ 30 * i ∧ T.size ≤ 30 * i ∧ Hid (Built S T e i) ∧ Hid (Below w.heap.size w wr)) (fun _ _ iv _ => k - (intOf iv).toNat)
  case atStart => exact ⟨⟨#[]⟩, ⟨#[]⟩, 0, rfl, rfl, rfl, Nat.zero_le _, Nat.zero_le _, Nat.zero_le _, Built.zero e, Below.refl _ _⟩
  case round =>
    obtain ⟨S, T, i, rfl, rfl, rfl, hi, hS, hT, HU, HB⟩ := hrel
    by_cases hlt : i < k
    · obtain ⟨m, hm⟩ : ∃ m : Nat, (1 : Int) + (i : Int) = m := ⟨1 + i, by omega⟩
      go_wp2_with fail
      refine (text_t i m wr (by omega) (by omega) (by omega)).mono ?_
      rintro e' w2 ⟨⟨X, rfl, hX, hL⟩, hb2⟩
      have HB2 := namehid (Below.trans' HB.out hb2)
      have hWs : (⟨X.toArray⟩ : ByteArray).size = m := by rw [size_data]; exact hX
      have hWk : Word.chk (⟨X.toArray⟩ : ByteArray).data.toList = true := by
        show Word.chk X = true
        rw [low_chk hL, hX, decide_eq_true_eq]
        omega
      clear hb2 HB hX hL
      generalize (⟨X.toArray⟩ : ByteArray) = W at *
      have hm10 : m ≤ 10 := by omega
      by_cases h0 : 0 < i
      · by_cases hie : i = e
        · have HU2 : Hid (Built (S ++ ⟨#[47]⟩ ++ W) (T ++ ⟨#[47]⟩) e (i + 1)) := (HU.out.next h0 hWk (V := ⟨#[]⟩) (.inr rfl) (fun _ => rfl)).same (append_none _)
          have q1 : ((i : Int) == (e : Int)) = true := by rw [beq_iff_eq]; omega
          have q2 : ((i : Int) != (e : Int)) = false := by rw [bne_eq_false_iff_eq]; omega
          have z1 : (S ++ ⟨#[47]⟩ ++ W).size ≤ 30 * (i + 1) := by rw [ByteArray.size_append, ByteArray.size_append]; show S.size + 1 + W.size ≤ _; omega
          have z2 : (T ++ ⟨#[47]⟩).size ≤ 30 * (i + 1) := by rw [ByteArray.size_append]; show T.size + 1 ≤ _; omega
          clear HU hWk hm
          have hie2 := namehid hie
          clear hie
          go_wp2_with fail
          exact ⟨⟨_, _, i + 1, rfl, rfl, by go_num, by omega, z1, z2, HU2, HB2⟩, by simp [intOf]; omega⟩
        · have HU2 : Hid (Built (S ++ ⟨#[47]⟩ ++ W) (T ++ ⟨#[47]⟩ ++ W) e (i + 1)) := HU.out.next h0 hWk (V := W) (.inl rfl) (fun h => absurd h hie)
          have q1 : ((i : Int) == (e : Int)) = false := by rw [beq_eq_false_iff_ne]; omega
          have q2 : ((i : Int) != (e : Int)) = true := by rw [bne_iff_ne]; omega
          have z1 : (S ++ ⟨#[47]⟩ ++ W).size ≤ 30 * (i + 1) := by rw [ByteArray.size_append, ByteArray.size_append]; show S.size + 1 + W.size ≤ _; omega
          have z2 : (T ++ ⟨#[47]⟩ ++ W).size ≤ 30 * (i + 1) := by rw [ByteArray.size_append, ByteArray.size_append]; show T.size + 1 + W.size ≤ _; omega
          clear HU hWk hm
          go_wp2_with fail
          exact ⟨⟨_, _, i + 1, rfl, rfl, by go_num, by omega, z1, z2, HU2, HB2⟩, by simp [intOf]; omega⟩
      · have hi0 : i = 0 := by omega
        by_cases hie : i = e
        · have HU2 : Hid (Built (S ++ W) T e (i + 1)) := (HU.out.first_ hi0 hWk (V := ⟨#[]⟩) (.inr rfl) (fun _ => rfl)).same (append_none _)
          have q1 : ((i : Int) == (e : Int)) = true := by rw [beq_iff_eq]; omega
          have q2 : ((i : Int) != (e : Int)) = false := by rw [bne_eq_false_iff_eq]; omega
          have z1 : (S ++ W).size ≤ 30 * (i + 1) := by rw [ByteArray.size_append]; omega
          clear HU hWk hm hi0 hie
          go_wp2_with fail
          exact ⟨⟨_, _, i + 1, rfl, rfl, by go_num, by omega, z1, by omega, HU2, HB2⟩, by simp [intOf]; omega⟩
        · have HU2 : Hid (Built (S ++ W) (T ++ W) e (i + 1)) := HU.out.first_ hi0 hWk (V := W) (.inl rfl) (fun h => absurd h hie)
          have q1 : ((i : Int) == (e : Int)) = false := by rw [beq_eq_false_iff_ne]; omega
          have q2 : ((i : Int) != (e : Int)) = true := by rw [bne_iff_ne]; omega
          have z1 : (S ++ W).size ≤ 30 * (i + 1) := by rw [ByteArray.size_append]; omega
          have z2 : (T ++ W).size ≤ 30 * (i + 1) := by rw [ByteArray.size_append]; omega
          clear HU hWk hm hi0
          go_wp2_with fail
          exact ⟨⟨_, _, i + 1, rfl, rfl, by go_num, by omega, z1, z2, HU2, HB2⟩, by simp [intOf]; omega⟩
    · have hik : i = k := by omega
      subst hik
      obtain ⟨a1, a2⟩ := HU.out.path hk1
      obtain ⟨b1, b2⟩ := HU.out.none_ he
      have hkc : i = 1 ∨ (2 ≤ i ∧ i ≤ 8) ∨ 9 ≤ i := by omega
      rcases hkc with hk2 | ⟨hk2, hk8⟩ | hk9
      · have d1 : decide (i ≤ 8) = true := by rw [decide_eq_true_eq]; omega
        have d2 : decide (i = 1) = true := by rw [decide_eq_true_eq]; exact hk2
        have d3 : (if i ≤ 8 then i else 0) = 1 := by rw [if_pos (by omega), hk2]
        have d4 : ((i : Int) == 1) = true := by rw [beq_iff_eq]; omega
        rw [d1] at a1
        rw [d3] at a2
        rw [d2] at b1
        clear d1 d2 d3 hk2
        have HP := namehid (fun w => pathLen_t S w _ _ (by omega) a1 a2)
        have HQ := namehid (fun w => pathLen_t T w _ 0 (by omega) b1 (by rw [b2]; rfl))
        clear a1 a2 b1 b2 HU
        go_wp2_with fail
        refine (HP.out wr).mono ?_
        rintro e' w2 ⟨⟨a2, c2, rfl⟩, hb2⟩
        have HB2 := namehid (Below.trans' HB.out hb2)
        clear hb2 HB HP
        go_wp2_with fail
        refine (HQ.out w2).mono ?_
        rintro e' w3 ⟨⟨a3, c3, rfl⟩, hb3⟩
        have HB3 := namehid (Below.trans' HB2.out hb3)
        clear hb3 HB2 HQ
        go_wp2_with fail
        refine (nawake_t w3).mono ?_
        rintro e' w4 ⟨rfl, hb4⟩
        have HB4 := namehid (Below.trans' HB3.out hb4)
        clear hb4 HB3
        go_wp2_with fail
        go_ret
        exact ⟨rfl, HB4.out⟩
      · have d1 : decide (i ≤ 8) = true := by rw [decide_eq_true_eq]; exact hk8
        have d2 : decide (i = 1) = false := by rw [decide_eq_false_iff_not]; omega
        have d3 : (if i ≤ 8 then i else 0) = i := by rw [if_pos hk8]
        have d4 : ((i : Int) == 1) = false := by rw [beq_eq_false_iff_ne]; omega
        rw [d1] at a1
        rw [d3] at a2
        rw [d2] at b1
        clear d1 d2 d3
        have HP := namehid (fun w => pathLen_t S w _ _ (by omega) a1 a2)
        have HQ := namehid (fun w => pathLen_t T w _ 0 (by omega) b1 (by rw [b2]; rfl))
        clear a1 a2 b1 b2 HU
        go_wp2_with fail
        refine (HP.out wr).mono ?_
        rintro e' w2 ⟨⟨a2, c2, rfl⟩, hb2⟩
        have HB2 := namehid (Below.trans' HB.out hb2)
        clear hb2 HB HP
        go_wp2_with fail
        refine (HQ.out w2).mono ?_
        rintro e' w3 ⟨⟨a3, c3, rfl⟩, hb3⟩
        have HB3 := namehid (Below.trans' HB2.out hb3)
        clear hb3 HB2 HQ
        go_wp2_with fail
        refine (nawake_t w3).mono ?_
        rintro e' w4 ⟨rfl, hb4⟩
        have HB4 := namehid (Below.trans' HB3.out hb4)
        clear hb4 HB3
        go_wp2_with fail
        go_ret
        exact ⟨rfl, HB4.out⟩
      · have d1 : decide (i ≤ 8) = false := by rw [decide_eq_false_iff_not]; omega
        have d2 : decide (i = 1) = false := by rw [decide_eq_false_iff_not]; omega
        have d3 : (if i ≤ 8 then i else 0) = 0 := by rw [if_neg (by omega)]
        have d4 : ((i : Int) == 1) = false := by rw [beq_eq_false_iff_ne]; omega
        rw [d1] at a1
        rw [d3] at a2
        rw [d2] at b1
        clear d1 d2 d3
        have HP := namehid (fun w => pathLen_t S w _ _ (by omega) a1 a2)
        have HQ := namehid (fun w => pathLen_t T w _ 0 (by omega) b1 (by rw [b2]; rfl))
        clear a1 a2 b1 b2 HU
        go_wp2_with fail
        refine (HP.out wr).mono ?_
        rintro e' w2 ⟨⟨a2, c2, rfl⟩, hb2⟩
        have HB2 := namehid (Below.trans' HB.out hb2)
        clear hb2 HB HP
        go_wp2_with fail
        refine (HQ.out w2).mono ?_
        rintro e' w3 ⟨⟨a3, c3, rfl⟩, hb3⟩
        have HB3 := namehid (Below.trans' HB2.out hb3)
        clear hb3 HB2 HQ
        go_wp2_with fail
        refine (nawake_t w3).mono ?_
        rintro e' w4 ⟨rfl, hb4⟩
        have HB4 := namehid (Below.trans' HB3.out hb4)
        clear hb4 HB3
        go_wp2_with fail
        go_ret
        refine ⟨?_, HB4.out⟩
        have e8 : decide ((i : Int) ≤ 8) = false := by rw [decide_eq_false_iff_not]; omega
        simp only [e8]
        rfl
end Go.Proofs.YtfiakggilhinpaaDoor
