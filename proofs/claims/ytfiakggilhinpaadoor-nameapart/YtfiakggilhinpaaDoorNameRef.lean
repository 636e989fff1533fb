/- The document's own answers of layer 4 (Check, Join, Path) walked. -/
import Derived.Test.YtfiakggilhinpaaDoorNamePath
import Derived.Deep.AppendLies
namespace Go.Proofs.YtfiakggilhinpaaDoor
open Go.RowKit

/-- What the last line of Check asks. -/
theorem chk_parts (s : ByteArray) : Word.chk s.data.toList = (decide (1 ≤ s.size ∧ s.size ≤ 26) && (s.data.toList.all Word.okb && (s.data.toList != [46] && s.data.toList != [46, 46]))) := by
  rw [Word.chk, size_data]

set_option maxHeartbeats 2000000 in
/-- Check of the document: may the name be? -/
theorem rcheck_t (s : ByteArray) (w : World) (hs : s.size ≤ 9223372036854775807) :
    Calls Tryd.prog 12 #[.string s] w fun e w' => e = .returned (.bool (Word.chk s.data.toList)) ∧ w = w' := by
  have hB := chk_parts s
  obtain ⟨B, hB2⟩ : ∃ B, Word.chk s.data.toList = B := ⟨_, rfl⟩
  rw [hB2] at hB
  rw [hB2]
  have HB := namehid hB
  clear hB hB2
  go_enter Tryd.func12, Tryd.ntmps12
  go_wp2
  go_loopw [3] (fun iv wr => ∃ i : Nat, iv = .int .i64 i ∧ i ≤ s.size ∧ Hid (∀ j (hj : j < s.size), j < i → Word.okb s[j] = true) ∧ w = wr) (fun iv _ => s.size - (intOf iv).toNat)
  case atStart => exact ⟨0, rfl, Nat.zero_le _, fun j _ h => absurd h (Nat.not_lt_zero _), rfl⟩
  case round =>
    obtain ⟨i, rfl, hi, HI, rfl⟩ := hrel
    by_cases hlt : i < s.size
    · cases hb : Word.okb s[i] with
      | true =>
        have hb2 : 33 ≤ s[i].toNat ∧ s[i].toNat ≤ 126 ∧ s[i].toNat ≠ 47 := by simpa [Word.okb] using hb
        have c1 : 33 ≤ s[i].toNat := hb2.1
        have c2 : s[i].toNat ≤ 126 := hb2.2.1
        have c3 : ((s[i].toNat : Int) == 47) = false := by rw [beq_eq_false_iff_ne]; have := hb2.2.2; omega
        have HI2 : Hid (∀ j (hj : j < s.size), j < i + 1 → Word.okb s[j] = true) := fun j hj h => by
          by_cases e : j = i
          · subst e; exact hb
          · exact HI.out j hj (by omega)
        clear hb hb2 HI HB
        go_wp2_with fail
        exact ⟨⟨i + 1, by go_num, by omega, HI2, trivial⟩, by simp [intOf]; omega⟩
      | false =>
        have hb2 : s[i].toNat < 33 ∨ 126 < s[i].toNat ∨ s[i].toNat = 47 := by
          have : ¬ (33 ≤ s[i].toNat ∧ s[i].toNat ≤ 126 ∧ s[i].toNat ≠ 47) := by simpa only [Word.okb, decide_eq_false_iff_not] using hb
          omega
        have hall : s.data.toList.all Word.okb = false := by
          rw [List.all_eq_false]
          exact ⟨s[i], List.mem_of_getElem? (list_get hlt), by simp [hb]⟩
        have hB : B = false := by rw [HB.out, hall]; simp
        subst hB
        clear hall hb HI HB
        rcases hb2 with hb2 | hb2 | hb2
        · go_wp2_with fail
          go_ret
          exact ⟨rfl, rfl⟩
        · go_wp2_with fail
          go_ret
          exact ⟨rfl, rfl⟩
        · have c3 : ((s[i].toNat : Int) == 47) = true := by rw [beq_iff_eq]; omega
          have c4 : 33 ≤ s[i].toNat := by omega
          have c5 : s[i].toNat ≤ 126 := by omega
          go_wp2_with fail
          go_ret
          exact ⟨rfl, rfl⟩
    · have hall : s.data.toList.all Word.okb = true := by
        rw [List.all_eq_true]
        intro b hb
        obtain ⟨i, hi, rfl⟩ := mem_at hb
        exact HI.out i hi (by omega)
      have HB2 : Hid (B = (decide (1 ≤ s.size ∧ s.size ≤ 26) && (s.toList != [46] && s.toList != [46, 46]))) := by
        show _ = _
        rw [HB.out, hall, Lib.toList_data]
        simp
      clear HB hall HI
      by_cases h1 : 1 ≤ s.size
      · by_cases h26 : s.size ≤ 26
        · have hd : decide (1 ≤ s.size ∧ s.size ≤ 26) = true := by simp; omega
          have HB3 : Hid (B = (s.toList != [46] && s.toList != [46, 46])) := by
            show _ = _
            rw [HB2.out, hd]
            simp
          clear HB2 hd
          cases hp1 : (s.toList == [46]) with
          | true =>
            have hB : B = false := by rw [HB3.out, bne, hp1]; rfl
            subst hB
            clear HB3
            go_wp2_with fail
            go_ret
            exact ⟨rfl, rfl⟩
          | false =>
            cases hp2 : (s.toList == [46, 46]) with
            | true =>
              have hB : B = false := by rw [HB3.out, bne, bne, hp1, hp2]; rfl
              subst hB
              clear HB3
              go_wp2_with fail
              go_ret
              exact ⟨rfl, rfl⟩
            | false =>
              have hB : B = true := by rw [HB3.out, bne, bne, hp1, hp2]; rfl
              subst hB
              clear HB3
              go_wp2_with fail
              go_ret
              exact ⟨rfl, rfl⟩
        · have hB : B = false := by
            rw [HB2.out]
            have : decide (1 ≤ s.size ∧ s.size ≤ 26) = false := by simp; omega
            rw [this]; rfl
          subst hB
          clear HB2
          go_wp2_with fail
          go_ret
          exact ⟨rfl, rfl⟩
      · have hB : B = false := by
          rw [HB2.out]
          have : decide (1 ≤ s.size ∧ s.size ≤ 26) = false := by simp; omega
          rw [this]; rfl
        subst hB
        clear HB2
        go_wp2_with fail
        go_ret
        exact ⟨rfl, rfl⟩

/-- What Join of the document has behind i names. -/
structure Sofar (xs : List ByteArray) (i : Nat) (S : ByteArray) : Prop where
  all : (raw (xs.take i)).all Word.chk = true
  is : S.data.toList = Lib.join (raw (xs.take i)) [47]

theorem raw_take_succ {xs : List ByteArray} {i : Nat} {x : ByteArray} (h : xs[i]? = some x) : raw (xs.take (i + 1)) = raw (xs.take i) ++ [x.data.toList] := by
  unfold raw
  rw [List.take_add_one, h]
  simp

theorem raw_take_ne {xs : List ByteArray} {i : Nat} (h0 : 0 < i) (h1 : i ≤ xs.length) : raw (xs.take i) ≠ [] := by
  intro e
  have := congrArg List.length e
  rw [raw_length, List.length_take, List.length_nil] at this
  omega

theorem Sofar.size {xs : List ByteArray} {i : Nat} {S : ByteArray} (h : Sofar xs i S) (hi : i ≤ 8) : S.size ≤ 216 := by
  have := Word.join_len _ h.all
  rw [size_data, h.is]
  have h2 : (raw (xs.take i)).length ≤ i := by rw [raw_length, List.length_take]; omega
  omega

theorem Sofar.first {xs : List ByteArray} {x : ByteArray} (hx : xs[0]? = some x) (hk : Word.chk x.data.toList = true) : Sofar xs 1 (⟨#[]⟩ ++ x) := by
  have e : raw (xs.take 1) = [x.data.toList] := raw_take_succ hx
  refine ⟨by rw [e]; simp [hk], ?_⟩
  rw [e, Lib.join_one]
  simp

theorem Sofar.next {xs : List ByteArray} {i : Nat} {S x : ByteArray} (h : Sofar xs i S) (h0 : 0 < i) (h1 : i ≤ xs.length) (hx : xs[i]? = some x) (hk : Word.chk x.data.toList = true) : Sofar xs (i + 1) (S ++ ⟨#[47]⟩ ++ x) := by
  have e := raw_take_succ hx
  refine ⟨by rw [e, List.all_append, h.all]; simp [hk], ?_⟩
  rw [e, Word.join_snoc (raw_take_ne h0 h1), ← h.is]
  simp

theorem pathOk_take {xs : List ByteArray} {i : Nat} {x : ByteArray} (hx : xs[i]? = some x) (hk : Word.chk x.data.toList = false) : Word.pathOk (raw xs) = false := by
  have hm : x.data.toList ∈ raw xs := List.mem_map.2 ⟨x, List.mem_of_getElem? hx, rfl⟩
  have : (raw xs).all Word.chk = false := by
    rw [List.all_eq_false]
    exact ⟨_, hm, by simp [hk]⟩
  simp [Word.pathOk, this]

set_option maxHeartbeats 2000000 in
theorem rjoin_none (a : Option Addr) (c : Nat) (w : World) :
    Calls Tryd.prog 15 #[.slice a 0 c] w fun e w' => e = .returned (.string ⟨#[]⟩) ∧ w = w' := by
  go_enter Tryd.func15, Tryd.ntmps15
  go_wp2_with fail
  go_loopw [3, 4] (fun sv iv wr => sv = .string ⟨#[]⟩ ∧ iv = .int .i64 0 ∧ w = wr) (fun _ _ _ => 0)
  case atStart => exact ⟨rfl, rfl, rfl⟩
  case round =>
    obtain ⟨rfl, rfl, rfl⟩ := hrel
    go_wp2_with fail
    go_ret
    exact ⟨rfl, rfl⟩

set_option maxHeartbeats 2000000 in
theorem rjoin_row (bk o n c : Nat) (xs : List ByteArray) (w : World) (hn : xs.length = n) (h63 : n ≤ 9223372036854775807) (hz : ∀ (j : Nat) x, xs[j]? = some x → x.size ≤ 9223372036854775807) (hcs : ∀ (j : Nat) x, xs[j]? = some x → w.cell? ⟨bk, o + j, none⟩ = some (.string x)) :
    Calls Tryd.prog 15 #[.slice (some ⟨bk, o, none⟩) n c] w fun e w' => e = .returned (.string (joinB xs)) ∧ w = w' := by
  obtain ⟨J, hJ⟩ : ∃ J, joinB xs = J := ⟨_, rfl⟩
  have HJ0 : Hid (Word.pathOk (raw xs) = false → J = ⟨#[]⟩) := fun h => by rw [← hJ, joinB, Word.joinL_no h]
  have HJ1 : Hid (∀ S, n ≤ 8 → Sofar xs n S → J = S) := fun S h8 h => by
    have e : xs.take n = xs := List.take_of_length_le (by omega)
    have ha := h.all
    have hi := h.is
    rw [e] at ha hi
    have hp : Word.pathOk (raw xs) = true := by
      have : decide ((raw xs).length ≤ 8) = true := by simp [raw_length]; omega
      rw [Word.pathOk, this, ha]; rfl
    rw [← hJ, joinB, Word.joinL, if_pos hp, ← hi, Lib.mk_data]
  rw [hJ]
  have HN := namehid hn
  have HC := namehid hcs
  have HZ := namehid hz
  clear hJ hn hcs hz
  go_enter Tryd.func15, Tryd.ntmps15
  go_wp2_with fail
  go_loopw [3, 4] (fun sv iv wr => ∃ (S : ByteArray) (i : Nat), sv = .string S ∧ iv = .int .i64 i ∧ i ≤ n ∧ i ≤ 8 ∧ Hid (i = 0 → S = ⟨#[]⟩) ∧ Hid (Sofar xs i S) ∧ w = wr) (fun _ iv _ => n - (intOf iv).toNat)
  case atStart => exact ⟨⟨#[]⟩, 0, rfl, rfl, Nat.zero_le _, Nat.zero_le _, fun _ => rfl, ⟨rfl, rfl⟩, rfl⟩
  case round =>
    obtain ⟨S, i, rfl, rfl, hi, h8, H0, HS, rfl⟩ := hrel
    by_cases hlt : i < n
    · by_cases hi8 : i < 8
      · obtain ⟨x, hx⟩ : ∃ x, xs[i]? = some x := ⟨_, List.getElem?_eq_getElem (by rw [HN.out]; exact hlt)⟩
        have hc := HC.out i x hx
        have hzx := HZ.out i x hx
        cases hk1 : Word.chk x.data.toList with
        | true =>
          have hxs : x.size ≤ 26 := by rw [size_data]; exact (Word.chk_len hk1).2
          have hSs := HS.out.size h8
          have HR : Hid (Calls Tryd.prog 12 #[.string x] w fun e w' => e = .returned (.bool true) ∧ w = w') := by
            have := rcheck_t x w hzx
            rw [hk1] at this
            exact this
          by_cases hi0 : i = 0
          · subst hi0
            have hS := H0.out rfl
            subst hS
            have HS2 := namehid (Sofar.first hx hk1)
            have hc0 : w.cell? ⟨bk, o, none⟩ = some (.string x) := hc
            clear hc
            clear hk1 HS HZ HC H0 hx
            go_wp2_with fail
            refine HR.out.mono ?_
            rintro e w1 ⟨rfl, rfl⟩
            go_wp2_with fail
            exact ⟨⟨_, 1, rfl, by go_num, by omega, by omega, fun h => absurd h (by decide), HS2, trivial⟩, by simp [intOf]; omega⟩
          · have HS2 := namehid (HS.out.next (by omega) (by have := HN.out; omega) hx hk1)
            have hi1 : 0 < i := by omega
            clear hk1 HS HZ HC H0 hx
            go_wp2_with fail
            refine HR.out.mono ?_
            rintro e w1 ⟨rfl, rfl⟩
            go_wp2_with fail
            exact ⟨⟨_, i + 1, rfl, by go_num, by omega, by omega, fun h => absurd h (by omega), HS2, trivial⟩, by simp [intOf]; omega⟩
        | false =>
          have hJ := HJ0.out (pathOk_take hx hk1)
          subst hJ
          have HR : Hid (Calls Tryd.prog 12 #[.string x] w fun e w' => e = .returned (.bool false) ∧ w = w') := by
            have := rcheck_t x w hzx
            rw [hk1] at this
            exact this
          clear hk1 HS HZ HC H0 hx HJ0 HJ1
          go_wp2_with fail
          refine HR.out.mono ?_
          rintro e w1 ⟨rfl, rfl⟩
          go_wp2_with fail
          go_ret
          exact ⟨rfl, rfl⟩
      · have hJ := HJ0.out (by
          have := HN.out
          simp [Word.pathOk, raw_length]
          intro h
          omega)
        subst hJ
        clear HS HZ HC H0 HJ0 HJ1
        go_wp2_with fail
        go_ret
        exact ⟨rfl, rfl⟩
    · have hin : i = n := by omega
      subst hin
      have hJ := HJ1.out S h8 HS.out
      subst hJ
      clear HS HZ HC H0 HJ0 HJ1
      go_wp2_with fail
      go_ret
      exact ⟨rfl, rfl⟩

/-- Join of the document. -/
theorem rjoin_t (a : Option Addr) (n c : Nat) (xs : List ByteArray) (w : World) (hn : xs.length = n) (h63 : n ≤ 9223372036854775807) (hz : ∀ (j : Nat) x, xs[j]? = some x → x.size ≤ 9223372036854775807) (h : Strs w a xs) :
    Calls Tryd.prog 15 #[.slice a n c] w fun e w' => e = .returned (.string (joinB xs)) ∧ w = w' := by
  rcases h with rfl | ⟨bk, o, rfl, _, hcs⟩
  · subst hn
    exact rjoin_none a c w
  · exact rjoin_row bk o n c xs w hn h63 hz hcs
end Go.Proofs.YtfiakggilhinpaaDoor
