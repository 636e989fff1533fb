/- Path of the document walked. -/
import Derived.Test.YtfiakggilhinpaaDoorNameRef
namespace Go.Proofs.YtfiakggilhinpaaDoor
open Go.RowKit

/-- Texts as cells. -/
def scells (xs : List ByteArray) : List Value := xs.map Value.string
theorem scells_snoc (xs : List ByteArray) (x : ByteArray) : scells (xs ++ [x]) = scells xs ++ [.string x] := by simp [scells]

/-- What one owns lies where it says. -/
theorem strs_of_owns {w : World} {base : Nat} {a : Option Addr} {c : Nat} {xs : List ByteArray} (h : w.ownsRow base 9 1 (.slice a xs.length c) xs.length (scells xs)) : Strs w a xs := by
  obtain ⟨_, ⟨_, hn⟩ | ⟨g, cap, cur, he, _, hg, _, _, _, ht⟩⟩ := h
  · exact .inl (List.eq_nil_of_length_eq_zero hn)
  · cases he
    refine .inr ⟨g, 0, rfl, (Array.getElem?_eq_some_iff.1 hg).1, fun j x hx => ?_⟩
    have hj : j < xs.length := (List.getElem?_eq_some_iff.1 hx).1
    rw [cell_of_row w g _ cur 9 _ hg, Nat.zero_add]
    have e : (scells xs)[j]? = some (.string x) := by simp [scells, hx]
    rw [← e, ← ht, Nat.mul_one, List.getElem?_take_of_lt hj, Array.getElem?_toList]

theorem owns_cap {w : World} {base : Nat} {a : Option Addr} {c : Nat} {xs : List ByteArray} (h : w.ownsRow base 9 1 (.slice a xs.length c) xs.length (scells xs)) : xs.length ≤ c := by
  obtain ⟨_, ⟨he, hn⟩ | ⟨g, cap, cur, he, _, hg, hc, _, _, ht⟩⟩ := h
  · omega
  · cases he; exact hc

theorem owns_below {w w' : World} {base : Nat} {a : Option Addr} {c : Nat} {xs : List ByteArray} (h : w.ownsRow base 9 1 (.slice a xs.length c) xs.length (scells xs)) (hb : Below w.heap.size w w') : w'.ownsRow base 9 1 (.slice a xs.length c) xs.length (scells xs) := by
  obtain ⟨h1, ⟨he, hn⟩ | ⟨g, cap, cur, he, hbs, hg, rest⟩⟩ := h
  · exact ⟨h1, .inl ⟨he, hn⟩⟩
  · exact ⟨h1, .inr ⟨g, cap, cur, he, hbs, by rw [hb.block g (Array.getElem?_eq_some_iff.1 hg).1]; exact hg, rest⟩⟩

/-- What Path of the document has when it looks at place i. -/
structure Upto (s : ByteArray) (xs : List ByteArray) (f i : Nat) : Prop where
  all : (raw xs).all Word.chk = true
  len : xs.length ≤ 8
  now : (i ≤ s.size ∧ f ≤ i ∧ 47 ∉ (s.data.toList.drop f).take (i - f) ∧ Word.cuts s.data.toList = raw xs ++ Word.cuts (s.data.toList.drop f)) ∨ (i = s.size + 1 ∧ Word.cuts s.data.toList = raw xs)

theorem Upto.start (s : ByteArray) : Upto s [] 0 0 := ⟨rfl, by simp, .inl ⟨Nat.zero_le _, Nat.le_refl _, by simp, by simp [raw]⟩⟩

theorem Upto.on {s : ByteArray} {xs : List ByteArray} {f i : Nat} (h : Upto s xs f i) (hi : i < s.size) (hb : s[i] ≠ 47) : Upto s xs f (i + 1) := by
  refine ⟨h.all, h.len, .inl ?_⟩
  rcases h.now with ⟨_, h2, h3, h4⟩ | ⟨h1, _⟩
  · exact ⟨by omega, by omega, Word.free_more h2 (list_get hi) hb h3, h4⟩
  · omega

/-- A piece ends here. -/
theorem Upto.piece {s : ByteArray} {xs : List ByteArray} {f i : Nat} (h : Upto s xs f i) (hi : i = s.size ∨ ∃ h : i < s.size, s[i] = 47) :
    ∃ r, Word.cuts s.data.toList = raw xs ++ (s.extract f i).data.toList :: r ∧ ((i = s.size ∧ r = []) ∨ (i < s.size ∧ r = Word.cuts (s.data.toList.drop (i + 1)))) := by
  rcases h.now with ⟨h1, h2, h3, h4⟩ | ⟨h1, _⟩
  · rw [Lib.extract_data]
    rcases hi with rfl | ⟨hi, hb⟩
    · have e : (s.data.toList.drop f).take (s.size - f) = s.data.toList.drop f := List.take_of_length_le (by simp)
      rw [e] at h3 ⊢
      exact ⟨[], by rw [h4, Word.cuts_none h3], .inl ⟨rfl, rfl⟩⟩
    · exact ⟨_, by rw [h4, Word.cuts_piece h2 (by rw [list_get hi, hb]) h3], .inr ⟨hi, rfl⟩⟩
  · rcases hi with rfl | ⟨hi, _⟩ <;> omega

theorem Upto.no {s : ByteArray} {xs : List ByteArray} {f i : Nat} (h : Upto s xs f i) (hi : i = s.size ∨ ∃ h : i < s.size, s[i] = 47) (hn : Word.chk (s.extract f i).data.toList = false ∨ 8 ≤ xs.length) : Word.pathOk (Word.cuts s.data.toList) = false := by
  obtain ⟨r, hr, _⟩ := h.piece hi
  rw [hr]
  exact Word.pathOk_no (by rw [raw_length]; exact hn)

theorem Upto.more {s : ByteArray} {xs : List ByteArray} {f i : Nat} (h : Upto s xs f i) (hi : i = s.size ∨ ∃ h : i < s.size, s[i] = 47) (hn : Word.chk (s.extract f i).data.toList = true) (h8 : xs.length < 8) : Upto s (xs ++ [s.extract f i]) (i + 1) (i + 1) := by
  obtain ⟨r, hr, hc⟩ := h.piece hi
  have e : raw (xs ++ [s.extract f i]) = raw xs ++ [(s.extract f i).data.toList] := by simp [raw]
  refine ⟨by rw [e, List.all_append, h.all, List.all_cons, hn]; rfl, by simp; omega, ?_⟩
  rw [e]
  rcases hc with ⟨rfl, rfl⟩ | ⟨hlt, rfl⟩
  · exact .inr ⟨rfl, hr⟩
  · exact .inl ⟨by omega, by omega, by simp, by rw [hr]; simp⟩

theorem Upto.done {s : ByteArray} {xs : List ByteArray} {f i : Nat} (h : Upto s xs f i) (hi : s.size < i) : Word.cuts s.data.toList = raw xs ∧ Word.pathOk (Word.cuts s.data.toList) = true := by
  rcases h.now with ⟨h1, _⟩ | ⟨_, h2⟩
  · omega
  · refine ⟨h2, ?_⟩
    rw [h2, Word.pathOk, raw_length, h.all]
    simp [h.len]

theorem pathSays_no {s : ByteArray} {w w' : World} (h0 : s ≠ ⟨#[]⟩) (h : Word.pathOk (Word.cuts s.data.toList) = false) (hb : Below w.heap.size w w') : PathSaid s w (.returned (.tuple #[.slice none 0 0, .bool false])) w' := by
  have he := Word.empty_false (isEmpty_false h0).1
  have e1 : Word.pathB s.data.toList = false := by simp [Word.pathB, he, h]
  have e2 : Word.pathL s.data.toList = [] := by rw [Word.pathL, he, h]; rfl
  unfold PathSaid
  rw [e1, e2]
  exact PathSays.mk none 0 0 [] rfl rfl (Nat.le_refl _) (by decide) rfl (.inl rfl) hb

theorem pathSays_yes {s : ByteArray} {w w' : World} {a : Option Addr} {c : Nat} {xs : List ByteArray} (h0 : s ≠ ⟨#[]⟩) (h1 : Word.cuts s.data.toList = raw xs) (h : Word.pathOk (Word.cuts s.data.toList) = true) (hc : xs.length ≤ c) (hs : Strs w' a xs) (hb : Below w.heap.size w w') : PathSaid s w (.returned (.tuple #[.slice a xs.length c, .bool true])) w' := by
  have he := Word.empty_false (isEmpty_false h0).1
  have e1 : Word.pathB s.data.toList = true := by simp [Word.pathB, h]
  have e2 : Word.pathL s.data.toList = raw xs := by rw [Word.pathL, he, h, h1]; rfl
  unfold PathSaid
  rw [e1, e2]
  exact PathSays.mk a xs.length c xs rfl rfl hc (by rw [← raw_length, ← h1]; exact (Word.pathOk_all h).1) rfl hs hb

set_option maxHeartbeats 1000000 in
theorem rpath_none (w : World) :
    Calls Tryd.prog 10 #[.string ⟨#[]⟩] w fun e w' => e = .returned (.tuple #[.slice none 0 0, .bool true]) ∧ w = w' := by
  go_enter Tryd.func10, Tryd.ntmps10
  go_wp2
  go_ret2
  exact ⟨rfl, rfl⟩

set_option maxHeartbeats 2000000 in
theorem rpath_some (s : ByteArray) (w : World) (hs : s.size < 4294967281) (h0 : s ≠ ⟨#[]⟩) :
    Calls Tryd.prog 10 #[.string s] w fun e w' => PathSaid s w e w' := by
  obtain ⟨i0, hi0, hz0, hz1, hz2⟩ := info_parts Tryd.ninfo9
  have hem := (isEmpty_false h0).2
  have HP0 : Hid (Word.pathOk (Word.cuts s.data.toList) = false → ∀ w', Below w.heap.size w w' → PathSaid s w (.returned (.tuple #[.slice none 0 0, .bool false])) w') := fun h w' hb => pathSays_no h0 h hb
  have HP1 : Hid (∀ (a : Option Addr) (c : Nat) (xs : List ByteArray) (w' : World), Word.cuts s.data.toList = raw xs → Word.pathOk (Word.cuts s.data.toList) = true → xs.length ≤ c → Strs w' a xs → Below w.heap.size w w' → PathSaid s w (.returned (.tuple #[.slice a xs.length c, .bool true])) w') := fun a c xs w' h1 h hc hs hb => pathSays_yes h0 h1 h hc hs hb
  obtain ⟨PS, hPS⟩ : ∃ PS, PathSaid s w = PS := ⟨_, rfl⟩
  show Calls _ _ _ _ (PathSaid s w)
  rw [hPS] at HP0 HP1 ⊢
  clear hPS h0
  go_enter Tryd.func10, Tryd.ntmps10
  go_wp2_with fail
  go_loopw [4, 5, 6] (fun lv fv iv wr => ∃ (xs : List ByteArray) (av : Option Addr) (cv f i : Nat), lv = .slice av xs.length cv ∧ fv = .int .i64 f ∧ iv = .int .i64 i ∧ i ≤ s.size + 1 ∧ (i ≤ s.size → f ≤ i) ∧ xs.length ≤ 8 ∧ Hid (Upto s xs f i) ∧ Hid (wr.ownsRow w.heap.size 9 1 (.slice av xs.length cv) xs.length (scells xs)) ∧ Hid (Below w.heap.size w wr)) (fun _ _ iv _ => s.size + 1 - (intOf iv).toNat)
  case atStart => exact ⟨[], none, 0, 0, 0, rfl, rfl, rfl, by omega, fun _ => Nat.le_refl _, by simp, Upto.start s, World.ownsRow_nil _ _ _ _, Below.refl _ _⟩
  case round =>
    obtain ⟨xs, av, cv, f, i, rfl, rfl, rfl, hi1, hfi, h8, HU, HO, HB⟩ := hrel
    by_cases hend : s.size < i
    · obtain ⟨hd1, hd2⟩ := HU.out.done hend
      have HR := namehid (HP1.out av cv xs wr hd1 hd2 (owns_cap HO.out) (strs_of_owns HO.out) HB.out)
      clear HP0 HP1 HU HO HB hd1 hd2 hfi
      go_wp2_with fail
      exact HR.out
    · have hfi2 := hfi (by omega)
      by_cases hgo : ∃ h : i < s.size, s[i] ≠ 47
      · obtain ⟨hlt, hne⟩ := hgo
        have hne2 : ((s[i].toNat : Int) == 47) = false := by
          rw [beq_eq_false_iff_ne]
          intro e
          exact hne (UInt8.toNat_inj.1 (by show s[i].toNat = 47; omega))
        have HU2 := namehid (HU.out.on hlt hne)
        clear HU HP0 HP1 hne
        go_wp2_with fail
        exact ⟨⟨xs, av, cv, f, i + 1, rfl, rfl, by go_num, by omega, fun _ => by omega, h8, HU2, HO, HB⟩, by simp [intOf]; omega⟩
      · have hstop : i = s.size ∨ ∃ h : i < s.size, s[i] = 47 := by
          by_cases h : i < s.size
          · refine .inr ⟨h, ?_⟩
            by_cases h47 : s[i] = 47
            · exact h47
            · exact absurd ⟨h, h47⟩ hgo
          · exact .inl (by omega)
        have hxl : i ≤ s.size := by omega
        have HU0 : Hid (Word.chk (s.extract f i).data.toList = false ∨ 8 ≤ xs.length → Word.pathOk (Word.cuts s.data.toList) = false) := fun h => HU.out.no hstop h
        have HU1 : Hid (Word.chk (s.extract f i).data.toList = true → xs.length < 8 → Upto s (xs ++ [s.extract f i]) (i + 1) (i + 1)) := fun h h2 => HU.out.more hstop h h2
        have HC : Hid (∀ wr, Calls Tryd.prog 12 #[.string (s.extract f i)] wr fun e w' => e = .returned (.bool (Word.chk (s.extract f i).data.toList)) ∧ wr = w') := fun wr => rcheck_t (s.extract f i) wr (by rw [ByteArray.size_extract]; omega)
        clear HU hgo hfi
        generalize Word.chk (s.extract f i).data.toList = K at *
        rcases hstop with hst | ⟨hlt, h47⟩
        case' inl =>
          have hnl : ¬ i < s.size := by omega
          clear hst
        case' inr =>
          have h472 : ((s[i].toNat : Int) == 47) = true := by rw [h47]; rfl
          clear h47
        all_goals
          go_wp2_with fail
          refine (HC.out wr).mono ?_
          rintro e w1 ⟨rfl, rfl⟩
          clear HC
          cases K with
          | false =>
            have HR := namehid (HP0.out (HU0.out (.inl rfl)) wr HB.out)
            clear HP0 HP1 HU0 HU1 HO HB
            go_wp2_with fail
            exact HR.out
          | true =>
            by_cases h8b : 8 ≤ xs.length
            · have HR := namehid (HP0.out (HU0.out (.inr h8b)) wr HB.out)
              clear HP0 HP1 HU0 HU1 HO HB
              go_wp2_with fail
              exact HR.out
            · have HU2 := namehid (HU1.out rfl (by omega))
              have HM1 : Hid (xs.length + 1 ≤ maxLen) := by show xs.length + 1 ≤ maxLen; unfold maxLen; omega
              have HM2 : Hid ((xs.length + 1) * 16 ≤ 140737488355328) := by show (xs.length + 1) * 16 ≤ 140737488355328; omega
              have hbs := HB.out.size
              clear HP0 HP1 HU0 HU1
              go_wp2_with (at_builtin; refine wpList_append_lies _ rfl _ _ _ rfl w.heap.size 9 i0 (.string ByteArray.empty) 1 16 Tryd.underlying22 hi0 hz0 hz1 hz2 rfl (by omega) (.slice av xs.length cv) xs.length (scells xs) rfl (HO.out.alloc _) ⟨wr.heap.size, 0, none⟩ 1 1 [.string (s.extract f i)] rfl rfl (World.news_of_block (cs := #[.string (s.extract f i)]) (t := 9) (fr := (0, 0)) (heap_alloc_new wr _)) (by simp [Value.oneCell']) (by omega) HM1.out HM2.out (by simp; omega) (wr.heap.size + 1) (by simp) ?_; intro g' cap' w7 hown7 hgrow7 hat7 hlt7)
              have HB7 : Hid (Below w.heap.size w w7) := (HB.out.alloc hbs _).grown hgrow7 (by simp; omega) (fun q hq => (HO.out.lt q hq).1)
              have HO7 : Hid (w7.ownsRow w.heap.size 9 1 (.slice (some ⟨g', 0, none⟩) (xs ++ [s.extract f i]).length cap') (xs ++ [s.extract f i]).length (scells (xs ++ [s.extract f i]))) := by
                show World.ownsRow _ _ _ _ _ _ _
                rw [scells_snoc, List.length_append]
                exact hown7
              clear hgrow7 hat7 hown7 HO HB
              go_wp2_with fail
              exact ⟨⟨xs ++ [s.extract f i], some ⟨g', 0, none⟩, cap', i + 1, i + 1, by rw [List.length_append]; rfl, by go_num, by go_num, by omega, fun _ => Nat.le_refl _, by rw [List.length_append]; show xs.length + 1 ≤ 8; omega, HU2, HO7, HB7⟩, by simp [intOf]; omega⟩

/-- Path of the document: the names of a path, and whether it is one. -/
theorem rpath_t (s : ByteArray) (w : World) (hs : s.size < 4294967281) :
    Calls Tryd.prog 10 #[.string s] w fun e w' => PathSaid s w e w' := by
  by_cases h : s = ⟨#[]⟩
  · subst h
    refine (rpath_none w).mono fun e w' ⟨he, hw⟩ => ?_
    subst hw
    exact ⟨none, 0, 0, [], he, rfl, Nat.le_refl _, by decide, rfl, (.inl rfl), Below.refl _ _⟩
  · exact rpath_some s w hs h
end Go.Proofs.YtfiakggilhinpaaDoor
