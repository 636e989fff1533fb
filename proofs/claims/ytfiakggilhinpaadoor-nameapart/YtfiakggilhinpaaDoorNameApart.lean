/- The law NameApart walked. -/
import Derived.Test.YtfiakggilhinpaaDoorNameAwake
import Derived.Test.YtfiakggilhinpaaDoorNameSame
import Derived.Test.YtfiakggilhinpaaDoorNameText
import Derived.Test.YtfiakggilhinpaaDoorNameRefPath
import Derived.Deep.RegionHeld3
import Derived.Deep.DrawnRows
namespace Go.Proofs.YtfiakggilhinpaaDoor
open Go.RowKit
attribute [local go_sem ↓] Go.wp_at_zero Go.wp_at_succ

/-- Where a list of numbers lies. -/
def Ints (w : World) (a : Option Addr) (xs : List Int) : Prop :=
  xs = [] ∨ ∃ bk o, a = some ⟨bk, o, none⟩ ∧ bk < w.heap.size ∧ ∀ (j : Nat) y, xs[j]? = some y → w.cell? ⟨bk, o + j, none⟩ = some (.int .i64 y) ∧ (Lit.int .i64 y).wf = true

theorem Ints.some_ {w : World} {a : Option Addr} {xs : List Int} (h : Ints w a xs) (hne : xs ≠ []) :
    ∃ bk o, a = some ⟨bk, o, none⟩ ∧ bk < w.heap.size ∧ ∀ (j : Nat) y, xs[j]? = some y → w.cell? ⟨bk, o + j, none⟩ = some (.int .i64 y) := by
  rcases h with h | ⟨bk, o, e, hk, hc⟩
  · exact absurd h hne
  · exact ⟨bk, o, e, hk, fun j y hy => (hc j y hy).1⟩

/-- Text, its length any number: so many small letters, which are a name if they are one to 26. -/
theorem textName_t (v n : Int) (w : World) (h1 : -1000000 ≤ v) (h2 : v ≤ 1000000) (hn : 1 ≤ n) (hn2 : n ≤ 26) :
    Calls Tryd.prog 17 #[.int .i64 v, .int .i64 n] w fun e w' => (∃ X : ByteArray, e = .returned (.string X) ∧ Word.chk X.data.toList = true) ∧ Below w.heap.size w w' := by
  have e : n = ((n.toNat : Nat) : Int) := by omega
  rw [e]
  refine (text_t v n.toNat w h1 h2 (by omega)).mono ?_
  rintro e' w' ⟨⟨T, rfl, hT, hL⟩, hb⟩
  refine ⟨⟨_, rfl, ?_⟩, hb⟩
  show Word.chk T = true
  rw [low_chk hL, hT, decide_eq_true_eq]
  omega

theorem wrap_less (p : Nat) (h : p < 3) : IntKind.i64.wrap (1 + (p : Int)) = 1 + (p : Int) := by
  have hc : p = 0 ∨ p = 1 ∨ p = 2 := by omega
  rcases hc with rfl | rfl | rfl <;> decide

theorem textWrap_t (v : Int) (p : Nat) (w : World) (h1 : -1000000 ≤ v) (h2 : v ≤ 1000000) (hp : p < 3) :
    Calls Tryd.prog 17 #[.int .i64 v, .int .i64 (IntKind.i64.wrap (1 + (p : Int)))] w fun e w' => (∃ X : ByteArray, e = .returned (.string X) ∧ Word.chk X.data.toList = true) ∧ Below w.heap.size w w' := by
  rw [wrap_less p hp]
  exact textName_t v _ w h1 h2 (by omega) (by omega)

theorem pathOk_of {xs : List ByteArray} (h8 : xs.length ≤ 8) (h : (raw xs).all Word.chk = true) : Word.pathOk (raw xs) = true := by
  have : decide ((raw xs).length ≤ 8) = true := by simp [raw_length]; omega
  rw [Word.pathOk, this, h]
  rfl

/-- Joined names are alike just if the names are. -/
theorem joinB_eq {xs ys : List ByteArray} (hx : xs.length ≤ 8) (hy : ys.length ≤ 8) (kx : (raw xs).all Word.chk = true) (ky : (raw ys).all Word.chk = true) : ((joinB xs).toList == (joinB ys).toList) = decide (xs = ys) := by
  rw [Lib.toList_data, Lib.toList_data]
  have ex : (joinB xs).data.toList = Word.joinL (raw xs) := by simp [joinB]
  have ey : (joinB ys).data.toList = Word.joinL (raw ys) := by simp [joinB]
  rw [ex, ey]
  by_cases h : xs = ys
  · subst h
    simp
  · have : Word.joinL (raw xs) ≠ Word.joinL (raw ys) := fun e => by
      have h1 := (Word.path_of_join (pathOk_of hx kx)).2
      have h2 := (Word.path_of_join (pathOk_of hy ky)).2
      rw [e, h2] at h1
      exact h (raw_inj h1.symm)
    rw [decide_eq_false h, beq_eq_false_iff_ne]
    exact this

set_option maxHeartbeats 4000000 in
theorem nameApart_t (a b : Option Addr) (n m ca cb : Nat) (xs ys : List Int) (w : World) (hn : xs.length = n) (hm : ys.length = m) (ha : Ints w a xs) (hb : Ints w b ys) :
    Calls Tryd.prog 7 #[.slice a n ca, .slice b m cb] w fun e w' => e = .returned (.bool true) ∧ Below w.heap.size w w' := by
  obtain ⟨i0, hi0, hz0, hz1, hz2⟩ := info_parts Tryd.ninfo9
  have HA := namehid ha
  have HC := namehid hb
  have HN := namehid (And.intro hn hm)
  clear ha hb hn hm
  go_enter Tryd.func7, Tryd.ntmps7
  go_wp2_with fail
  go_loopw [5, 7] (fun lv iv wr => ∃ (us : List ByteArray) (av : Option Addr) (cv : Nat), lv = .slice av us.length cv ∧ iv = .int .i64 us.length ∧ us.length ≤ 8 ∧ us.length ≤ n ∧ Hid ((raw us).all Word.chk = true) ∧ Hid (wr.ownsRow w.heap.size 9 1 (.slice av us.length cv) us.length (scells us)) ∧ Hid (Below w.heap.size w wr)) (fun _ iv _ => 8 - (intOf iv).toNat)
  case atStart => exact ⟨[], none, 0, rfl, rfl, by simp, by simp, rfl, World.ownsRow_nil _ _ _ _, Below.refl _ _⟩
  case round =>
    obtain ⟨us, av, cv, rfl, rfl, h8, hln, HK, HO, HB⟩ := hrel
    by_cases hlt : us.length < n ∧ us.length < 8
    · obtain ⟨y, hy⟩ : ∃ y, xs[us.length]? = some y := ⟨_, List.getElem?_eq_getElem (by rw [HN.out.1]; exact hlt.1)⟩
      obtain ⟨bk, o, rfl, hk, hcs⟩ := HA.out.some_ (by intro h; rw [h] at hy; simp at hy)
      have hcell : wr.cell? ⟨bk, o + us.length, none⟩ = some (.int .i64 y) := by rw [HB.out.cell hk]; exact hcs _ y hy
      have hk2 : bk < wr.heap.size := Nat.lt_of_lt_of_le hk HB.out.size
      have hl1 : us.length < n := hlt.1
      have hl2 : us.length < 8 := hlt.2
      have hl3 : ((us.length : Nat) : Int) < ((n : Nat) : Int) := by omega
      clear hcs hy hlt
      go_wp2_with fail
      have HM1 : Hid (us.length + 1 ≤ maxLen) := by show us.length + 1 ≤ maxLen; unfold maxLen; omega
      have HM2 : Hid ((us.length + 1) * 16 ≤ 140737488355328) := by show (us.length + 1) * 16 ≤ 140737488355328; omega
      have hbs := HB.out.size
      have hvb : (Value.slice av us.length cv).ownBlock ≠ some bk := fun h => by
        have := (HO.out.lt bk h).1
        omega
      go_region_held3 (fun w' => w'.cell? ⟨bk, o + us.length, none⟩ = some (.int .i64 y)) (first | go_keep | (rw [hgrow7.cell_far _ (by simp; omega) (Ne.symm hvb)]; simp [*]))
        (first
          | (go_at_call 16; refine (nplace_t _ _ _ ?_ ?_).mono ?_; (decide); (decide); rintro e w1 ⟨⟨p, rfl, hp⟩, rfl⟩)
          | (go_at_call 17; refine (textWrap_t _ _ _ ?_ ?_ ?_).mono ?_; (omega); (omega); (omega); rintro e w1 ⟨⟨X, rfl, hX⟩, hb1⟩; have hc1 : w1.cell? ⟨bk, o + us.length, none⟩ = some (.int .i64 y) := (by rw [hb1.cell hk2]; exact hcell); have HB1 : Hid (Below wr.heap.size wr w1) := ⟨hb1.os, hb1.tape, hb1.output, hb1.size, hb1.block⟩; have HO1 := namehid (owns_below HO.out HB1.out); have hb1s := HB1.out.size)
          | (refine step_append_lies _ (by rfl) _ _ _ (by rfl) w.heap.size 9 i0 (.string ByteArray.empty) 1 16 Tryd.underlying22 hi0 hz0 hz1 hz2 rfl (by omega) (.slice av us.length cv) us.length (scells us) (by rfl) (HO1.out.alloc _) ⟨w1.heap.size, 0, none⟩ 1 1 [.string X] (by rfl) (by rfl) (World.news_of_block (cs := #[.string X]) (t := 9) (fr := (0, 0)) (heap_alloc_new w1 _)) (by simp [Value.oneCell']) (by omega) HM1.out HM2.out (by simp; omega) (w1.heap.size + 1) (by simp) ?_; intro g' cap' w7 hown7 hgrow7 hat7 hlt7))
      have HB7 : Hid (Below w.heap.size w w7) := ((HB.out.trans (HB1.out.mono hbs)).alloc (by omega) _).grown hgrow7 (by simp; omega) (fun q hq => (HO.out.lt q hq).1)
      have HO7 : Hid (w7.ownsRow w.heap.size 9 1 (.slice (some ⟨g', 0, none⟩) (us ++ [X]).length cap') (us ++ [X]).length (scells (us ++ [X]))) := by
        show World.ownsRow _ _ _ _ _ _ _
        rw [scells_snoc, List.length_append]
        exact hown7
      have HK7 : Hid ((raw (us ++ [X])).all Word.chk = true) := by
        show _ = _
        have e : raw (us ++ [X]) = raw us ++ [X.data.toList] := by simp [raw]
        rw [e, List.all_append, HK.out, List.all_cons, hX]
        rfl
      clear hgrow7 hat7 hown7 HO HB HK HO1 HB1 hb1 hX hc1
      go_wp2_with fail
      exact ⟨⟨us ++ [X], some ⟨g', 0, none⟩, cap', by rw [List.length_append]; rfl, by rw [List.length_append]; go_num, by rw [List.length_append]; exact hl2, by rw [List.length_append]; exact hl1, HK7, HO7, HB7⟩, by simp [intOf]; omega⟩
    · have HE : (us.length < n ∧ 8 ≤ us.length) ∨ n ≤ us.length := by omega
      clear hlt
      rename World => wx
      have HC2 : Hid (Ints wx b ys) := by
        rcases HC.out with h | ⟨bk, o, e, hk, hc⟩
        · exact .inl h
        · exact .inr ⟨bk, o, e, Nat.lt_of_lt_of_le hk HB.out.size, fun j y hy => ⟨by rw [HB.out.cell hk]; exact (hc j y hy).1, (hc j y hy).2⟩⟩
      have HXS := namehid (strs_of_owns HO.out)
      have hcx := owns_cap HO.out
      have HXB := HB
      have HXK := HK
      clear HC HA HO HK HB
      generalize us = vs at *
      generalize av = ax at *
      generalize cv = cx at *
      rcases HE with ⟨hE1, hE2⟩ | hE
      all_goals
        go_wp2_with fail
        go_loopw [6, 8] (fun lv iv wr => ∃ (us : List ByteArray) (av : Option Addr) (cv : Nat), lv = .slice av us.length cv ∧ iv = .int .i64 us.length ∧ us.length ≤ 8 ∧ us.length ≤ m ∧ Hid ((raw us).all Word.chk = true) ∧ Hid (wr.ownsRow wx.heap.size 9 1 (.slice av us.length cv) us.length (scells us)) ∧ Hid (Below wx.heap.size wx wr)) (fun _ iv _ => 8 - (intOf iv).toNat)
        case atStart => exact ⟨[], none, 0, rfl, rfl, by simp, by simp, rfl, World.ownsRow_nil _ _ _ _, Below.refl _ _⟩
        case round =>
          obtain ⟨us, av, cv, rfl, rfl, h8b, hlm, HK, HO, HB⟩ := hrel
          by_cases hlt : us.length < m ∧ us.length < 8
          · obtain ⟨y, hy⟩ : ∃ y, ys[us.length]? = some y := ⟨_, List.getElem?_eq_getElem (by rw [HN.out.2]; exact hlt.1)⟩
            obtain ⟨bk, o, rfl, hk, hcs⟩ := HC2.out.some_ (by intro h; rw [h] at hy; simp at hy)
            have hcell : wr.cell? ⟨bk, o + us.length, none⟩ = some (.int .i64 y) := by rw [HB.out.cell hk]; exact hcs _ y hy
            have hk2 : bk < wr.heap.size := Nat.lt_of_lt_of_le hk HB.out.size
            have hl1 : us.length < m := hlt.1
            have hl2 : us.length < 8 := hlt.2
            have hl3 : ((us.length : Nat) : Int) < ((m : Nat) : Int) := by omega
            clear hcs hy hlt
            go_wp2_with fail
            have HM1 : Hid (us.length + 1 ≤ maxLen) := by show us.length + 1 ≤ maxLen; unfold maxLen; omega
            have HM2 : Hid ((us.length + 1) * 16 ≤ 140737488355328) := by show (us.length + 1) * 16 ≤ 140737488355328; omega
            have hbs := HB.out.size
            have hvb : (Value.slice av us.length cv).ownBlock ≠ some bk := fun h => by
              have := (HO.out.lt bk h).1
              omega
            go_region_held3 (fun w' => w'.cell? ⟨bk, o + us.length, none⟩ = some (.int .i64 y)) (first | go_keep | (rw [hgrow7.cell_far _ (by simp; omega) (Ne.symm hvb)]; simp [*]))
              (first
                | (go_at_call 16; refine (nplace_t _ _ _ ?_ ?_).mono ?_; (decide); (decide); rintro e w1 ⟨⟨p, rfl, hp⟩, rfl⟩)
                | (go_at_call 17; refine (textWrap_t _ _ _ ?_ ?_ ?_).mono ?_; (omega); (omega); (omega); rintro e w1 ⟨⟨X, rfl, hX⟩, hb1⟩; have hc1 : w1.cell? ⟨bk, o + us.length, none⟩ = some (.int .i64 y) := (by rw [hb1.cell hk2]; exact hcell); have HB1 : Hid (Below wr.heap.size wr w1) := ⟨hb1.os, hb1.tape, hb1.output, hb1.size, hb1.block⟩; have HO1 := namehid (owns_below HO.out HB1.out); have hb1s := HB1.out.size)
                | (refine step_append_lies _ (by rfl) _ _ _ (by rfl) wx.heap.size 9 i0 (.string ByteArray.empty) 1 16 Tryd.underlying22 hi0 hz0 hz1 hz2 rfl (by omega) (.slice av us.length cv) us.length (scells us) (by rfl) (HO1.out.alloc _) ⟨w1.heap.size, 0, none⟩ 1 1 [.string X] (by rfl) (by rfl) (World.news_of_block (cs := #[.string X]) (t := 9) (fr := (0, 0)) (heap_alloc_new w1 _)) (by simp [Value.oneCell']) (by omega) HM1.out HM2.out (by simp; omega) (w1.heap.size + 1) (by simp) ?_; intro g' cap' w7 hown7 hgrow7 hat7 hlt7))
            have HB7 : Hid (Below wx.heap.size wx w7) := ((HB.out.trans (HB1.out.mono hbs)).alloc (by omega) _).grown hgrow7 (by simp; omega) (fun q hq => (HO.out.lt q hq).1)
            have HO7 : Hid (w7.ownsRow wx.heap.size 9 1 (.slice (some ⟨g', 0, none⟩) (us ++ [X]).length cap') (us ++ [X]).length (scells (us ++ [X]))) := by
              show World.ownsRow _ _ _ _ _ _ _
              rw [scells_snoc, List.length_append]
              exact hown7
            have HK7 : Hid ((raw (us ++ [X])).all Word.chk = true) := by
              show _ = _
              have e : raw (us ++ [X]) = raw us ++ [X.data.toList] := by simp [raw]
              rw [e, List.all_append, HK.out, List.all_cons, hX]
              rfl
            clear hgrow7 hat7 hown7 HO HB HK HO1 HB1 hb1 hX hc1
            go_wp2_with fail
            exact ⟨⟨us ++ [X], some ⟨g', 0, none⟩, cap', by rw [List.length_append]; rfl, by rw [List.length_append]; go_num, by rw [List.length_append]; exact hl2, by rw [List.length_append]; exact hl1, HK7, HO7, HB7⟩, by simp [intOf]; omega⟩
          · have HF : (us.length < m ∧ 8 ≤ us.length) ∨ m ≤ us.length := by omega
            have HJ1 := namehid (join_t ax vs.length cx vs wr rfl hcx (HXS.out.below HB.out))
            have HYS := namehid (strs_of_owns HO.out)
            have hcy := owns_cap HO.out
            have HJ2 := namehid (fun w6 (h : Below wr.heap.size wr w6) => join_t av us.length cv us w6 rfl hcy (HYS.out.below h))
            have HSS := namehid (fun w6 (h : Below wr.heap.size wr w6) => same_t ax av vs.length us.length cx cv vs us w6 rfl rfl (by omega) ((HXS.out.below HB.out).below h) (HYS.out.below h))
            have hEq : ((joinB vs).toList == (joinB us).toList) = decide (vs = us) := joinB_eq (by omega) (by omega) HXK.out HK.out
            have HW := namehid (Below.trans' HXB.out HB.out)
            clear HO HK HB HXK HXS HYS HXB hlt
            generalize decide (vs = us) = D at *
            generalize joinB vs = J1 at *
            generalize joinB us = J2 at *
            rcases HF with ⟨hF1, hF2⟩ | hF
            all_goals
              go_wp2_with fail
              refine HJ1.out.mono ?_
              rintro e w5 ⟨rfl, hb5⟩
              have HW5 := namehid (Below.trans' HW.out hb5)
              have HG5 := namehid hb5
              clear hb5 HJ1 HW
              go_wp2_with fail
              refine (HJ2.out w5 HG5.out).mono ?_
              rintro e w6 ⟨rfl, hb6⟩
              have HW6 := namehid (Below.trans' HW5.out hb6)
              have HG6 := namehid (Below.trans' HG5.out hb6)
              clear hb6 HJ2 HW5 HG5
              go_wp2_with fail
              refine (HSS.out w6 HG6.out).mono ?_
              rintro e w7 ⟨rfl, hb7⟩
              have HW7 := namehid (Below.trans' HW6.out hb7)
              clear hb7 HSS HW6 HG6
              go_wp2_with fail
              refine (nawake_t w7).mono ?_
              rintro e w8 ⟨rfl, hb8⟩
              have HW8 := namehid (Below.trans' HW7.out hb8)
              clear hb8 HW7
              go_wp2_with fail
              go_ret
              exact ⟨rfl, HW8.out⟩
end Go.Proofs.YtfiakggilhinpaaDoor
