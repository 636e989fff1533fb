/- Path and Join (package name) walked, over the library's own splitting and joining by their contracts; the law's own awake. -/
import Derived.Test.YtfiakggilhinpaaDoorNameCode
import Derived.Test.YtfiakggilhinpaaDoorNameShelf
namespace Go.Proofs.YtfiakggilhinpaaDoor
open Go.RowKit

theorem Tryd.ninfo9 : (Tryd.prog.info? 9).map (fun i => (i.zero, i.size, i.bytes)) = some (some (.string ByteArray.empty), 1, 16) := by kernel_rfl

/-- The pieces that the library makes of a text, nine at most. -/
def nine (s : ByteArray) : List ByteArray := Lib.splitB ⟨#[47]⟩ 0 (min 9 (s.size + 1) - 1) s

theorem gensplit_t (s : ByteArray) (w : World) (hs : s.size < 4294967281) :
    Calls Tryd.prog 21 #[.string s, .string ⟨#[47]⟩, .int .i64 0, .int .i64 9] w fun e w' =>
      e = .returned (.slice (some ⟨w.heap.size, 0, none⟩) (nine s).length (min 9 (s.size + 1))) ∧ w' = w.alloc (.cells (Lib.cellsOf (nine s) (min 9 (s.size + 1))) 9) :=
  Any.strings_genSplit_core nameSplit Tryd.ninfo9 s ⟨#[47]⟩ 0 9 (min 9 (s.size + 1)) w hs (by decide) (by decide)
    (fun x c _ => (Any.strings_Index_one nameIndex x 47 _).mono fun _ _ ⟨he, hw⟩ => ⟨by rw [he, ← Lib.index_one], hw⟩)
    ((Any.strings_Count_one nameCount s 47 w).mono fun _ _ ⟨he, hw⟩ => ⟨by rw [he, Lib.countByte, ← Lib.count_one], hw⟩)
    (by decide) (by decide) (by rw [if_neg (by decide)]; omega)

set_option maxHeartbeats 1000000 in
theorem split_t (s : ByteArray) (w : World) (hs : s.size < 4294967281) :
    Calls Tryd.prog 18 #[.string s, .string ⟨#[47]⟩, .int .i64 9] w fun e w' =>
      e = .returned (.slice (some ⟨w.heap.size, 0, none⟩) (nine s).length (min 9 (s.size + 1))) ∧ w' = w.alloc (.cells (Lib.cellsOf (nine s) (min 9 (s.size + 1))) 9) := by
  have G := gensplit_t s w hs
  generalize (Lib.cellsOf (nine s) (min 9 (s.size + 1))) = C at *
  generalize (nine s).length = n at *
  generalize min 9 (s.size + 1) = c at *
  go_enter Tryd.func18, Tryd.ntmps18
  go_wp2_with fail
  refine G.mono ?_
  rintro e w1 ⟨rfl, rfl⟩
  go_wp2_with fail
  go_ret
  exact ⟨rfl, rfl⟩

theorem nine_len (s : ByteArray) : (nine s).length ≤ min 9 (s.size + 1) := by
  have := Lib.splitB_length_le ⟨#[47]⟩ 0 (min 9 (s.size + 1) - 1) s
  unfold nine
  omega

theorem nine_raw (s : ByteArray) : raw (nine s) = Lib.splitK [47] 0 (min 9 (s.data.toList.length + 1) - 1) s.data.toList := by
  have := Lib.splitB_data ⟨#[47]⟩ 0 (min 9 (s.size + 1) - 1) s
  rw [size_data] at this
  unfold nine
  rw [size_data]
  exact this

theorem cells_at {xs : List ByteArray} {N j : Nat} {x : ByteArray} (h : xs[j]? = some x) : (Lib.cellsOf xs N)[j]? = some (.string x) := by
  have hj : j < xs.length := (List.getElem?_eq_some_iff.1 h).1
  unfold Lib.cellsOf
  rw [List.getElem?_toArray, List.getElem?_append_left (by simpa using hj), List.getElem?_map, h]
  rfl

/-- What Path hands back: whether there is a path, and its names. -/
def PathSays (B : Bool) (l : List (List UInt8)) (w : World) (e : Ending) (w' : World) : Prop :=
  ∃ (a : Option Addr) (n c : Nat) (xs : List ByteArray), e = .returned (.tuple #[.slice a n c, .bool B]) ∧ xs.length = n ∧ n ≤ c ∧ n ≤ 8 ∧ raw xs = l ∧ Strs w' a xs ∧ Below w.heap.size w w'
def PathSaid (s : ByteArray) (w : World) : Ending → World → Prop := PathSays (Word.pathB s.data.toList) (Word.pathL s.data.toList) w

theorem PathSays.mk {B : Bool} {l : List (List UInt8)} {w : World} {e : Ending} {w' : World} (a : Option Addr) (n c : Nat) (xs : List ByteArray) (h1 : e = .returned (.tuple #[.slice a n c, .bool B])) (h2 : xs.length = n) (h3 : n ≤ c) (h4 : n ≤ 8) (h5 : raw xs = l) (h6 : Strs w' a xs) (h7 : Below w.heap.size w w') : PathSays B l w e w' :=
  ⟨a, n, c, xs, h1, h2, h3, h4, h5, h6, h7⟩

set_option maxHeartbeats 1000000 in
theorem path_none (w : World) :
    Calls Tryd.prog 9 #[.string ⟨#[]⟩] w fun e w' => e = .returned (.tuple #[.slice none 0 0, .bool true]) ∧ w = w' := by
  go_enter Tryd.func9, Tryd.ntmps9
  go_wp2
  go_ret2
  exact ⟨rfl, rfl⟩

theorem Below.trans' {a b c : World} (h : Below a.heap.size a b) (k : Below b.heap.size b c) : Below a.heap.size a c := h.trans (k.mono h.size)

theorem isEmpty_false {s : ByteArray} (h : s ≠ ⟨#[]⟩) : s.data.toList ≠ [] ∧ s.toList.isEmpty = false := by
  have h1 : s.data.toList ≠ [] := fun e => h (by rw [← Lib.mk_data s, e])
  exact ⟨h1, by rw [Lib.toList_data]; exact Word.empty_false h1⟩

set_option maxHeartbeats 1000000 in
theorem path_some (s : ByteArray) (w : World) (hs : s.size < 4294967281) (h0 : s ≠ ⟨#[]⟩) :
    Calls Tryd.prog 9 #[.string s] w fun e w' => PathSaid s w e w' := by
  obtain ⟨hne, hem⟩ := isEmpty_false h0
  have hN := Word.splitN_path s.data.toList
  rw [← nine_raw] at hN
  have G := namehid (split_t s w hs)
  have hl := nine_len s
  obtain ⟨xs, hxs⟩ : ∃ xs, nine s = xs := ⟨_, rfl⟩
  obtain ⟨c, hc⟩ : ∃ c, min 9 (s.size + 1) = c := ⟨_, rfl⟩
  rw [hxs, hc] at hl
  rw [hxs] at hN
  have G : Hid (Calls Tryd.prog 18 #[.string s, .string ⟨#[47]⟩, .int .i64 9] w fun e w' => e = .returned (.slice (some ⟨w.heap.size, 0, none⟩) xs.length c) ∧ w' = w.alloc (.cells (Lib.cellsOf xs c) 9)) := by
    have := G.out
    rw [hxs, hc] at this
    exact this
  have HB : Hid (Below w.heap.size w (w.alloc (.cells (Lib.cellsOf xs c) 9))) := (Below.refl _ w).alloc (Nat.le_refl _) _
  have HS : Hid (Strs (w.alloc (.cells (Lib.cellsOf xs c) 9)) (some ⟨w.heap.size, 0, none⟩) xs) :=
    .inr ⟨w.heap.size, 0, rfl, by simp, fun j x hx => by
      rw [cell_of_row _ w.heap.size _ _ 9 _ (heap_alloc_new _ _), Nat.zero_add]
      exact cells_at hx⟩
  have hem2 : s.data.toList.isEmpty = false := Word.empty_false hne
  have HP : Hid (PathSaid s w = PathSays (Word.pathOk (raw xs)) (if Word.pathOk (raw xs) then raw xs else []) w) := by
    show _ = _
    have e1 : Word.pathB s.data.toList = Word.pathOk (raw xs) := by rw [hN.1]; simp [Word.pathB, hem2]
    have e2 : Word.pathL s.data.toList = if Word.pathOk (raw xs) then raw xs else [] := by
      cases h : Word.pathOk (Word.cuts s.data.toList) with
      | true => rw [hN.1, h, hN.2 h, Word.pathL, hem2, h]; rfl
      | false => rw [hN.1, h, Word.pathL, hem2, h]; rfl
    unfold PathSaid
    rw [e1, e2]
  show Calls _ _ _ _ (PathSaid s w)
  rw [HP.out]
  clear HP hN hxs hc hne h0 hem2
  generalize (w.alloc (.cells (Lib.cellsOf xs c) 9)) = w0 at *
  have H8 : Hid (Word.pathOk (raw xs) = true → xs.length ≤ 8) := fun h => by rw [← raw_length]; exact (Word.pathOk_all h).1
  obtain ⟨n, hn⟩ : ∃ n, xs.length = n := ⟨_, rfl⟩
  have HM := namehid (may_t (some ⟨w.heap.size, 0, none⟩) n c xs w0 hn HS.out)
  have HN := namehid hn
  rw [hn] at G hl H8
  clear hn
  have HR1 : Hid (Word.pathOk (raw xs) = true → raw xs = if Word.pathOk (raw xs) then raw xs else []) := fun h => by rw [if_pos h]
  have HR2 : Hid (Word.pathOk (raw xs) = false → raw [] = if Word.pathOk (raw xs) then raw xs else []) := fun h => by rw [h]; rfl
  generalize (if Word.pathOk (raw xs) then raw xs else []) = R at *
  generalize hB : Word.pathOk (raw xs) = B at *
  clear hB
  go_enter Tryd.func9, Tryd.ntmps9
  go_wp2_with fail
  refine G.out.mono ?_
  rintro e w1 ⟨rfl, rfl⟩
  clear G
  go_wp2_with fail
  refine HM.out.mono ?_
  rintro e w1 ⟨rfl, hb1⟩
  have HW := namehid (Below.trans' HB.out hb1)
  have HS1 := namehid (HS.out.below hb1)
  clear hb1 HM HS HB
  cases B with
  | true =>
    have h8 := H8.out rfl
    clear H8
    go_wp2_with fail
    go_ret2
    exact PathSays.mk _ n c xs rfl HN.out hl h8 (HR1.out (by simp)) HS1.out HW.out
  | false =>
    clear H8
    go_wp2_with fail
    go_ret2
    exact PathSays.mk none 0 0 [] rfl rfl (Nat.le_refl _) (by decide) (HR2.out (by simp)) (.inl rfl) HW.out

/-- Path: the names of a path, and whether it is one. -/
theorem path_t (s : ByteArray) (w : World) (hs : s.size < 4294967281) :
    Calls Tryd.prog 9 #[.string s] w fun e w' => PathSaid s w e w' := by
  by_cases h : s = ⟨#[]⟩
  · subst h
    refine (path_none w).mono fun e w' ⟨he, hw⟩ => ?_
    subst hw
    exact ⟨none, 0, 0, [], he, rfl, Nat.le_refl _, by decide, rfl, (.inl rfl), Below.refl _ _⟩
  · exact path_some s w hs h

/-- The joined names, as a text. -/
def joinB (xs : List ByteArray) : ByteArray := ⟨(Word.joinL (raw xs)).toArray⟩

theorem libjoin_t (a : Option Addr) (n c : Nat) (xs : List ByteArray) (w : World) (hn : xs.length = n) (hc : n ≤ c) (h : Strs w a xs) (hp : Word.pathOk (raw xs) = true) :
    Calls Tryd.prog 20 #[.slice a n c, .string ⟨#[47]⟩] w fun e w' => e = .returned (.string (joinB xs)) ∧ Below w.heap.size w w' := by
  have e : joinB xs = ⟨(Lib.join (raw xs) [47]).toArray⟩ := by rw [joinB, Word.joinL, if_pos hp]
  rw [e]
  have h8 := Word.pathOk_all hp
  rw [raw_length] at h8
  rcases h with rfl | ⟨bk, o, rfl, hk, hcs⟩
  · subst hn
    exact (Any.strings_Join_none nameJoin nameExtra a c ⟨#[47]⟩ w).mono fun _ _ ⟨he, hw⟩ => ⟨he, hw ▸ Below.refl _ _⟩
  · subst hn
    refine Any.strings_Join nameJoin nameExtra bk o c xs ⟨#[47]⟩ w hcs hk (by omega) hc ?_
    have := Word.join_len (raw xs) h8.2
    rw [raw_length] at this
    exact Nat.le_trans this (by omega)

set_option maxHeartbeats 1000000 in
/-- Join: the path of names; empty, where they are none. -/
theorem join_t (a : Option Addr) (n c : Nat) (xs : List ByteArray) (w : World) (hn : xs.length = n) (hc : n ≤ c) (h : Strs w a xs) :
    Calls Tryd.prog 14 #[.slice a n c] w fun e w' => e = .returned (.string (joinB xs)) ∧ Below w.heap.size w w' := by
  have HM := namehid (may_t a n c xs w hn h)
  have HJ : Hid (∀ w1, Below w.heap.size w w1 → Word.pathOk (raw xs) = true → Calls Tryd.prog 20 #[.slice a n c, .string ⟨#[47]⟩] w1 fun e w' => e = .returned (.string (joinB xs)) ∧ Below w1.heap.size w1 w') := fun w1 hb hp => libjoin_t a n c xs w1 hn hc (h.below hb) hp
  have HE : Hid (Word.pathOk (raw xs) = false → joinB xs = ⟨#[]⟩) := fun hp => by rw [joinB, Word.joinL_no hp]
  clear h hn
  generalize joinB xs = J at *
  generalize hB : Word.pathOk (raw xs) = B at *
  clear hB
  go_enter Tryd.func14, Tryd.ntmps14
  go_wp2_with fail
  refine HM.out.mono ?_
  rintro e w1 ⟨rfl, hb1⟩
  clear HM
  have HW := namehid hb1
  clear hb1
  cases B with
  | true =>
    clear HE
    go_wp2_with fail
    refine (HJ.out w1 HW.out (by simp)).mono ?_
    rintro e w2 ⟨rfl, hb2⟩
    have HW2 := namehid (Below.trans' HW.out hb2)
    clear hb2
    go_wp2_with fail
    go_ret
    exact ⟨rfl, HW2.out⟩
  | false =>
    have hJ := HE.out rfl
    subst hJ
    clear HE HJ
    go_wp2_with fail
    go_ret
    exact ⟨rfl, HW.out⟩
end Go.Proofs.YtfiakggilhinpaaDoor
