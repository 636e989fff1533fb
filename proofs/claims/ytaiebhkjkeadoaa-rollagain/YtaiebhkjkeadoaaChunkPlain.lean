/- A chunk's bytes, plainly: blocks one behind the other, there and back; a byte that is turned makes them none. Nothing of the program. -/
import Derived.Test.YtaiebhkjkeadoaaHeadPlain
namespace Go.Proofs.Ytaiebhkjkeadoaa
namespace Chk
open Rec Hdp
open Bin (low num)

/-! ### Blocks -/

def joinL (l : List ByteArray) : List UInt8 := l.flatMap (·.data.toList)
def joinB (l : List ByteArray) : ByteArray := ⟨(joinL l).toArray⟩
/-- Are they whole blocks? -/
def allB (l : List ByteArray) : Bool := l.all fun b => decide (b.size = 256)
theorem joinL_append (a b : List ByteArray) : joinL (a ++ b) = joinL a ++ joinL b := by simp [joinL, List.flatMap_append]
theorem joinB_list (l : List ByteArray) : (joinB l).data.toList = joinL l := by simp [joinB]
theorem bytes_ext {a b : ByteArray} (h : a.data.toList = b.data.toList) : a = b := ByteArray.ext (Array.toList_inj.1 h)
theorem size_list (a : ByteArray) : a.size = a.data.toList.length := (Array.length_toList).symm
theorem joinB_nil : joinB [] = ⟨#[]⟩ := rfl
theorem joinB_append (a : List ByteArray) (x : ByteArray) : joinB (a ++ [x]) = joinB a ++ x := by
  apply bytes_ext
  rw [joinB_list, joinL_append, ByteArray.data_append, Array.toList_append, joinB_list]
  simp [joinL]
theorem joinB_two (a b : ByteArray) : joinB [a, b] = a ++ b := by
  apply bytes_ext
  rw [joinB_list, ByteArray.data_append, Array.toList_append]
  simp [joinL]
theorem allB_iff {l : List ByteArray} : allB l = true ↔ ∀ b ∈ l, b.size = 256 := by simp [allB]
theorem allB_cons {x : ByteArray} {l : List ByteArray} : allB (x :: l) = (decide (x.size = 256) && allB l) := rfl
theorem joinL_len : ∀ {l : List ByteArray}, allB l = true → (joinL l).length = 256 * l.length
  | [], _ => rfl
  | x :: l, h => by
    rw [allB_cons, Bool.and_eq_true, decide_eq_true_eq] at h
    show (x.data.toList ++ joinL l).length = _
    rw [List.length_append, joinL_len h.2, ← size_list, h.1, List.length_cons]
    omega
theorem joinB_size {l : List ByteArray} (h : allB l = true) : (joinB l).size = 256 * l.length := by
  rw [size_list, joinB_list, joinL_len h]
theorem joinB_take {l : List ByteArray} {i : Nat} (hi : i < l.length) : joinB (l.take (i + 1)) = joinB (l.take i) ++ l[i] := by
  rw [List.take_succ_eq_append_getElem hi, joinB_append]
theorem allB_take {l : List ByteArray} {i : Nat} (hi : i < l.length) (h : allB (l.take i) = true) (h2 : l[i].size = 256) : allB (l.take (i + 1)) = true := by
  rw [List.take_succ_eq_append_getElem hi]
  simp only [allB, List.all_append, Bool.and_eq_true] at h ⊢
  refine ⟨h, ?_⟩
  simp [h2]
theorem allB_no {l : List ByteArray} {i : Nat} (hi : i < l.length) (h : l[i].size ≠ 256) : allB l = false := by
  rw [allB, List.all_eq_false]
  exact ⟨l[i], List.getElem_mem hi, by simp [h]⟩
theorem allB_append {a : List ByteArray} {x : ByteArray} (h : allB a = true) (h2 : x.size = 256) : allB (a ++ [x]) = true := by
  simp only [allB, List.all_append, Bool.and_eq_true] at h ⊢
  exact ⟨h, by simp [h2]⟩
/-- All blocks' bytes are as many as they must be. -/
theorem joinL_le : ∀ {l : List ByteArray} {m : Nat}, (∀ b ∈ l, b.size ≤ m) → (joinL l).length ≤ m * l.length
  | [], _, _ => Nat.zero_le _
  | x :: l, m, h => by
    have h1 := h x (by simp)
    have h2 := joinL_le (l := l) (m := m) (fun b hb => h b (by simp [hb]))
    show (x.data.toList ++ joinL l).length ≤ _
    rw [List.length_append, ← size_list, List.length_cons, Nat.mul_add]
    omega

/-! ### A chunk -/

/-- May a chunk be made? -/
def makeB (x : Hd) (l : List ByteArray) : Bool := allB l && putB x (joinB l).size
/-- A chunk's bytes. -/
def makeS (x : Hd) (l : List ByteArray) : ByteArray := if makeB x l = true then putS x (joinB l) ++ joinB l else ⟨#[]⟩
theorem makeS_yes {x : Hd} {l : List ByteArray} (h : makeB x l = true) : makeS x l = putS x (joinB l) ++ joinB l := if_pos h
theorem makeS_no {x : Hd} {l : List ByteArray} (h : makeB x l = false) : makeS x l = ⟨#[]⟩ := if_neg (by rw [h]; decide)
theorem makeB_parts {x : Hd} {l : List ByteArray} (h : makeB x l = true) : allB l = true ∧ putB x (joinB l).size = true ∧ okB x = true ∧ l.length = x.list.length ∧ (joinB l).size = 256 * x.list.length := by
  rw [makeB, Bool.and_eq_true] at h
  obtain ⟨h1, h2⟩ := h
  have h3 := h2
  rw [putB, Bool.and_eq_true, decide_eq_true_eq] at h3
  have h4 := joinB_size h1
  exact ⟨h1, h2, h3.1, by omega, h3.2⟩
theorem makeB_is {x : Hd} {l : List ByteArray} (h1 : allB l = true) (h2 : okB x = true) : makeB x l = decide (l.length = x.list.length) := by
  rw [makeB, h1, putB, h2, joinB_size h1, Bool.true_and, Bool.true_and]
  by_cases h : l.length = x.list.length
  · rw [decide_eq_true h, decide_eq_true (by omega)]
  · rw [decide_eq_false h, decide_eq_false (by omega)]
theorem makeB_all {x : Hd} {l : List ByteArray} (h : allB l = false) : makeB x l = false := by rw [makeB, h, Bool.false_and]

/-- The block of a text, and the blocks behind it. -/
def frontB (s : ByteArray) : ByteArray := s.extract 0 256
def bodyB (s : ByteArray) (n : Nat) : ByteArray := s.extract 256 (256 * (1 + n))
def cutL (b : ByteArray) (n : Nat) : List ByteArray := (List.range n).map fun i => b.extract (256 * i) (256 * i + 256)
/-- Is there a chunk? -/
def sumB (s : ByteArray) (n : Nat) : Bool := decide ((sumL (frontB s).data.toList (bodyB s n).data.toList : Int) = getS s.data.toList)
def parB (s : ByteArray) : Bool := getB s && (decide (256 * (1 + (getX s.data.toList).list.length) ≤ s.size) && sumB s (getX s.data.toList).list.length)
def parX (s : ByteArray) : Hd := if parB s = true then getX s.data.toList else Hd.z
def parL (s : ByteArray) : List ByteArray := if parB s = true then cutL (bodyB s (getX s.data.toList).list.length) (getX s.data.toList).list.length else []
theorem parX_yes {s : ByteArray} (h : parB s = true) : parX s = getX s.data.toList := if_pos h
theorem parL_yes {s : ByteArray} (h : parB s = true) : parL s = cutL (bodyB s (getX s.data.toList).list.length) (getX s.data.toList).list.length := if_pos h
theorem parX_no {s : ByteArray} (h : parB s = false) : parX s = Hd.z := if_neg (by rw [h]; decide)
theorem parL_no {s : ByteArray} (h : parB s = false) : parL s = [] := if_neg (by rw [h]; decide)
theorem parB_get {s : ByteArray} (h : getB s = false) : parB s = false := by rw [parB, h, Bool.false_and]
theorem parB_short {s : ByteArray} (h : s.size < 256 * (1 + (getX s.data.toList).list.length)) : parB s = false := by
  rw [parB, decide_eq_false (by omega), Bool.false_and, Bool.and_false]
theorem parB_sum {s : ByteArray} (h : sumB s (getX s.data.toList).list.length = false) : parB s = false := by
  rw [parB, h, Bool.and_false, Bool.and_false]
theorem parB_less {s : ByteArray} (h : s.size < 256) : parB s = false := parB_get (by rw [getB, decide_eq_false (by omega), Bool.false_and])
theorem parX_len (s : ByteArray) : (parX s).list.length ≤ 24 := by
  cases h : parB s
  · rw [parX_no h]
    exact Nat.zero_le _
  · rw [parX_yes h]
    exact getX_len _

theorem extract_list (s : ByteArray) (a b : Nat) : (s.extract a b).data.toList = (s.data.toList.take b).drop a := by
  rw [ByteArray.data_extract, Array.toList_extract, List.extract_eq_take_drop, List.drop_take]
theorem extract_mid {s : ByteArray} {p q r : List UInt8} (h : s.data.toList = p ++ q ++ r) {a b : Nat} (ha : p.length = a) (hb : a + q.length = b) : (s.extract a b).data.toList = q := by
  rw [extract_list, h, List.take_left' (by rw [List.length_append]; omega), List.drop_left' ha]
theorem cutL_length (b : ByteArray) (n : Nat) : (cutL b n).length = n := by simp [cutL]
theorem cutL_succ (b : ByteArray) (n : Nat) : cutL b (n + 1) = cutL b n ++ [b.extract (256 * n) (256 * n + 256)] := by simp [cutL, List.range_succ]
theorem cutL_join {l : List ByteArray} (h : allB l = true) : cutL (joinB l) l.length = l := by
  apply List.ext_getElem
  · rw [cutL_length]
  · intro i h1 h2
    apply bytes_ext
    simp only [cutL, List.getElem_map, List.getElem_range]
    have hall := allB_iff.1 h
    refine extract_mid (p := joinL (l.take i)) (r := joinL (l.drop (i + 1))) ?_ ?_ ?_
    · rw [joinB_list]
      conv => lhs; rw [← List.take_append_drop i l, List.drop_eq_getElem_cons h2]
      rw [joinL_append, List.append_assoc]
      rfl
    · rw [joinL_len (allB_iff.2 fun b hb => hall b (List.mem_of_mem_take hb)), List.length_take, Nat.min_eq_left (by omega)]
    · rw [← size_list, hall _ (List.getElem_mem h2)]

/-- What stands in a chunk's bytes. -/
theorem makeS_list {x : Hd} {l : List ByteArray} (h : makeB x l = true) : (makeS x l).data.toList = front x ++ low 4 (sumL (front x) (joinL l) : Nat) ++ joinL l := by
  obtain ⟨h1, h2, h3, h4, h5⟩ := makeB_parts h
  rw [makeS_yes h, ByteArray.data_append, Array.toList_append, putS_list h2, joinB_list, hbytes]
theorem makeS_size {x : Hd} {l : List ByteArray} (h : makeB x l = true) : (makeS x l).size = 256 * (1 + l.length) := by
  obtain ⟨h1, h2, h3, h4, h5⟩ := makeB_parts h
  rw [makeS_yes h, ByteArray.size_append, putS_size h2, h5]
  omega

/-- Of bytes that begin as a head's do: head, sum, front and body. -/
theorem par_parts {x : Hd} (hok : okB x = true) {s : ByteArray} {b4 J q : List UInt8} (h : s.data.toList = front x ++ b4 ++ J ++ q) (h4 : b4.length = 4) (hJ : J.length = 256 * x.list.length) :
    getX s.data.toList = x ∧ getS s.data.toList = (num b4 : Nat) ∧ (frontB s).data.toList.take 252 = front x ∧ (bodyB s x.list.length).data.toList = J ∧ getB s = true ∧ 256 * (1 + x.list.length) ≤ s.size := by
  have hF := front_length (okB_len hok)
  have e1 : s.data.toList = body x ++ (List.replicate (252 - (body x).length) 0 ++ (b4 ++ (J ++ q))) := by
    rw [h]
    conv => lhs; arg 1; arg 1; arg 1; rw [front]
    simp only [List.append_assoc]
  have hx := get_body hok e1
  have hsz : 256 * (1 + x.list.length) ≤ s.size := by
    rw [size_list, h]
    simp only [List.length_append]
    omega
  refine ⟨hx, ?_, ?_, ?_, ?_, hsz⟩
  · unfold getS numAt
    rw [h, List.append_assoc, List.append_assoc, List.drop_left' hF, List.take_left' h4]
  · rw [frontB, extract_list, h, List.drop_zero, List.take_take, Nat.min_eq_left (by omega), List.append_assoc, List.append_assoc, List.take_left' hF]
  · refine extract_mid (p := front x ++ b4) (r := q) h ?_ ?_
    · rw [List.length_append]
      omega
    · omega
  · unfold getB
    rw [hx, hok, decide_eq_true (by omega)]
    have : s.data.toList.take 252 = front x := by
      rw [h, List.append_assoc, List.append_assoc, List.take_left' hF]
    rw [this]
    simp

theorem sumL_take {f g : List UInt8} (h : f.take 252 = g.take 252) (b : List UInt8) : sumL f b = sumL g b := by unfold sumL; rw [h]
theorem sumL_full {f : List UInt8} (h : f.length = 252) (b : List UInt8) : sumL f b = Sum.crc (f ++ b) := by
  rw [sumL, List.take_of_length_le (by omega)]
theorem num_low4 (c : Nat) (h : c < 4294967296) : num (low 4 (c : Int)) = c := by
  have := Bin.num_low 4 (c : Int) (by omega) (by omega)
  omega

/-- What was made is parsed, whatever stands behind. -/
theorem par_make {x : Hd} {l : List ByteArray} (h : makeB x l = true) (more : ByteArray) : parB (makeS x l ++ more) = true ∧ parX (makeS x l ++ more) = x ∧ parL (makeS x l ++ more) = l := by
  obtain ⟨h1, h2, h3, h4, h5⟩ := makeB_parts h
  have hJ := joinL_len h1
  have hF := front_length (okB_len h3)
  have e : (makeS x l ++ more).data.toList = front x ++ low 4 (sumL (front x) (joinL l) : Nat) ++ joinL l ++ more.data.toList := by
    rw [ByteArray.data_append, Array.toList_append, makeS_list h]
  obtain ⟨k1, k2, k3, k4, k5, k6⟩ := par_parts h3 e (Bin.low_length _ _) (by omega)
  have hsum : sumB (makeS x l ++ more) x.list.length = true := by
    unfold sumB
    rw [k4, k2, num_low4 _ (sumL_lt _ _), decide_eq_true_eq]
    have : (frontB (makeS x l ++ more)).data.toList.take 252 = (front x).take 252 := by
      rw [k3, List.take_of_length_le (by omega)]
    rw [sumL_take this]
  have hp : parB (makeS x l ++ more) = true := by
    unfold parB
    rw [k1, k5, hsum, decide_eq_true k6]
    rfl
  refine ⟨hp, by rw [parX_yes hp, k1], ?_⟩
  have hb : bodyB (makeS x l ++ more) x.list.length = joinB l := bytes_ext (by rw [k4, joinB_list])
  rw [parL_yes hp, k1, hb, ← h4, cutL_join h1]

/-- A chunk with fewer blocks than it has is none. -/
theorem par_lost {x : Hd} {l : List ByteArray} (h : makeB x l = true) (k : Nat) (hk : k ≤ l.length) : parB ((makeS x l).extract 0 (256 * k)) = false := by
  obtain ⟨h1, h2, h3, h4, h5⟩ := makeB_parts h
  have hs := makeS_size h
  have hsz : ((makeS x l).extract 0 (256 * k)).size = 256 * k := by
    rw [ByteArray.size_extract]
    omega
  by_cases h0 : k = 0
  · exact parB_less (by omega)
  · have e : ((makeS x l).extract 0 (256 * k)).data.toList = body x ++ (List.replicate (252 - (body x).length) 0 ++ (low 4 (sumL (front x) (joinL l) : Nat) ++ (joinL l).take (256 * k - 256))) := by
      have hF := front_length (okB_len h3)
      rw [extract_list, makeS_list h, List.drop_zero]
      have hl4 := Bin.low_length 4 (sumL (front x) (joinL l) : Nat)
      have e9 : 256 * k = (front x ++ low 4 (sumL (front x) (joinL l) : Nat)).length + (256 * k - 256) := by
        rw [List.length_append]
        omega
      conv => lhs; rw [e9, List.take_length_add_append]
      conv => lhs; arg 1; arg 1; rw [front]
      simp only [List.append_assoc]
    refine parB_short ?_
    rw [get_body h3 e]
    omega

/-! ### A byte that is turned -/

theorem num_inj : ∀ {a b : List UInt8}, a.length = b.length → num a = num b → a = b
  | [], [], _, _ => rfl
  | [], _ :: _, h, _ => by simp at h
  | _ :: _, [], h, _ => by simp at h
  | x :: a, y :: b, h, e => by
    have hx := Bin.byte_lt x
    have hy := Bin.byte_lt y
    simp only [num] at e
    have e1 : x.toNat = y.toNat := by omega
    have e2 : num a = num b := by omega
    rw [UInt8.toNat_inj.1 e1, num_inj (by simpa using h) e2]

/-- Other blocks' bytes in a chunk, of another sum. -/
theorem par_body {x : Hd} {l : List ByteArray} (h : makeB x l = true) {s : ByteArray} {J : List UInt8} (e : s.data.toList = front x ++ low 4 (sumL (front x) (joinL l) : Nat) ++ J) (hJ : J.length = (joinL l).length) (hne : Sum.crc (front x ++ J) ≠ Sum.crc (front x ++ joinL l)) : parB s = false := by
  obtain ⟨h1, h2, h3, h4, h5⟩ := makeB_parts h
  have hJl := joinL_len h1
  have hF := front_length (okB_len h3)
  obtain ⟨k1, k2, k3, k4, k5, k6⟩ := par_parts (q := []) h3 (by rw [List.append_nil]; exact e) (Bin.low_length _ _) (by omega)
  refine parB_sum ?_
  rw [k1]
  unfold sumB
  have : (frontB s).data.toList.take 252 = (front x).take 252 := by rw [k3, List.take_of_length_le (by omega)]
  rw [k4, k2, num_low4 _ (sumL_lt _ _), sumL_take this, sumL_full hF, sumL_full hF, decide_eq_false]
  omega

/-- The byte at a place. -/
theorem numAt_one {s : List UInt8} {a : Nat} (h : a < s.length) : numAt s a 1 = (s[a].toNat : Int) := by
  unfold numAt
  rw [List.drop_eq_getElem_cons h, List.take_succ_cons, List.take_zero, num, num]
  simp
theorem front_many {x : Hd} (hok : okB x = true) : numAt (front x) 36 1 = x.list.length := by
  have hlen := okB_len hok
  refine numAt_mid (p := numsPart x) (q := nums (listFields x.list) ++ List.replicate (252 - (body x).length) 0) ?_ (numsPart_length x) (by omega) (by show _ < (256 : Int); omega)
  rw [front, body, manyPart]
  simp only [List.append_assoc]
theorem en_kind {e : En} (h : enB e = true) : 1 ≤ e.kind := by
  obtain ⟨k, n, p⟩ := e
  simp only [enB, partB, Bool.and_eq_true] at h
  obtain ⟨-, h4⟩ := h
  show 1 ≤ k
  by_cases e1 : k = 1
  · omega
  · by_cases e2 : k = 2
    · omega
    · by_cases e4 : k = 4
      · omega
      · by_cases e3 : k = 3 ∨ k = 5
        · omega
        · rw [if_neg e1, if_neg e2, if_neg e4, if_neg e3] at h4
          cases h4
theorem front_kind {x : Hd} (hok : okB x = true) {j : Nat} (hj : j < x.list.length) : 1 ≤ numAt (front x) (37 + 4 * j) 1 := by
  have h1 := get_entry hok (s := front x) (q := List.replicate (252 - (body x).length) 0) rfl j hj
  have h2 := okB_all hok x.list[j] (List.getElem_mem hj)
  have h3 : numAt (front x) (37 + 4 * j) 1 = x.list[j].kind := congrArg En.kind h1
  rw [h3]
  exact en_kind h2
theorem front_behind {x : Hd} (hok : okB x = true) {j : Nat} (hj : x.list.length ≤ j) (h24 : j < 24) : numAt (front x) (37 + 4 * j) 1 = 0 := by
  have hF := front_length (okB_len hok)
  rw [numAt_one (by omega)]
  have hb := body_length x
  have : (front x)[37 + 4 * j]'(by omega) = 0 := by
    have e : ∀ (h : 37 + 4 * j < (body x ++ List.replicate (252 - (body x).length) 0).length), (body x ++ List.replicate (252 - (body x).length) 0)[37 + 4 * j] = 0 := fun h => by
      rw [List.getElem_append_right (by omega), List.getElem_replicate]
    exact e _
  rw [this]
  rfl
/-- Heads whose bytes are the same but for one have as many entries. -/
theorem front_same {x y : Hd} (hx : okB x = true) (hy : okB y = true) {i : Nat} {b : UInt8} (e : front y = (front x).set i b) : y.list.length = x.list.length := by
  have hFx := front_length (okB_len hx)
  have hFy := front_length (okB_len hy)
  have h24x := okB_len hx
  have h24y := okB_len hy
  have hn : ∀ a, a < 252 → a ≠ i → numAt (front y) a 1 = numAt (front x) a 1 := by
    intro a ha hai
    rw [numAt_one (by omega), numAt_one (by omega)]
    congr 2
    simp only [e]
    exact List.getElem_set_ne (fun h => hai h.symm) _
  by_cases hi : i = 36
  · rcases Nat.lt_trichotomy y.list.length x.list.length with h | h | h
    · have k1 := front_kind hx h
      have k2 := front_behind hy (Nat.le_refl y.list.length) (by omega)
      have k3 := hn (37 + 4 * y.list.length) (by omega) (by omega)
      omega
    · exact h
    · have k1 := front_kind hy h
      have k2 := front_behind hx (Nat.le_refl x.list.length) (by omega)
      have k3 := hn (37 + 4 * x.list.length) (by omega) (by omega)
      omega
  · have k1 := front_many hx
    have k2 := front_many hy
    have k3 := hn 36 (by omega) (fun h => hi h.symm)
    omega

/-- A chunk with a byte turned is none. -/
theorem par_turned {x : Hd} {l : List ByteArray} (h : makeB x l = true) {i : Nat} {y : UInt8} (hi : i < (makeS x l).data.toList.length) (hy : y ≠ (makeS x l).data.toList[i]) {s : ByteArray} (hs : s.data.toList = (makeS x l).data.toList.set i y) : parB s = false := by
  obtain ⟨h1, h2, h3, h4, h5⟩ := makeB_parts h
  have hJl := joinL_len h1
  have hF := front_length (okB_len h3)
  have hl4 := Bin.low_length 4 (sumL (front x) (joinL l) : Nat)
  have hL := makeS_list h
  have hc := sumL_full hF (joinL l)
  have hsz := makeS_size h
  rw [size_list] at hsz
  have hy2 : ∀ k, (makeS x l).data.toList[i]? = some k → y ≠ k := by
    intro k hk hyk
    rw [List.getElem?_eq_getElem hi] at hk
    exact hy (hyk.trans (Option.some.inj hk).symm)
  rw [hL] at hs hy2
  by_cases c1 : i < 252
  · -- in the head
    rw [List.append_assoc, List.set_append_left _ _ (by omega), ← List.append_assoc] at hs
    rw [List.append_assoc, List.getElem?_append_left (by omega)] at hy2
    have hne : y ≠ (front x)[i]'(by omega) := hy2 _ (List.getElem?_eq_getElem (by omega))
    cases hg : getB s
    · exact parB_get hg
    · have hg2 := hg
      unfold getB at hg2
      rw [Bool.and_eq_true, Bool.and_eq_true, decide_eq_true_eq, decide_eq_true_eq] at hg2
      obtain ⟨-, g1, g2⟩ := hg2
      have g3 : s.data.toList.take 252 = (front x).set i y := by
        rw [hs, List.append_assoc]
        exact List.take_left' (by rw [List.length_set]; omega)
      rw [g3] at g2
      have hn := front_same h3 g1 g2
      obtain ⟨k1, k2, k3, k4, k5, k6⟩ := par_parts (J := joinL l) (q := []) g1 (b4 := low 4 (sumL (front x) (joinL l) : Nat)) (by rw [List.append_nil, g2]; exact hs) (Bin.low_length _ _) (by omega)
      refine parB_sum ?_
      unfold sumB
      have hF2 := front_length (okB_len g1)
      have : (frontB s).data.toList.take 252 = (front (getX s.data.toList)).take 252 := by rw [k3, List.take_of_length_le (by omega)]
      rw [k4, k2, num_low4 _ (sumL_lt _ _), sumL_take this, sumL_full hF2, hc, decide_eq_false]
      have e7 : front (getX s.data.toList) ++ joinL l = (front x ++ joinL l).set i y := by
        rw [g2, List.set_append_left _ _ (by omega)]
      have h9 : i < (front x ++ joinL l).length := by rw [List.length_append]; omega
      have e8 := crc_set h9 (y := y) (by rw [List.getElem_append_left (by omega)]; exact hne)
      rw [e7]
      omega
  · by_cases c2 : i < 256
    · -- in the sum
      rw [List.append_assoc, List.set_append_right _ _ (by omega), List.set_append_left _ _ (by omega), ← List.append_assoc] at hs
      rw [List.append_assoc, List.getElem?_append_right (by omega), List.getElem?_append_left (by omega)] at hy2
      have hne : y ≠ (low 4 (sumL (front x) (joinL l) : Nat))[i - (front x).length]'(by omega) := hy2 _ (List.getElem?_eq_getElem (by omega))
      obtain ⟨k1, k2, k3, k4, k5, k6⟩ := par_parts (q := []) h3 (by rw [List.append_nil]; exact hs) (by rw [List.length_set]; exact hl4) (by omega)
      refine parB_sum ?_
      rw [k1]
      unfold sumB
      have : (frontB s).data.toList.take 252 = (front x).take 252 := by rw [k3, List.take_of_length_le (by omega)]
      rw [k4, k2, sumL_take this, decide_eq_false]
      intro e9
      have e10 : num (low 4 (sumL (front x) (joinL l) : Nat)) = num ((low 4 (sumL (front x) (joinL l) : Nat)).set (i - (front x).length) y) := by
        rw [num_low4 _ (sumL_lt _ _)]
        omega
      have e11 := num_inj (by simp) e10
      apply hne
      have e12 : ((low 4 (sumL (front x) (joinL l) : Nat)).set (i - (front x).length) y)[i - (front x).length]? = some y := List.getElem?_set_self (by omega)
      rw [← e11, List.getElem?_eq_getElem (by omega)] at e12
      exact (Option.some.inj e12).symm
    · -- in the blocks
      have hFl : (front x ++ low 4 (sumL (front x) (joinL l) : Nat)).length = 256 := by rw [List.length_append]; omega
      rw [List.set_append_right _ _ (by omega), hFl] at hs
      rw [List.getElem?_append_right (by omega), hFl] at hy2
      have hne : y ≠ (joinL l)[i - 256]'(by omega) := hy2 _ (List.getElem?_eq_getElem (by omega))
      refine par_body h hs (by rw [List.length_set]) ?_
      have h9 : i - 4 < (front x ++ joinL l).length := by rw [List.length_append]; omega
      have e7 : front x ++ (joinL l).set (i - 256) y = (front x ++ joinL l).set (i - 4) y := by
        have e8 : i - 4 - (front x).length = i - 256 := by omega
        rw [List.set_append_right _ _ (by omega), e8]
      rw [e7]
      refine crc_set h9 ?_
      rw [List.getElem_append_right (by omega)]
      have : i - 4 - (front x).length = i - 256 := by omega
      simp only [this]
      exact hne
end Chk
end Go.Proofs.Ytaiebhkjkeadoaa
