/- A chunk's beginning, plainly: which heads may be, a head's bytes, the head of bytes; there and back; a byte that is turned turns the sum. Nothing of the program. -/
import Derived.Test.YtaiebhkjkeadoaaRecPlain
namespace Go.Proofs.Ytaiebhkjkeadoaa
namespace Hdp
open Bin (low)
open Rec

/-- An entry. -/
structure En where
  kind : Int
  node : Int
  part : Int
deriving DecidableEq
/-- A head. -/
structure Hd where
  house : Int
  gen : Int
  life : Int
  seq : Int
  next : Int
  clock : Int
  sb : Int
  sn : Int
  list : List En
deriving DecidableEq

def Hd.z : Hd := ⟨0, 0, 0, 0, 0, 0, 0, 0, []⟩

/-- May an entry's part be? -/
def partB (kind node part : Int) : Bool :=
  if kind = 1 then inB part 0 587 else if kind = 2 then inB part 0 9 else if kind = 4 then inB part 0 3 && decide (node = 1) else if kind = 3 ∨ kind = 5 then decide (part = 0) else false
/-- May an entry be? -/
def enB (e : En) : Bool := inB e.node 1 255 && partB e.kind e.node e.part
/-- May a head's numbers be? -/
def numB (x : Hd) : Bool :=
  inB x.house 1 16 && inB x.gen 1 65535 && inB x.life 1 1048575 && inB x.seq 1 1099511627776 && inB x.next 0 65535 && inB x.clock 0 1099511627776 && inB x.sb 0 1099511627777 && inB x.sn 0 1099511627777
/-- May a head be? -/
def okB (x : Hd) : Bool := decide (x.list.length ≤ 24) && (x.list.all enB && numB x)

theorem okB_len {x : Hd} (h : okB x = true) : x.list.length ≤ 24 := by
  simp only [okB, Bool.and_eq_true, decide_eq_true_eq] at h
  exact h.1
theorem okB_all {x : Hd} (h : okB x = true) : ∀ e ∈ x.list, enB e = true := by
  simp only [okB, Bool.and_eq_true, List.all_eq_true] at h
  exact h.2.1
theorem okB_num {x : Hd} (h : okB x = true) : numB x = true := by
  simp only [okB, Bool.and_eq_true] at h
  exact h.2.2

/-- The numbers ahead of the list, in the order of their bytes. -/
def fieldsOf (x : Hd) : List (Nat × Int) :=
  [(1, x.house), (2, x.gen), (3, x.life), (6, x.seq), (2, x.next), (6, x.clock), (6, x.sb), (6, x.sn)]
def enFields (e : En) : List (Nat × Int) := [(1, e.kind), (1, e.node), (2, e.part)]
def listFields (l : List En) : List (Nat × Int) := l.flatMap enFields
theorem listFields_nil : listFields [] = [] := rfl
theorem listFields_append (a b : List En) : listFields (a ++ b) = listFields a ++ listFields b := by simp [listFields, List.flatMap_append]
theorem listFields_cons (e : En) (l : List En) : listFields (e :: l) = enFields e ++ listFields l := rfl
theorem listFields_one (e : En) : listFields [e] = enFields e := by simp [listFields]
theorem listFields_length : ∀ l : List En, (nums (listFields l)).length = 4 * l.length
  | [] => rfl
  | e :: l => by
    rw [listFields_cons, nums_append, List.length_append, listFields_length l, nums_length, List.length_cons]
    show 4 + _ = _
    omega
theorem listFields_cut (l : List En) (i : Nat) (hi : i < l.length) : listFields l = listFields (l.take i) ++ (enFields l[i] ++ listFields (l.drop (i + 1))) := by
  rw [← listFields_cons, ← listFields_append, ← List.drop_eq_getElem_cons hi, List.take_append_drop]

/-- What stands ahead of the list: the mark, the numbers, how many there are. -/
def numsPart (x : Hd) : List UInt8 := [66, 71, 67, 72] ++ nums (fieldsOf x)
def manyPart (x : Hd) : List UInt8 := numsPart x ++ low 1 (x.list.length : Int)
def body (x : Hd) : List UInt8 := manyPart x ++ nums (listFields x.list)
def front (x : Hd) : List UInt8 := body x ++ List.replicate (252 - (body x).length) 0

theorem numsPart_length (x : Hd) : (numsPart x).length = 36 := by
  rw [numsPart, List.length_append, nums_length]
  rfl
theorem manyPart_length (x : Hd) : (manyPart x).length = 37 := by
  rw [manyPart, List.length_append, numsPart_length, Bin.low_length]
theorem body_length (x : Hd) : (body x).length = 37 + 4 * x.list.length := by
  rw [body, List.length_append, manyPart_length, listFields_length]
theorem front_length {x : Hd} (h : x.list.length ≤ 24) : (front x).length = 252 := by
  rw [front, List.length_append, List.length_replicate, body_length]
  omega

/-- The sum of a block's beginning and what stands behind. -/
def sumL (s b : List UInt8) : Nat := Sum.crc (s.take 252 ++ b)
theorem sumL_lt (s b : List UInt8) : sumL s b < 4294967296 := Sum.crc_lt _
def hbytes (x : Hd) (b : List UInt8) : List UInt8 := front x ++ low 4 (sumL (front x) b : Nat)
def putB (x : Hd) (n : Nat) : Bool := okB x && decide (n = 256 * x.list.length)
def putS (x : Hd) (b : ByteArray) : ByteArray := if putB x b.size then ⟨(hbytes x b.data.toList).toArray⟩ else ⟨#[]⟩

theorem putB_ok {x : Hd} {n : Nat} (h : putB x n = true) : okB x = true := by
  simp only [putB, Bool.and_eq_true] at h
  exact h.1
theorem hbytes_length {x : Hd} (h : x.list.length ≤ 24) (b : List UInt8) : (hbytes x b).length = 256 := by
  rw [hbytes, List.length_append, front_length h, Bin.low_length]
theorem putS_list {x : Hd} {b : ByteArray} (h : putB x b.size = true) : (putS x b).data.toList = hbytes x b.data.toList := by
  rw [putS, if_pos h]
theorem putS_size {x : Hd} {b : ByteArray} (h : putB x b.size = true) : (putS x b).size = 256 := by
  rw [putS, if_pos h]
  show (hbytes x b.data.toList).toArray.size = 256
  rw [List.size_toArray, hbytes_length (okB_len (putB_ok h))]

theorem num_fits {x : Hd} (h : numB x = true) : FitsL (fieldsOf x) := by
  simp only [numB, Bool.and_eq_true, inB_iff] at h
  simp only [FitsL, fieldsOf, List.mem_cons, List.not_mem_nil, or_false, forall_eq_or_imp, forall_eq]
  omega
theorem en_fits {e : En} (h : enB e = true) : FitsL (enFields e) := by
  obtain ⟨k, n, p⟩ := e
  simp only [enB, partB, Bool.and_eq_true, inB_iff] at h
  obtain ⟨h1, h2⟩ := h
  have hk : 0 ≤ k ∧ k < 256 ∧ 0 ≤ p ∧ p < 65536 := by
    by_cases e1 : k = 1
    · rw [if_pos e1, inB_iff] at h2
      omega
    · rw [if_neg e1] at h2
      by_cases e2 : k = 2
      · rw [if_pos e2, inB_iff] at h2
        omega
      · rw [if_neg e2] at h2
        by_cases e4 : k = 4
        · rw [if_pos e4, Bool.and_eq_true, inB_iff] at h2
          omega
        · rw [if_neg e4] at h2
          by_cases e3 : k = 3 ∨ k = 5
          · rw [if_pos e3, decide_eq_true_eq] at h2
            omega
          · rw [if_neg e3] at h2
            cases h2
  simp only [FitsL, enFields, List.mem_cons, List.not_mem_nil, or_false, forall_eq_or_imp, forall_eq]
  omega
theorem list_fits {l : List En} (h : ∀ e ∈ l, enB e = true) : FitsL (listFields l) := by
  intro p hp
  obtain ⟨e, he, hpe⟩ := List.mem_flatMap.1 hp
  exact en_fits (h e he) p hpe

/-! ### Back -/

/-- The i-th entry of bytes. -/
def getE (s : List UInt8) (i : Nat) : En := ⟨numAt s (37 + 4 * i) 1, numAt s (38 + 4 * i) 1, numAt s (39 + 4 * i) 2⟩
def getL (s : List UInt8) (n : Nat) : List En := (List.range n).map (getE s)
/-- How many entries are read. -/
def getN (s : List UInt8) : Nat := min (numAt s 36 1).toNat 24
def getX (s : List UInt8) : Hd := ⟨numAt s 4 1, numAt s 5 2, numAt s 7 3, numAt s 10 6, numAt s 16 2, numAt s 18 6, numAt s 24 6, numAt s 30 6, getL s (getN s)⟩
def getB (s : ByteArray) : Bool := decide (256 ≤ s.size) && (okB (getX s.data.toList) && decide (front (getX s.data.toList) = s.data.toList.take 252))
def getS (s : List UInt8) : Int := numAt s 252 4

theorem getN_le (s : List UInt8) : getN s ≤ 24 := Nat.min_le_right _ _
theorem getL_length (s : List UInt8) (n : Nat) : (getL s n).length = n := by simp [getL]
theorem getX_len (s : List UInt8) : (getX s).list.length ≤ 24 := by
  show (getL s (getN s)).length ≤ 24
  rw [getL_length]
  exact getN_le s

theorem get_entry {x : Hd} (hok : okB x = true) {s q : List UInt8} (e : s = body x ++ q) (i : Nat) (hi : i < x.list.length) : getE s i = x.list[i] := by
  have hen := okB_all hok x.list[i] (List.getElem_mem hi)
  have hf := en_fits hen
  have e2 : s = (manyPart x ++ nums (listFields (x.list.take i))) ++ nums (enFields x.list[i]) ++ (nums (listFields (x.list.drop (i + 1))) ++ q) := by
    rw [e, body]
    conv => lhs; arg 1; arg 2; rw [listFields_cut x.list i hi, nums_append, nums_append]
    simp only [List.append_assoc]
  have hl : (manyPart x ++ nums (listFields (x.list.take i))).length = 37 + 4 * i := by
    rw [List.length_append, manyPart_length, listFields_length, List.length_take, Nat.min_eq_left (by omega)]
  have v := valsAt_mid (enFields x.list[i]) _ (37 + 4 * i) e2 hl hf
  simp only [enFields, List.map_cons, List.map_nil, valsAt, List.cons.injEq, and_true] at v
  obtain ⟨v0, v1, v2⟩ := v
  have a1 : 37 + 4 * i + 1 = 38 + 4 * i := by omega
  have a2 : 38 + 4 * i + 1 = 39 + 4 * i := by omega
  rw [a1] at v1 v2
  rw [a2] at v2
  unfold getE
  rw [v0, v1, v2]

theorem get_body {x : Hd} (hok : okB x = true) {s q : List UInt8} (e : s = body x ++ q) : getX s = x := by
  have hlen := okB_len hok
  have e1 : s = [66, 71, 67, 72] ++ nums (fieldsOf x) ++ (low 1 (x.list.length : Int) ++ (nums (listFields x.list) ++ q)) := by
    rw [e, body, manyPart, numsPart]
    simp only [List.append_assoc]
  have v := valsAt_mid (fieldsOf x) [66, 71, 67, 72] 4 e1 rfl (num_fits (okB_num hok))
  have e3 : s = numsPart x ++ low 1 (x.list.length : Int) ++ (nums (listFields x.list) ++ q) := by
    rw [e, body, manyPart]
    simp only [List.append_assoc]
  have hm := numAt_mid e3 (numsPart_length x) (by omega) (by show _ < (256 : Int); omega)
  have hn : getN s = x.list.length := by
    unfold getN
    rw [hm]
    simp only [Int.toNat_natCast]
    exact Nat.min_eq_left hlen
  have hL : getL s (getN s) = x.list := by
    rw [hn]
    apply List.ext_getElem
    · rw [getL_length]
    · intro i h1 h2
      rw [← get_entry hok e i h2]
      simp [getL]
  obtain ⟨house, gen, life, seq, next, clock, sb, sn, l⟩ := x
  simp only [fieldsOf, List.map_cons, List.map_nil, valsAt, List.cons.injEq, and_true, Nat.reduceAdd] at v
  obtain ⟨v0, v1, v2, v3, v4, v5, v6, v7⟩ := v
  unfold getX
  rw [v0, v1, v2, v3, v4, v5, v6, v7, hL]

/-- What was put is got, whatever stands behind; so is its sum. -/
theorem get_put {x : Hd} {b : ByteArray} (hp : putB x b.size = true) (more : ByteArray) : getB (putS x b ++ more) = true ∧ getX (putS x b ++ more).data.toList = x ∧ getS (putS x b ++ more).data.toList = (sumL (front x) b.data.toList : Nat) := by
  have hok := putB_ok hp
  have hlen := okB_len hok
  have el : (putS x b ++ more).data.toList = hbytes x b.data.toList ++ more.data.toList := by
    rw [ByteArray.data_append, Array.toList_append, putS_list hp]
  have e1 : hbytes x b.data.toList ++ more.data.toList = body x ++ (List.replicate (252 - (body x).length) 0 ++ (low 4 (sumL (front x) b.data.toList : Nat) ++ more.data.toList)) := by
    rw [hbytes]
    conv => lhs; arg 1; arg 1; rw [front]
    simp only [List.append_assoc]
  have hx := get_body hok e1
  have e2 : hbytes x b.data.toList ++ more.data.toList = front x ++ low 4 (sumL (front x) b.data.toList : Nat) ++ more.data.toList := rfl
  have hc := sumL_lt (front x) b.data.toList
  have hs := numAt_mid e2 (front_length hlen) (by omega) (by show _ < ((4294967296 : Nat) : Int); omega)
  rw [el]
  refine ⟨?_, hx, hs⟩
  unfold getB
  rw [el, hx, hok]
  have h1 : 256 ≤ (putS x b ++ more).size := by rw [ByteArray.size_append, putS_size hp]; omega
  have h2 : (hbytes x b.data.toList ++ more.data.toList).take 252 = front x := by
    rw [e2, List.append_assoc]
    exact List.take_left' (front_length hlen)
  rw [h2, decide_eq_true h1]
  simp

/-- Bytes tell the head. -/
theorem putS_inj {x x' : Hd} {b b' : ByteArray} (hp : putB x b.size = true) (hp' : putB x' b'.size = true) (e : putS x b = putS x' b') : x = x' := by
  have k := get_put hp ⟨#[]⟩
  have k' := get_put hp' ⟨#[]⟩
  rw [e] at k
  exact k.2.1.symm.trans k'.2.1

/-- A byte that is turned turns the sum. -/
theorem crc_set {f : List UInt8} {i : Nat} {y : UInt8} (hi : i < f.length) (hy : y ≠ f[i]) : Sum.crc (f.set i y) ≠ Sum.crc f := by
  intro e
  have e5 : f.set i y = f.take i ++ y :: f.drop (i + 1) := List.set_eq_take_append_cons_drop .. |>.trans (by rw [if_pos hi])
  have e6 : f = f.take i ++ f[i] :: f.drop (i + 1) := by
    rw [← List.drop_eq_getElem_cons hi, List.take_append_drop]
  rw [e5] at e
  exact hy (crc_one (e.trans (congrArg Sum.crc e6)))

theorem putB_no {x : Hd} {n : Nat} (h : okB x = false) : putB x n = false := by simp [putB, h]
theorem okB_one {x : Hd} {i : Nat} (hi : i < x.list.length) (h : enB x.list[i] = false) : okB x = false := by
  have : x.list.all enB = false := by
    rw [List.all_eq_false]
    exact ⟨x.list[i], List.getElem_mem hi, by rw [h]; simp⟩
  rw [okB, this, Bool.false_and, Bool.and_false]
theorem okB_many {x : Hd} (h : 24 < x.list.length) : okB x = false := by
  rw [okB, decide_eq_false (by omega), Bool.false_and]
theorem okB_nums {x : Hd} (h : numB x = false) : okB x = false := by
  rw [okB, h, Bool.and_false, Bool.and_false]
end Hdp
end Go.Proofs.Ytaiebhkjkeadoaa
