/- A house's state, plainly: which states may be, a state's bytes, the state of bytes; there and back; a byte that is turned makes it none. Nothing of the program. -/
import Derived.Test.YtgpjjbffndmhjaaRecPlain
namespace Go.Proofs.Ytgpjjbffndmhjaa
namespace Slt
open Bin (low)
open Rec

/-- A state. -/
structure Sl where
  num : Int
  life : Int
  clock : Int
  seg : Int
  at_ : Int
  next : Int
  seq : Int
  m0 : Int
  m1 : Int
  m2 : Int
  m3 : Int
  sb : Int
  sn : Int
deriving DecidableEq

def Sl.z : Sl := ⟨0, 0, 0, 0, 0, 0, 0, 0, 0, 0, 0, 0, 0⟩

/-- May a state be? -/
def okB (x : Sl) : Bool :=
  inB x.m0 0 16383 && inB x.m1 0 16383 && inB x.m2 0 16383 && inB x.m3 0 16383 && inB x.num 1 1099511627776 && inB x.life 1 1048575 && inB x.clock 0 1099511627776 && inB x.seg 0 65535 && inB x.at_ 0 64 && inB x.next 0 65535 && inB x.seq 1 1099511627776 && inB x.sb 0 1099511627777 && inB x.sn 0 1099511627777

/-- The numbers in the order of their bytes. -/
def fieldsOf (h g : Int) (x : Sl) : List (Nat × Int) :=
  [(1, h), (2, g), (6, x.num), (3, x.life), (6, x.clock), (2, x.seg), (2, x.at_), (2, x.next), (6, x.seq), (4, x.m0), (4, x.m1), (4, x.m2), (4, x.m3), (6, x.sb), (6, x.sn)]
def body (h g : Int) (x : Sl) : List UInt8 := [66, 71, 83, 76] ++ nums (fieldsOf h g x)
def front (h g : Int) (x : Sl) : List UInt8 := body h g x ++ List.replicate 190 0
def sbytes (h g : Int) (x : Sl) : List UInt8 := sumd (front h g x)
def putB (h g : Int) (x : Sl) : Bool := inB h 1 16 && inB g 1 65535 && okB x
def putS (h g : Int) (x : Sl) : ByteArray := if putB h g x then ⟨(sbytes h g x).toArray⟩ else ⟨#[]⟩

theorem body_length (h g : Int) (x : Sl) : (body h g x).length = 62 := by
  rw [body, List.length_append, nums_length]
  rfl
theorem front_length (h g : Int) (x : Sl) : (front h g x).length = 252 := by
  rw [front, List.length_append, body_length, List.length_replicate]
theorem sbytes_length (h g : Int) (x : Sl) : (sbytes h g x).length = 256 := by
  rw [sbytes, sumd_length, front_length]
theorem putS_size {h g : Int} {x : Sl} (hp : putB h g x = true) : (putS h g x).size = 256 := by
  rw [putS, if_pos hp]
  show (sbytes h g x).toArray.size = 256
  rw [List.size_toArray, sbytes_length]
theorem putS_list {h g : Int} {x : Sl} (hp : putB h g x = true) : (putS h g x).data.toList = sbytes h g x := by
  rw [putS, if_pos hp]
theorem putB_ok {h g : Int} {x : Sl} (hp : putB h g x = true) : okB x = true := by
  simp only [putB, Bool.and_eq_true] at hp
  exact hp.2

theorem putB_fits {h g : Int} {x : Sl} (hp : putB h g x = true) : FitsL (fieldsOf h g x) := by
  simp only [putB, okB, Bool.and_eq_true, inB_iff] at hp
  simp only [FitsL, fieldsOf, List.mem_cons, List.not_mem_nil, or_false, forall_eq_or_imp, forall_eq]
  omega

/-! ### Back -/

def getH (s : List UInt8) : Int := numAt s 4 1
def getG (s : List UInt8) : Int := numAt s 5 2
def getX (s : List UInt8) : Sl := ⟨numAt s 7 6, numAt s 13 3, numAt s 16 6, numAt s 22 2, numAt s 24 2, numAt s 26 2, numAt s 28 6, numAt s 34 4, numAt s 38 4, numAt s 42 4, numAt s 46 4, numAt s 50 6, numAt s 56 6⟩
def getB (s : ByteArray) : Bool := decide (s.size = 256) && (putB (getH s.data.toList) (getG s.data.toList) (getX s.data.toList) && decide (putS (getH s.data.toList) (getG s.data.toList) (getX s.data.toList) = s))

theorem get_bytes {h g : Int} {x : Sl} (hp : putB h g x = true) : getH (sbytes h g x) = h ∧ getG (sbytes h g x) = g ∧ getX (sbytes h g x) = x := by
  have e : sbytes h g x = [66, 71, 83, 76] ++ nums (fieldsOf h g x) ++ (List.replicate 190 0 ++ low 4 (Sum.crc (front h g x) : Nat)) := by
    rw [sbytes, sumd]
    conv => lhs; arg 1; rw [front, body]
    simp only [List.append_assoc]
  have v := valsAt_mid (fieldsOf h g x) [66, 71, 83, 76] 4 e rfl (putB_fits hp)
  obtain ⟨num, life, clock, seg, at_, next, seq, m0, m1, m2, m3, sb, sn⟩ := x
  simp only [fieldsOf, List.map_cons, List.map_nil, valsAt, List.cons.injEq, and_true, Nat.reduceAdd] at v
  obtain ⟨v0, v1, v2, v3, v4, v5, v6, v7, v8, v9, v10, v11, v12, v13, v14⟩ := v
  refine ⟨v0, v1, ?_⟩
  unfold getX
  rw [v2, v3, v4, v5, v6, v7, v8, v9, v10, v11, v12, v13, v14]

theorem get_put {h g : Int} {x : Sl} (hp : putB h g x = true) : getB (putS h g x) = true ∧ getH (putS h g x).data.toList = h ∧ getG (putS h g x).data.toList = g ∧ getX (putS h g x).data.toList = x := by
  have k := get_bytes hp
  have e := putS_list hp
  refine ⟨?_, by rw [e]; exact k.1, by rw [e]; exact k.2.1, by rw [e]; exact k.2.2⟩
  unfold getB
  rw [e, k.1, k.2.1, k.2.2, hp, putS_size hp]
  simp

/-- Bytes tell the state. -/
theorem putS_inj {h g h' g' : Int} {x x' : Sl} (hp : putB h g x = true) (hp' : putB h' g' x' = true) (e : putS h g x = putS h' g' x') : h = h' ∧ g = g' ∧ x = x' := by
  have k := get_put hp
  have k' := get_put hp'
  rw [e] at k
  exact ⟨k.2.1.symm.trans k'.2.1, k.2.2.1.symm.trans k'.2.2.1, k.2.2.2.symm.trans k'.2.2.2⟩

theorem get_turned {h g : Int} {x : Sl} {s : ByteArray} {i : Nat} {y : UInt8} (hi : i < (sbytes h g x).length) (hy : y ≠ (sbytes h g x)[i]) (hs : s.data.toList = (sbytes h g x).set i y) : getB s = false := by
  rw [Bool.eq_false_iff]
  intro hg
  simp only [getB, Bool.and_eq_true, decide_eq_true_eq] at hg
  obtain ⟨_, hp, he⟩ := hg
  have e := putS_list hp
  rw [he] at e
  have e2 := e.symm.trans hs
  exact hy (sumd_turned (by rw [front_length, front_length]) hi e2)

theorem get_long {s : ByteArray} (h : s.size ≠ 256) : getB s = false := by simp [getB, h]

/-- 256 bytes 0 are no state. -/
theorem get_zero {s : ByteArray} (h : s.data.toList = List.replicate 256 0) : getB s = false := by
  rw [Bool.eq_false_iff]
  intro hg
  simp only [getB, Bool.and_eq_true, decide_eq_true_eq] at hg
  obtain ⟨_, hp, he⟩ := hg
  have e := putS_list hp
  rw [he, h] at e
  exact absurd (show some (0 : UInt8) = some 66 from congrArg List.head? e) (by decide)
end Slt
end Go.Proofs.Ytgpjjbffndmhjaa
