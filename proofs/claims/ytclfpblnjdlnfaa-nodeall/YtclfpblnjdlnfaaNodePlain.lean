/- A file or directory as a node, plainly: which nodes may be, a node brought within its bounds, a node's bytes, the node of bytes; there and back; a byte that is turned makes it none. Nothing of the program. -/
import Derived.Test.YtclfpblnjdlnfaaRecPlain
namespace Go.Proofs.Ytclfpblnjdlnfaa
namespace Nod
open Bin (low)
open Rec

/-- A node. -/
structure Nd where
  num : Int
  kind : Int
  links : Int
  size : Int
  time : Int
  p0 : Int
  p1 : Int
  p2 : Int
  p3 : Int
  p4 : Int
  p5 : Int
  p6 : Int
  p7 : Int
  p8 : Int
  p9 : Int
  p10 : Int
  p11 : Int
  p12 : Int
  p13 : Int
deriving DecidableEq

def Nd.z : Nd := ⟨0, 0, 0, 0, 0, 0, 0, 0, 0, 0, 0, 0, 0, 0, 0, 0, 0, 0, 0⟩
/-- A node's k-th pointer. -/
def Nd.ptr (x : Nd) : Nat → Int
  | 0 => x.p0
  | 1 => x.p1
  | 2 => x.p2
  | 3 => x.p3
  | 4 => x.p4
  | 5 => x.p5
  | 6 => x.p6
  | 7 => x.p7
  | 8 => x.p8
  | 9 => x.p9
  | 10 => x.p10
  | 11 => x.p11
  | 12 => x.p12
  | 13 => x.p13
  | _ => 0

/-- May a node be? -/
def okB (x : Nd) : Bool :=
  inB x.p0 0 16383 && inB x.p1 0 16383 && inB x.p2 0 16383 && inB x.p3 0 16383 && inB x.p4 0 16383 && inB x.p5 0 16383 && inB x.p6 0 16383 && inB x.p7 0 16383 && inB x.p8 0 16383 && inB x.p9 0 16383 && inB x.p10 0 16383 && inB x.p11 0 16383 && inB x.p12 0 16383 && inB x.p13 0 16383 && inB x.num 1 255 && inB x.kind 1 2 && inB x.links 0 100 && inB x.size 0 150528 && (decide (x.kind = 1) || decide (x.size % 256 = 0)) && inB x.time 0 1099511627776

/-- A number brought within bounds. -/
def clamp (v a b : Int) : Int := min (max v a) b
theorem clamp_eq {v a b : Int} (h : a ≤ b) : (v = clamp v a b) = (inB v a b = true) := by
  unfold clamp
  rw [inB_iff]
  apply propext
  omega
theorem clamp_in {v a b : Int} (h : a ≤ b) : a ≤ clamp v a b ∧ clamp v a b ≤ b := by
  unfold clamp
  omega

/-- A node's size brought within its bounds: of a directory whole blocks. -/
def bsize (kind size : Int) : Int := if clamp kind 1 2 = 2 then clamp size 0 150528 - clamp size 0 150528 % 256 else clamp size 0 150528
/-- A node brought within its bounds. -/
def bnd (x : Nd) : Nd := ⟨clamp x.num 1 255, clamp x.kind 1 2, clamp x.links 0 100, bsize x.kind x.size, clamp x.time 0 1099511627776, clamp x.p0 0 16383, clamp x.p1 0 16383, clamp x.p2 0 16383, clamp x.p3 0 16383, clamp x.p4 0 16383, clamp x.p5 0 16383, clamp x.p6 0 16383, clamp x.p7 0 16383, clamp x.p8 0 16383, clamp x.p9 0 16383, clamp x.p10 0 16383, clamp x.p11 0 16383, clamp x.p12 0 16383, clamp x.p13 0 16383⟩
theorem bsize_eq {kind size : Int} (hk : inB kind 1 2 = true) : (size = bsize kind size) = (inB size 0 150528 = true ∧ (kind = 1 ∨ size % 256 = 0)) := by
  rw [inB_iff] at hk
  rw [inB_iff]
  have h1 : clamp kind 1 2 = kind := by unfold clamp; omega
  unfold bsize
  rw [h1]
  have h2 := clamp_in (v := size) (show (0 : Int) ≤ 150528 by decide)
  by_cases h : kind = 2
  · rw [if_pos h]
    apply propext
    constructor
    · intro e
      omega
    · intro e
      have : clamp size 0 150528 = size := by unfold clamp; omega
      omega
  · rw [if_neg h]
    apply propext
    constructor
    · intro e
      omega
    · intro e
      unfold clamp
      omega
/-- A node may be just if its bounds leave it as it is. -/
theorem okB_bnd (x : Nd) : decide (x = bnd x) = okB x := by
  obtain ⟨num, kind, links, size, time, p0, p1, p2, p3, p4, p5, p6, p7, p8, p9, p10, p11, p12, p13⟩ := x
  rw [Bool.eq_iff_iff, decide_eq_true_eq]
  unfold bnd okB
  simp only [Nd.mk.injEq, Bool.and_eq_true, Bool.or_eq_true, decide_eq_true_eq]
  rw [clamp_eq (v := num) (by decide), clamp_eq (v := kind) (by decide), clamp_eq (v := links) (by decide), clamp_eq (v := time) (by decide), clamp_eq (v := p0) (by decide), clamp_eq (v := p1) (by decide), clamp_eq (v := p2) (by decide), clamp_eq (v := p3) (by decide), clamp_eq (v := p4) (by decide), clamp_eq (v := p5) (by decide), clamp_eq (v := p6) (by decide), clamp_eq (v := p7) (by decide), clamp_eq (v := p8) (by decide), clamp_eq (v := p9) (by decide), clamp_eq (v := p10) (by decide), clamp_eq (v := p11) (by decide), clamp_eq (v := p12) (by decide), clamp_eq (v := p13) (by decide)]
  constructor
  · rintro ⟨h0, h1, h2, h3, h4, q0, q1, q2, q3, q4, q5, q6, q7, q8, q9, q10, q11, q12, q13⟩
    rw [bsize_eq h1] at h3
    exact ⟨⟨⟨⟨⟨⟨⟨⟨⟨⟨⟨⟨⟨⟨⟨⟨⟨⟨⟨q0, q1⟩, q2⟩, q3⟩, q4⟩, q5⟩, q6⟩, q7⟩, q8⟩, q9⟩, q10⟩, q11⟩, q12⟩, q13⟩, h0⟩, h1⟩, h2⟩, h3.1⟩, h3.2⟩, h4⟩
  · rintro ⟨⟨⟨⟨⟨⟨⟨⟨⟨⟨⟨⟨⟨⟨⟨⟨⟨⟨⟨q0, q1⟩, q2⟩, q3⟩, q4⟩, q5⟩, q6⟩, q7⟩, q8⟩, q9⟩, q10⟩, q11⟩, q12⟩, q13⟩, h0⟩, h1⟩, h2⟩, h3⟩, h3b⟩, h4⟩
    refine ⟨h0, h1, h2, ?_, h4, q0, q1, q2, q3, q4, q5, q6, q7, q8, q9, q10, q11, q12, q13⟩
    rw [bsize_eq h1]
    exact ⟨h3, h3b⟩

/-- The numbers in the order of their bytes. -/
def fieldsOf (x : Nd) : List (Nat × Int) :=
  [(1, x.num), (1, x.kind), (1, x.links), (4, x.size), (6, x.time), (2, x.p0), (2, x.p1), (2, x.p2), (2, x.p3), (2, x.p4), (2, x.p5), (2, x.p6), (2, x.p7), (2, x.p8), (2, x.p9), (2, x.p10), (2, x.p11), (2, x.p12), (2, x.p13)]
def body (x : Nd) : List UInt8 := [66, 71, 78, 68] ++ nums (fieldsOf x)
def front (x : Nd) : List UInt8 := body x ++ List.replicate 207 0
def nbytes (x : Nd) : List UInt8 := sumd (front x)
def putS (x : Nd) : ByteArray := if okB x then ⟨(nbytes x).toArray⟩ else ⟨#[]⟩

theorem body_length (x : Nd) : (body x).length = 45 := by
  rw [body, List.length_append, nums_length]
  simp [fieldsOf]
theorem front_length (x : Nd) : (front x).length = 252 := by
  rw [front, List.length_append, body_length, List.length_replicate]
theorem nbytes_length (x : Nd) : (nbytes x).length = 256 := by
  rw [nbytes, sumd_length, front_length]
theorem putS_size {x : Nd} (hp : okB x = true) : (putS x).size = 256 := by
  rw [putS, if_pos hp]
  show (nbytes x).toArray.size = 256
  rw [List.size_toArray, nbytes_length]
theorem putS_list {x : Nd} (hp : okB x = true) : (putS x).data.toList = nbytes x := by
  rw [putS, if_pos hp]

theorem okB_fits {x : Nd} (hp : okB x = true) : FitsL (fieldsOf x) := by
  simp only [okB, Bool.and_eq_true, inB_iff] at hp
  simp only [FitsL, fieldsOf, List.mem_cons, List.not_mem_nil, or_false, forall_eq_or_imp, forall_eq]
  obtain ⟨⟨⟨⟨⟨⟨⟨⟨⟨⟨⟨⟨⟨⟨⟨⟨⟨⟨⟨q0, q1⟩, q2⟩, q3⟩, q4⟩, q5⟩, q6⟩, q7⟩, q8⟩, q9⟩, q10⟩, q11⟩, q12⟩, q13⟩, h0⟩, h1⟩, h2⟩, h3⟩, h3b⟩, h4⟩ := hp
  clear h3b
  refine ⟨?_, ?_, ?_, ?_, ?_, ?_, ?_, ?_, ?_, ?_, ?_, ?_, ?_, ?_, ?_, ?_, ?_, ?_, ?_⟩ <;> omega

/-! ### Back -/

def getX (s : List UInt8) : Nd := ⟨numAt s 4 1, numAt s 5 1, numAt s 6 1, numAt s 7 4, numAt s 11 6, numAt s 17 2, numAt s 19 2, numAt s 21 2, numAt s 23 2, numAt s 25 2, numAt s 27 2, numAt s 29 2, numAt s 31 2, numAt s 33 2, numAt s 35 2, numAt s 37 2, numAt s 39 2, numAt s 41 2, numAt s 43 2⟩
def getB (s : ByteArray) : Bool := decide (s.size = 256) && (okB (getX s.data.toList) && decide (putS (getX s.data.toList) = s))

theorem get_bytes {x : Nd} (hp : okB x = true) : getX (nbytes x) = x := by
  have e : nbytes x = [66, 71, 78, 68] ++ nums (fieldsOf x) ++ (List.replicate 207 0 ++ low 4 (Sum.crc (front x) : Nat)) := by
    rw [nbytes, sumd]
    conv => lhs; arg 1; rw [front, body]
    simp only [List.append_assoc]
  have v := valsAt_mid (fieldsOf x) [66, 71, 78, 68] 4 e rfl (okB_fits hp)
  obtain ⟨num, kind, links, size, time, p0, p1, p2, p3, p4, p5, p6, p7, p8, p9, p10, p11, p12, p13⟩ := x
  simp only [fieldsOf, List.map_cons, List.map_nil, valsAt, List.cons.injEq, and_true, Nat.reduceAdd] at v
  obtain ⟨v0, v1, v2, v3, v4, v5, v6, v7, v8, v9, v10, v11, v12, v13, v14, v15, v16, v17, v18⟩ := v
  unfold getX
  rw [v0, v1, v2, v3, v4, v5, v6, v7, v8, v9, v10, v11, v12, v13, v14, v15, v16, v17, v18]

theorem get_put {x : Nd} (hp : okB x = true) : getB (putS x) = true ∧ getX (putS x).data.toList = x := by
  have k := get_bytes hp
  have e := putS_list hp
  refine ⟨?_, by rw [e]; exact k⟩
  unfold getB
  rw [e, k, hp, putS_size hp]
  simp

/-- Bytes tell the node. -/
theorem putS_inj {x x' : Nd} (hp : okB x = true) (hp' : okB x' = true) (e : putS x = putS x') : x = x' := by
  have k := get_put hp
  have k' := get_put hp'
  rw [e] at k
  exact k.2.symm.trans k'.2

theorem get_turned {x : Nd} {s : ByteArray} {i : Nat} {y : UInt8} (hi : i < (nbytes x).length) (hy : y ≠ (nbytes x)[i]) (hs : s.data.toList = (nbytes x).set i y) : getB s = false := by
  rw [Bool.eq_false_iff]
  intro hg
  simp only [getB, Bool.and_eq_true, decide_eq_true_eq] at hg
  obtain ⟨_, hp, he⟩ := hg
  have e := putS_list hp
  rw [he] at e
  have e2 := e.symm.trans hs
  exact hy (sumd_turned (by rw [front_length, front_length]) hi e2)

theorem get_long {s : ByteArray} (h : s.size ≠ 256) : getB s = false := by simp [getB, h]

/-- 256 bytes 0 are no node. -/
theorem get_zero {s : ByteArray} (h : s.data.toList = List.replicate 256 0) : getB s = false := by
  rw [Bool.eq_false_iff]
  intro hg
  simp only [getB, Bool.and_eq_true, decide_eq_true_eq] at hg
  obtain ⟨_, hp, he⟩ := hg
  have e := putS_list hp
  rw [he, h] at e
  exact absurd (show some (0 : UInt8) = some 66 from congrArg List.head? e) (by decide)
end Nod
end Go.Proofs.Ytclfpblnjdlnfaa
