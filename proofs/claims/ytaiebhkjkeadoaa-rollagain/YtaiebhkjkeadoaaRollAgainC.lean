/- RollAgain: the second call of Forward. -/
import Derived.Test.YtaiebhkjkeadoaaRollEmpty
namespace Go.Proofs.Ytaiebhkjkeadoaa
open Go.RowKit Lo Hdp Chk Rec Rol

theorem zlt_pre0 {w0 y1 : World} {o : Obj} (_qb : Below (w0.alloc o).heap.size (w0.alloc o) y1) : w0.heap.size < (w0.alloc o).heap.size := by simp
theorem row_lt {w w' : World} {k : Nat} {o : Obj} (h : w.heap[k]? = some o) (_hb : Below w.heap.size w w') : k < w.heap.size := (Array.getElem?_eq_some_iff.1 h).1
theorem fo_pre {y : World} {base B G : Nat} {v : Value} {Lv : List Fv} (h : FOwn y base v Lv) (hg : G < base) (hB : B ≤ base) (a0 a1 a2 a3 a4 a5 a6 a7 a8 a9 a10 a11 a12 : Value) : FOwn (set13 y G a0 a1 a2 a3 a4 a5 a6 a7 a8 a9 a10 a11 a12) B v Lv :=
  (h.keep (set13_keep _ _ _ _ _ _ _ _ _ _ _ _ _ _ _) (fun _ hq => by subst hq; exact hg)).low hB
theorem fo_post {y : World} {base B : Nat} {v : Value} {Lv : List Fv} (h : FOwn y base v Lv) (hB : B ≤ base) (o : Obj) : FOwn (y.alloc o) B v Lv := (h.on ((Below.refl _ _).alloc (Nat.le_refl _) o)).low hB
theorem fw_gotL {X w8 w' : World} {e : Ending} {ad : Option Addr} {n cap : Nat} {M : Lg} {Lv : List Fv} {fs : List Fnd} (he : e = .returned (.tuple #[.slice ad n cap, plV M])) (hb : Below X.heap.size X w8) (hO : FOwn w' w8.heap.size (.slice ad n cap) Lv) (hm : Lv.map (·.f) = fs) (hb2 : Below w8.heap.size w8 w') : ∃ ad cap Lv, e = .returned (.tuple #[.slice ad n cap, plV M]) ∧ Hid (Below X.heap.size X w') ∧ Hid (X.heap.size ≤ w8.heap.size) ∧ Hid (FOwn w' w8.heap.size (.slice ad n cap) Lv) ∧ Hid (Lv.map (·.f) = fs) ∧ Below w8.heap.size w8 w' :=
  ⟨ad, cap, Lv, he, hb.trans (hb2.mono hb.size), hb.size, hO, hm, hb2⟩
def againRegs : Code → List Code
  | .region i o b => [.region i o b]
  | .loop c => againRegs c
  | .seq a b => againRegs a ++ againRegs b
  | .block _ c => againRegs c
  | .scope c => againRegs c
  | .cond _ a b => againRegs a ++ againRegs b
  | _ => []
noncomputable def againCall : Code := ((Try.f4.body.map againRegs).getD [])[15]?.getD .skip

set_option maxRecDepth 1000000 in
set_option maxHeartbeats 40000000 in
theorem again_call {Q : Exit → Act → World → Prop} {Y : World} {b t9 n : Nat} {x2 x3 x4 x5 x6 : Int} {MB : Lg} {fs : List Fnd} {c0 c1 c2 c3 c4 c6 c7 c8 c9 c11 c12 c13 c14 c15 c16 c17 c18 c19 c20 c21 c22 c23 c24 c25 c26 c27 c28 c29 c30 c31 c32 c33 c34 c35 c36 c37 c38 c39 c40 c41 c42 c43 c44 c45 c46 c47 c48 c49 c50 c51 c52 c53 c54 c55 c56 c57 c58 c59 c60 c61 c62 c63 c64 c65 c66 c67 c68 c69 c70 c71 c72 c73 c74 c75 c76 c77 c78 c79 c80 c81 c82 c83 c84 c85 c86 c87 c88 c89 c90 c91 c92 c93 c94 c95 c96 c97 c98 c99 c100 c101 c102 c103 c104 c105 c106 c107 c108 c109 c110 c111 c112 c113 c114 c115 c116 c117 c118 c119 c120 c121 c122 c123 c124 c125 c126 c127 c128 c129 c130 c131 c132 c133 c134 c135 c136 c137 c138 c139 c140 c141 c142 c143 c144 c145 c146 c147 c148 c149 c150 c151 c152 c153 : Value} (hsY : t9 < Y.heap.size)
    (HR9 : Hid (Y.heap[t9]? = some (.cells #[.int .i64 1, .int .i64 2, .int .i64 x2, .int .i64 x3, .int .i64 x4, .int .i64 x5, .int .i64 x6, .int .i64 0, .int .i64 0, .int .i64 0, .int .i64 0, .int .i64 0, .int .i64 0] 29 (0, 0))))
    (FW : Hid (∀ (w8 : World) (v8 : Value), Ints w8 v8 (seqL 0 8) → Below Y.heap.size Y w8 → Calls Try.prog 13 #[.pointer (some ⟨b, 0, none⟩), geomV 304 32, .int .i64 3, .int .i64 7, v8, plV ⟨3, 7, 1, 2, x2, x3, x4, x5, x6, 0, 0, 0, 0, 0, 0, []⟩] w8 fun e w' => ∃ ad cap Lv, e = .returned (.tuple #[.slice ad n cap, plV MB]) ∧ Hid (Below Y.heap.size Y w') ∧ Hid (Y.heap.size ≤ w8.heap.size) ∧ Hid (FOwn w' w8.heap.size (.slice ad n cap) Lv) ∧ Hid (Lv.map (·.f) = fs) ∧ Below w8.heap.size w8 w'))
    (HQ : Hid (∀ u78 u79 u80 u81 u82 u83 u84 u85 lad lcap G Lv2 w', Hid (Rg Y t9 (.cells #[.int .i64 1, .int .i64 2, .int .i64 x2, .int .i64 x3, .int .i64 x4, .int .i64 x5, .int .i64 x6, .int .i64 0, .int .i64 0, .int .i64 0, .int .i64 0, .int .i64 0, .int .i64 0] 29 (0, 0)) G MB w') → Hid (FOwn w' Y.heap.size (.slice lad n lcap) Lv2) → Hid (Lv2.map (·.f) = fs) → Q .normal ⟨List.toArray (c0 :: c1 :: c2 :: c3 :: c4 :: .pointer (some ⟨b, 0, none⟩) :: c6 :: c7 :: c8 :: c9 :: .pointer (some ⟨t9, 0, none⟩) :: .slice lad n lcap :: .pointer (some ⟨G, 0, none⟩) :: c13 :: c14 :: c15 :: c16 :: c17 :: c18 :: c19 :: c20 :: c21 :: c22 :: c23 :: c24 :: c25 :: c26 :: c27 :: c28 :: c29 :: c30 :: c31 :: c32 :: c33 :: c34 :: c35 :: c36 :: c37 :: c38 :: c39 :: c40 :: c41 :: c42 :: c43 :: c44 :: c45 :: c46 :: c47 :: c48 :: c49 :: c50 :: c51 :: c52 :: c53 :: c54 :: c55 :: c56 :: c57 :: c58 :: c59 :: c60 :: c61 :: c62 :: c63 :: c64 :: c65 :: c66 :: c67 :: c68 :: c69 :: c70 :: c71 :: c72 :: c73 :: c74 :: c75 :: c76 :: c77 :: u78 :: u79 :: u80 :: u81 :: u82 :: u83 :: u84 :: u85 :: c86 :: c87 :: c88 :: c89 :: c90 :: c91 :: c92 :: c93 :: c94 :: c95 :: c96 :: c97 :: c98 :: c99 :: c100 :: c101 :: c102 :: c103 :: c104 :: c105 :: c106 :: c107 :: c108 :: c109 :: c110 :: c111 :: c112 :: c113 :: c114 :: c115 :: c116 :: c117 :: c118 :: c119 :: c120 :: c121 :: c122 :: c123 :: c124 :: c125 :: c126 :: c127 :: c128 :: c129 :: c130 :: c131 :: c132 :: c133 :: c134 :: c135 :: c136 :: c137 :: c138 :: c139 :: c140 :: c141 :: c142 :: c143 :: c144 :: c145 :: c146 :: c147 :: c148 :: c149 :: c150 :: c151 :: c152 :: c153 :: []), []⟩ w')) :
    Code.wp Try.prog againCall Q ⟨List.toArray (c0 :: c1 :: c2 :: c3 :: c4 :: .pointer (some ⟨b, 0, none⟩) :: c6 :: c7 :: c8 :: c9 :: .pointer (some ⟨t9, 0, none⟩) :: c11 :: c12 :: c13 :: c14 :: c15 :: c16 :: c17 :: c18 :: c19 :: c20 :: c21 :: c22 :: c23 :: c24 :: c25 :: c26 :: c27 :: c28 :: c29 :: c30 :: c31 :: c32 :: c33 :: c34 :: c35 :: c36 :: c37 :: c38 :: c39 :: c40 :: c41 :: c42 :: c43 :: c44 :: c45 :: c46 :: c47 :: c48 :: c49 :: c50 :: c51 :: c52 :: c53 :: c54 :: c55 :: c56 :: c57 :: c58 :: c59 :: c60 :: c61 :: c62 :: c63 :: c64 :: c65 :: c66 :: c67 :: c68 :: c69 :: c70 :: c71 :: c72 :: c73 :: c74 :: c75 :: c76 :: c77 :: c78 :: c79 :: c80 :: c81 :: c82 :: c83 :: c84 :: c85 :: c86 :: c87 :: c88 :: c89 :: c90 :: c91 :: c92 :: c93 :: c94 :: c95 :: c96 :: c97 :: c98 :: c99 :: c100 :: c101 :: c102 :: c103 :: c104 :: c105 :: c106 :: c107 :: c108 :: c109 :: c110 :: c111 :: c112 :: c113 :: c114 :: c115 :: c116 :: c117 :: c118 :: c119 :: c120 :: c121 :: c122 :: c123 :: c124 :: c125 :: c126 :: c127 :: c128 :: c129 :: c130 :: c131 :: c132 :: c133 :: c134 :: c135 :: c136 :: c137 :: c138 :: c139 :: c140 :: c141 :: c142 :: c143 :: c144 :: c145 :: c146 :: c147 :: c148 :: c149 :: c150 :: c151 :: c152 :: c153 :: []), []⟩ Y := by
  conv => arg 2; whnf
  have GE := rfhid geom_t304
  have SG := rfhid segs8_t
  obtain ⟨bhouse, bgen, bnum, blife, bclock, bseg, bpos, bnext, bseq, b0, b1, b2, b3, b4, b5, bfl⟩ := MB
  obtain ⟨p0, p1, p2, p3, p4, p5, p6, p7, p8, p9, p10, p11, p12⟩ := cells13 HR9.out
  have hne1 : Y.heap.size ≠ t9 := by omega
  have hne2 : t9 ≠ Y.heap.size := by omega
  have hz : True := trivial
  go_region_held3 (fun w' => w'.cell? ⟨t9, 0, none⟩ = some (.int .i64 1) ∧ w'.cell? ⟨t9, 1, none⟩ = some (.int .i64 2) ∧ w'.cell? ⟨t9, 2, none⟩ = some (.int .i64 x2) ∧ w'.cell? ⟨t9, 3, none⟩ = some (.int .i64 x3) ∧ w'.cell? ⟨t9, 4, none⟩ = some (.int .i64 x4) ∧ w'.cell? ⟨t9, 5, none⟩ = some (.int .i64 x5) ∧ w'.cell? ⟨t9, 6, none⟩ = some (.int .i64 x6) ∧ w'.cell? ⟨t9, 7, none⟩ = some (.int .i64 0) ∧ w'.cell? ⟨t9, 8, none⟩ = some (.int .i64 0) ∧ w'.cell? ⟨t9, 9, none⟩ = some (.int .i64 0) ∧ w'.cell? ⟨t9, 10, none⟩ = some (.int .i64 0) ∧ w'.cell? ⟨t9, 11, none⟩ = some (.int .i64 0) ∧ w'.cell? ⟨t9, 12, none⟩ = some (.int .i64 0)) (go_keep)
    (first
      | (go_at_call 14
         refine (GE.out _).mono ?_
         rintro e yY0 ⟨rfl, hy⟩
         have HY0 : Hid (Below Y.heap.size Y yY0) := by first | exact under_drew hy | exact below_pre hy | exact below_pre0 hy | exact hy
         (first | (have hz := zrow_pre hy) | (have hz := zrow_pre0 hy) | (have hz := row_on hz hy) | skip)
         obtain ⟨p0, p1, p2, p3, p4, p5, p6, p7, p8, p9, p10, p11, p12⟩ := cells13 (row_on HR9.out HY0.out)
         have hna0 : yY0.heap.size ≠ t9 := by have h8 := HY0.out.size; omega
         have hnb0 : t9 ≠ yY0.heap.size := by omega
         clear hy)
      | (go_at_call 11
         refine (SG.out _).mono ?_
         rintro e yY1 ⟨sad, rfl, hIy, hy⟩
         have HIy := rfhid hIy
         have HY1 : Hid (Below Y.heap.size Y yY1) := HY0.out.trans (Below.mono (by first | exact hy | exact below_pre0 hy) HY0.out.size)
         (first | (have hz := zrow_pre hy) | (have hz := zrow_pre0 hy) | (have hz := row_on hz hy) | skip)
         obtain ⟨p0, p1, p2, p3, p4, p5, p6, p7, p8, p9, p10, p11, p12⟩ := cells13 (row_on HR9.out HY1.out)
         have hna1 : yY1.heap.size ≠ t9 := by have h8 := HY1.out.size; omega
         have hnb1 : t9 ≠ yY1.heap.size := by omega
         clear hy hIy)
      | (go_at_call 13
         refine (FW.out _ _ (by first | exact HIy.out | exact HIy.out.on ((Below.refl _ _).alloc (Nat.le_refl _) _)) (by first | exact HY1.out | exact HY1.out.alloc HY1.out.size _)).mono ?_
         rintro e yY2 ⟨lad, lcap, Lv2, rfl, HYF, HYB, HOF, HMF, hy⟩
         (first | (have hgl := rfhid (zlt_pre0 hy)) | (have hgl := rfhid (row_lt hz hy)) | skip)
         (first | (have hz := zrow_pre0 hy) | (have hz := row_on hz hy) | skip)
         (first
           | (have hzz := cells13 hz
              obtain ⟨z0, z1, z2, z3, z4, z5, z6, z7, z8, z9, z10, z11, z12⟩ := hzz
              have hff := frozen13 hz
              obtain ⟨f0, f1, f2, f3, f4, f5, f6, f7, f8, f9, f10, f11, f12⟩ := hff)
           | skip)
         obtain ⟨p0, p1, p2, p3, p4, p5, p6, p7, p8, p9, p10, p11, p12⟩ := cells13 (row_on HR9.out HYF.out)))
  all_goals
    first
      | (refine HQ.out _ _ _ _ _ _ _ _ _ _ _ Lv2 _ ?_ ?_ HMF
         · rw [set13_is]
           exact rg_pre ⟨bhouse, bgen, bnum, blife, bclock, bseg, bpos, bnext, bseq, b0, b1, b2, b3, b4, b5, bfl⟩ rfl hz HYF.out HR9.out (by first | exact Nat.le_refl _ | exact HY0.out.size | exact HY1.out.size )
         · rw [set13_is]
           exact fo_pre HOF.out hgl.out HYB.out _ _ _ _ _ _ _ _ _ _ _ _ _)
      | exact HQ.out _ _ _ _ _ _ _ _ _ _ _ Lv2 _ (rg_post ⟨bhouse, bgen, bnum, blife, bclock, bseg, bpos, bnext, bseq, b0, b1, b2, b3, b4, b5, bfl⟩ HYF.out HR9.out) (fo_post HOF.out HYB.out _) HMF
      | trace_state
end Go.Proofs.Ytaiebhkjkeadoaa
