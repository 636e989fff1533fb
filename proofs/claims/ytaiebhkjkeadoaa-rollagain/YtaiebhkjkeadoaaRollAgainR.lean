/- RollAgain: a round of the loop. -/
import Derived.Test.YtaiebhkjkeadoaaRollEmpty
namespace Go.Proofs.Ytaiebhkjkeadoaa
open Go.RowKit Lo Hdp Chk Rec Rol

theorem cell_keep {w w' : World} {b o : Nat} {u : Value} (h : w.cell? ⟨b, o, none⟩ = some u) (hb : Below w.heap.size w w') : w'.cell? ⟨b, o, none⟩ = some u := by
  have hlt := block_lt_of_cell h
  rw [← h]
  simp only [World.cell?, hb.block b hlt]
def againLoops : Code → List Code
  | .loop c => [c]
  | .seq a b => againLoops a ++ againLoops b
  | .block _ c => againLoops c
  | .scope c => againLoops c
  | .cond _ a b => againLoops a ++ againLoops b
  | _ => []
noncomputable def againBody : Code := ((Try.f4.body.map againLoops).getD [])[0]?.getD .skip

set_option maxRecDepth 1000000 in
set_option maxHeartbeats 40000000 in
theorem again_round {Q : Exit → Act → World → Prop} {wr : World} {h : Fnd} {g g2 i j k m n lcap lcap2 hcap hcap2 : Nat} {had had2 : Option Addr} {c0 c1 c2 c3 c4 c5 c6 c8 c10 c12 c14 c15 c16 c17 c18 c19 c20 c21 c22 c23 c24 c25 c26 c27 c28 c29 c30 c31 c32 c33 c34 c35 c36 c37 c38 c39 c40 c41 c42 c43 c44 c45 c46 c47 c48 c49 c50 c51 c52 c53 c54 c55 c56 c57 c58 c59 c60 c61 c62 c63 c64 c65 c66 c67 c68 c69 c70 c71 c72 c73 c74 c75 c76 c77 c78 c79 c80 c81 c82 c83 c84 c85 c86 c87 c88 c89 c90 c91 c92 c93 c94 c95 c96 c97 c98 c99 c100 c101 c102 c103 c104 c105 c106 c107 c108 c109 c110 c111 c112 c113 c114 c115 c116 c117 c118 c119 c120 c121 c122 c123 c124 c125 c126 c127 c128 c129 c130 c131 c132 c133 c134 c135 c136 c137 c138 c139 c140 c141 c142 c143 c144 c145 c146 c147 c148 c149 c150 c151 c152 c153 : Value}
    (hi1 : (i : Int) < (n : Int)) (hji1 : (j : Int) < (m : Int)) (hi0 : (0 : Int) ≤ (i : Int)) (hj0 : (0 : Int) ≤ (j : Int)) (hi40 : i ≤ 40)
    (hw1 : IntKind.i64.wrap ((k : Int) + 1) = (k : Int) + 1) (hw2 : IntKind.i64.wrap ((k : Int) + 1 + (i : Int)) = (j : Int))
    (r0 : wr.cell? ⟨g2, i * 12, none⟩ = some (.int .i64 h.seg)) (r1 : wr.cell? ⟨g2, i * 12 + 1, none⟩ = some (.int .i64 h.pos)) (r2 : wr.cell? ⟨g2, i * 12 + 2, none⟩ = some (.int .i64 h.head.house)) (r3 : wr.cell? ⟨g2, i * 12 + 3, none⟩ = some (.int .i64 h.head.gen)) (r4 : wr.cell? ⟨g2, i * 12 + 4, none⟩ = some (.int .i64 h.head.life)) (r5 : wr.cell? ⟨g2, i * 12 + 5, none⟩ = some (.int .i64 h.head.seq)) (r6 : wr.cell? ⟨g2, i * 12 + 6, none⟩ = some (.int .i64 h.head.next)) (r7 : wr.cell? ⟨g2, i * 12 + 7, none⟩ = some (.int .i64 h.head.clock)) (r8 : wr.cell? ⟨g2, i * 12 + 8, none⟩ = some (.int .i64 h.head.sb)) (r9 : wr.cell? ⟨g2, i * 12 + 9, none⟩ = some (.int .i64 h.head.sn)) (r10 : wr.cell? ⟨g2, i * 12 + 10, none⟩ = some (.slice had2 h.head.list.length hcap2))
    (q0 : wr.cell? ⟨g, j * 12, none⟩ = some (.int .i64 h.seg)) (q1 : wr.cell? ⟨g, j * 12 + 1, none⟩ = some (.int .i64 h.pos)) (q2 : wr.cell? ⟨g, j * 12 + 2, none⟩ = some (.int .i64 h.head.house)) (q3 : wr.cell? ⟨g, j * 12 + 3, none⟩ = some (.int .i64 h.head.gen)) (q4 : wr.cell? ⟨g, j * 12 + 4, none⟩ = some (.int .i64 h.head.life)) (q5 : wr.cell? ⟨g, j * 12 + 5, none⟩ = some (.int .i64 h.head.seq)) (q6 : wr.cell? ⟨g, j * 12 + 6, none⟩ = some (.int .i64 h.head.next)) (q7 : wr.cell? ⟨g, j * 12 + 7, none⟩ = some (.int .i64 h.head.clock)) (q8 : wr.cell? ⟨g, j * 12 + 8, none⟩ = some (.int .i64 h.head.sb)) (q9 : wr.cell? ⟨g, j * 12 + 9, none⟩ = some (.int .i64 h.head.sn)) (q10 : wr.cell? ⟨g, j * 12 + 10, none⟩ = some (.slice had h.head.list.length hcap))
    (SAM : Hid (∀ w1 : World, Below wr.heap.size wr w1 → Calls Try.prog 16 #[.agg #[.int .i64 h.head.house, .int .i64 h.head.gen, .int .i64 h.head.life, .int .i64 h.head.seq, .int .i64 h.head.next, .int .i64 h.head.clock, .int .i64 h.head.sb, .int .i64 h.head.sn, .slice had2 h.head.list.length hcap2], .agg #[.int .i64 h.head.house, .int .i64 h.head.gen, .int .i64 h.head.life, .int .i64 h.head.seq, .int .i64 h.head.next, .int .i64 h.head.clock, .int .i64 h.head.sb, .int .i64 h.head.sn, .slice had h.head.list.length hcap]] w1 fun e w' => e = .returned (.bool true) ∧ Below w1.heap.size w1 w'))
    (HQ : Hid (∀ u100 u101 u102 u103 u104 u105 u106 u107 u108 u109 u110 u111 u112 u113 u114 u115 u116 u117 u118 u119 u120 u121 u122 u123 u124 u125 u126 u127 u128 u129 u130 u131 u132 u133 u134 u135 u136 u137 u138 u139 u140 u141 u142 u143 u144 u145 u146 u147 u148 u149 u150 u151 u152 w', Below wr.heap.size wr w' → Q .normal ⟨List.toArray (c0 :: c1 :: c2 :: c3 :: c4 :: c5 :: c6 :: .slice (some ⟨g, 0, none⟩) m lcap :: c8 :: .int .i64 (k : Int) :: c10 :: .slice (some ⟨g2, 0, none⟩) n lcap2 :: c12 :: .int .i64 ((i + 1 : Nat) : Int) :: c14 :: c15 :: c16 :: c17 :: c18 :: c19 :: c20 :: c21 :: c22 :: c23 :: c24 :: c25 :: c26 :: c27 :: c28 :: c29 :: c30 :: c31 :: c32 :: c33 :: c34 :: c35 :: c36 :: c37 :: c38 :: c39 :: c40 :: c41 :: c42 :: c43 :: c44 :: c45 :: c46 :: c47 :: c48 :: c49 :: c50 :: c51 :: c52 :: c53 :: c54 :: c55 :: c56 :: c57 :: c58 :: c59 :: c60 :: c61 :: c62 :: c63 :: c64 :: c65 :: c66 :: c67 :: c68 :: c69 :: c70 :: c71 :: c72 :: c73 :: c74 :: c75 :: c76 :: c77 :: c78 :: c79 :: c80 :: c81 :: c82 :: c83 :: c84 :: c85 :: c86 :: c87 :: c88 :: c89 :: c90 :: c91 :: c92 :: c93 :: c94 :: c95 :: c96 :: c97 :: c98 :: c99 :: u100 :: u101 :: u102 :: u103 :: u104 :: u105 :: u106 :: u107 :: u108 :: u109 :: u110 :: u111 :: u112 :: u113 :: u114 :: u115 :: u116 :: u117 :: u118 :: u119 :: u120 :: u121 :: u122 :: u123 :: u124 :: u125 :: u126 :: u127 :: u128 :: u129 :: u130 :: u131 :: u132 :: u133 :: u134 :: u135 :: u136 :: u137 :: u138 :: u139 :: u140 :: u141 :: u142 :: u143 :: u144 :: u145 :: u146 :: u147 :: u148 :: u149 :: u150 :: u151 :: u152 :: c153 :: []), []⟩ w')) :
    Code.wp Try.prog againBody Q ⟨List.toArray (c0 :: c1 :: c2 :: c3 :: c4 :: c5 :: c6 :: .slice (some ⟨g, 0, none⟩) m lcap :: c8 :: .int .i64 (k : Int) :: c10 :: .slice (some ⟨g2, 0, none⟩) n lcap2 :: c12 :: .int .i64 (i : Int) :: c14 :: c15 :: c16 :: c17 :: c18 :: c19 :: c20 :: c21 :: c22 :: c23 :: c24 :: c25 :: c26 :: c27 :: c28 :: c29 :: c30 :: c31 :: c32 :: c33 :: c34 :: c35 :: c36 :: c37 :: c38 :: c39 :: c40 :: c41 :: c42 :: c43 :: c44 :: c45 :: c46 :: c47 :: c48 :: c49 :: c50 :: c51 :: c52 :: c53 :: c54 :: c55 :: c56 :: c57 :: c58 :: c59 :: c60 :: c61 :: c62 :: c63 :: c64 :: c65 :: c66 :: c67 :: c68 :: c69 :: c70 :: c71 :: c72 :: c73 :: c74 :: c75 :: c76 :: c77 :: c78 :: c79 :: c80 :: c81 :: c82 :: c83 :: c84 :: c85 :: c86 :: c87 :: c88 :: c89 :: c90 :: c91 :: c92 :: c93 :: c94 :: c95 :: c96 :: c97 :: c98 :: c99 :: c100 :: c101 :: c102 :: c103 :: c104 :: c105 :: c106 :: c107 :: c108 :: c109 :: c110 :: c111 :: c112 :: c113 :: c114 :: c115 :: c116 :: c117 :: c118 :: c119 :: c120 :: c121 :: c122 :: c123 :: c124 :: c125 :: c126 :: c127 :: c128 :: c129 :: c130 :: c131 :: c132 :: c133 :: c134 :: c135 :: c136 :: c137 :: c138 :: c139 :: c140 :: c141 :: c142 :: c143 :: c144 :: c145 :: c146 :: c147 :: c148 :: c149 :: c150 :: c151 :: c152 :: c153 :: []), []⟩ wr := by
  conv => arg 2; whnf
  go_wp2_with fail
  go_region_held3 (fun w' => w'.cell? ⟨g2, i * 12, none⟩ = some (.int .i64 h.seg) ∧ w'.cell? ⟨g2, i * 12 + 1, none⟩ = some (.int .i64 h.pos) ∧ w'.cell? ⟨g2, i * 12 + 2, none⟩ = some (.int .i64 h.head.house) ∧ w'.cell? ⟨g2, i * 12 + 3, none⟩ = some (.int .i64 h.head.gen) ∧ w'.cell? ⟨g2, i * 12 + 4, none⟩ = some (.int .i64 h.head.life) ∧ w'.cell? ⟨g2, i * 12 + 5, none⟩ = some (.int .i64 h.head.seq) ∧ w'.cell? ⟨g2, i * 12 + 6, none⟩ = some (.int .i64 h.head.next) ∧ w'.cell? ⟨g2, i * 12 + 7, none⟩ = some (.int .i64 h.head.clock) ∧ w'.cell? ⟨g2, i * 12 + 8, none⟩ = some (.int .i64 h.head.sb) ∧ w'.cell? ⟨g2, i * 12 + 9, none⟩ = some (.int .i64 h.head.sn) ∧ w'.cell? ⟨g2, i * 12 + 10, none⟩ = some (.slice had2 h.head.list.length hcap2) ∧ w'.cell? ⟨g, j * 12, none⟩ = some (.int .i64 h.seg) ∧ w'.cell? ⟨g, j * 12 + 1, none⟩ = some (.int .i64 h.pos) ∧ w'.cell? ⟨g, j * 12 + 2, none⟩ = some (.int .i64 h.head.house) ∧ w'.cell? ⟨g, j * 12 + 3, none⟩ = some (.int .i64 h.head.gen) ∧ w'.cell? ⟨g, j * 12 + 4, none⟩ = some (.int .i64 h.head.life) ∧ w'.cell? ⟨g, j * 12 + 5, none⟩ = some (.int .i64 h.head.seq) ∧ w'.cell? ⟨g, j * 12 + 6, none⟩ = some (.int .i64 h.head.next) ∧ w'.cell? ⟨g, j * 12 + 7, none⟩ = some (.int .i64 h.head.clock) ∧ w'.cell? ⟨g, j * 12 + 8, none⟩ = some (.int .i64 h.head.sb) ∧ w'.cell? ⟨g, j * 12 + 9, none⟩ = some (.int .i64 h.head.sn) ∧ w'.cell? ⟨g, j * 12 + 10, none⟩ = some (.slice had h.head.list.length hcap)) (go_keep)
  (first
      | (go_at_call 16
         refine (SAM.out _ (by first | exact Below.refl _ _ | exact ro_drew (Below.refl _ _))).mono ?_
         rintro e y ⟨rfl, hbk⟩
         have HBK : Hid (Below wr.heap.size wr y) := by first | exact under_drew hbk | exact hbk
         have r0 := cell_keep r0 HBK.out
         have r1 := cell_keep r1 HBK.out
         have r2 := cell_keep r2 HBK.out
         have r3 := cell_keep r3 HBK.out
         have r4 := cell_keep r4 HBK.out
         have r5 := cell_keep r5 HBK.out
         have r6 := cell_keep r6 HBK.out
         have r7 := cell_keep r7 HBK.out
         have r8 := cell_keep r8 HBK.out
         have r9 := cell_keep r9 HBK.out
         have r10 := cell_keep r10 HBK.out
         have q0 := cell_keep q0 HBK.out
         have q1 := cell_keep q1 HBK.out
         have q2 := cell_keep q2 HBK.out
         have q3 := cell_keep q3 HBK.out
         have q4 := cell_keep q4 HBK.out
         have q5 := cell_keep q5 HBK.out
         have q6 := cell_keep q6 HBK.out
         have q7 := cell_keep q7 HBK.out
         have q8 := cell_keep q8 HBK.out
         have q9 := cell_keep q9 HBK.out
         have q10 := cell_keep q10 HBK.out
         clear hbk))
  all_goals
    go_wp2_with fail
    exact HQ.out _ _ _ _ _ _ _ _ _ _ _ _ _ _ _ _ _ _ _ _ _ _ _ _ _ _ _ _ _ _ _ _ _ _ _ _ _ _ _ _ _ _ _ _ _ _ _ _ _ _ _ _ _ _ HBK.out
end Go.Proofs.Ytaiebhkjkeadoaa
