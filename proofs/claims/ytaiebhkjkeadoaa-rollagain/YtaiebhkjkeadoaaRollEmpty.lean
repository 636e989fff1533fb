/- RollEmpty walked: segments that are none of the house's. -/
import Derived.Test.YtaiebhkjkeadoaaRollOthers
import Derived.Deep.DeepCutAuto
namespace Go.Proofs.Ytaiebhkjkeadoaa
open Go.RowKit Lo Hdp Chk Rec Rol

/-- Behind a call of Forward: the place's block, another block as it was. -/
structure Rg (X : World) (t9 : Nat) (o9 : Obj) (G : Nat) (M : Lg) (wc : World) : Prop where
  row : wc.heap[G]? = some (.cells (plC M) 29 (0, 0))
  old : wc.heap[t9]? = some o9
  below : Below X.heap.size X wc
theorem rg_pre {X y : World} {G t9 : Nat} {o9 : Obj} {C : Array Value} (M : Lg) (hC : C.size = 13) (hz : y.heap[G]? = some (.cells C 29 (0, 0))) (hy : Below X.heap.size X y) (h9 : X.heap[t9]? = some o9) (hG : X.heap.size ≤ G) : Rg X t9 o9 G M (set13 y G (.int .i64 M.num) (.int .i64 M.life) (.int .i64 M.clock) (.int .i64 M.seg) (.int .i64 M.pos) (.int .i64 M.next) (.int .i64 M.seq) (.int .i64 M.m0) (.int .i64 M.m1) (.int .i64 M.m2) (.int .i64 M.m3) (.int .i64 M.sb) (.int .i64 M.sn)) := by
  have hlt := (Array.getElem?_eq_some_iff.1 h9).1
  exact ⟨set13_row hC hz _ _ _ _ _ _ _ _ _ _ _ _ _, (set13_other (by omega) _ _ _ _ _ _ _ _ _ _ _ _ _).trans (row_on h9 hy), set13_below hy hG _ _ _ _ _ _ _ _ _ _ _ _ _⟩
theorem rg_post {X y : World} {t9 : Nat} {o9 : Obj} (M : Lg) (hy : Below X.heap.size X y) (h9 : X.heap[t9]? = some o9) : Rg X t9 o9 y.heap.size M (y.alloc (.cells (plC M) 29)) :=
  ⟨heap_alloc_new _ _, row_on (row_on h9 hy) ((Below.refl _ _).alloc (Nat.le_refl _) _), hy.alloc hy.size _⟩
theorem inS_far {n : Nat} {segs : List Int} {seg : Int} (h : (n : Int) ≤ seg) : inS n segs seg = false := by
  unfold inS
  rw [decide_eq_false (by omega : ¬ seg < (n : Int)), Bool.and_false, Bool.and_false]
theorem below_pre0 {w0 y1 : World} {o : Obj} (qb : Below (w0.alloc o).heap.size (w0.alloc o) y1) : Below w0.heap.size w0 y1 := by
  have h1 : Below w0.heap.size w0 (w0.alloc o) := (Below.refl _ _).alloc (Nat.le_refl _) o
  exact h1.trans (qb.mono h1.size)

set_option maxRecDepth 20000 in
set_option maxHeartbeats 8000000 in
theorem rollEmpty_few (v : Value) (l : List Int) (seg at_ : Int) (w : World) (hI : Ints w v l) (hl : l.length ≤ 30) :
    Calls Try.prog 6 #[v, .int .i64 seg, .int .i64 at_] w fun e w' => e = .returned (.bool true) ∧ Below w.heap.size w w' := by
  have NW := rfhid (new_t304 w)
  have GE := rfhid geom_t304
  have SG := rfhid segs8_t
  have SL := rfhid (fun (w1 : World) => slot0_t 2 w1)
  obtain ⟨s, hs, hs2⟩ : ∃ s : Nat, seg % 1000 = (s : Int) ∧ s < 1000 := ⟨(seg % 1000).toNat, by omega, by omega⟩
  obtain ⟨a, ha, ha2⟩ : ∃ a : Nat, at_ % 40 = (a : Int) ∧ a < 40 := ⟨(at_ % 40).toNat, by omega, by omega⟩
  have PLs := rfhid (fun (w1 : World) => gplace_t seg 1000 w1 (by decide) (by decide))
  have PLa := rfhid (fun (w1 : World) => gplace_t at_ 40 w1 (by decide) (by decide))
  rw [hs] at PLs
  rw [ha] at PLa
  clear hs ha
  have AW := rfhid awake_t15
  have FL := rfhid (fun (b gd : Nat) (V : Nat → Value) (u : World) (hD : Disk u b (St.new 304) gd V) (hb : Below w.heap.size w u) (hf : ∀ k, foot b gd V k → w.heap.size ≤ k) => fill_t b gd V v l u hD (hI.on hb) (away_in hI (Nat.le_refl _) hf) (by omega))
  obtain ⟨vad, vcap, rfl, -⟩ := hI
  go_enter Try.func6, Try.ntmps6
  go_wp2_with fail
  refine NW.out.mono ?_
  rintro e w1 ⟨b, gd, V, rfl, hD1, hb1, hf1⟩
  have HB1 := rfhid hb1
  have HF1 := rfhid hf1
  have FL1 := rfhid (FL.out b gd V w1 hD1 hb1 hf1)
  clear hD1 hb1 hf1 NW FL
  go_wp2_with fail
  refine FL1.out.mono ?_
  rintro e w2 ⟨mv, cs, S, V2, L, rfl, hmo, -, hD2, hfil, hst, hcl, -, -⟩
  obtain ⟨mad, mcap, rfl⟩ := hmo.slice
  have hlen : (lens cs).length = cs.length := by simp [lens]
  rw [hlen]
  have HD2 := rfhid hD2
  have HB2 : Hid (Below w.heap.size w w2) := hst.under HB1.out HF1.out (Nat.le_refl _)
  obtain ⟨L', hL1, hL2⟩ := hfil.from0 (M := ⟨3, 7, 1, 2, 0, (8 + (s : Int)), (a : Int), 0, 5, 0, 0, 0, 0, 0, 0, []⟩) (by show (8 : Int) ≤ 8 + (s : Int); omega) rfl (fun f => rfl) ⟨rfl, rfl, rfl, rfl⟩
  have HR1 := rfhid hL1
  have HR2 : Hid (Rolls S.read 8 (seqL 0 8) ⟨3, 7, 1, 2, 0, (8 + (s : Int)), (a : Int), (9 + (s : Int)), 5, 0, 0, 0, 0, 0, 0, []⟩ [] ⟨3, 7, 1, 2, 0, (8 + (s : Int)), (a : Int), (9 + (s : Int)), 5, 0, 0, 0, 0, 0, 0, []⟩) := by
    exact .done (nxt_none (atB_none (atT_no (.inr (inS_far (by show (8 : Int) ≤ 8 + (s : Int); omega))))) (atB_none (atT_no (.inr (inS_far (by show (8 : Int) ≤ 9 + (s : Int); omega))))))
  have HR3 : Hid (Rolls S.read 8 [] lgB [] lgB) := hfil.nosegs
  have HSN := rfhid hfil.n
  have HSD := rfhid hfil.down
  have hcl30 : cs.length ≤ 30 := by omega
  obtain ⟨k, hk⟩ : ∃ k, cs.length = k := ⟨_, rfl⟩
  rw [hk] at hL2 hcl30 ⊢
  have HK := rfhid hk
  clear hmo hD2 hfil hst FL1 HB1 HF1 hlen hL1 hcl hk
  go_wp2_with fail
  refine (SL.out _).mono ?_
  rintro e w3 ⟨rfl, hb3⟩
  have HB3 := rfhid hb3
  clear hb3
  go_wp2_with fail
  generalize hW : World.alloc w3 _ = W
  have hr5 : W.heap[w3.heap.size]? = some (.cells #[.int .i64 1, .int .i64 2, .int .i64 0, .int .i64 0, .int .i64 0, .int .i64 1, .int .i64 5, .int .i64 0, .int .i64 0, .int .i64 0, .int .i64 0, .int .i64 0, .int .i64 0] 29 (0, 0)) := by rw [← hW]; exact heap_alloc_new _ _
  have hb5 : Below w3.heap.size w3 W := by rw [← hW]; exact (Below.refl _ _).alloc (Nat.le_refl _) _
  have HB5 : Hid (Below w2.heap.size w2 W) := HB3.out.trans (hb5.mono HB3.out.size)
  have hs4 : w2.heap.size ≤ w3.heap.size := HB3.out.size
  have hs5 : w3.heap.size < W.heap.size := (Array.getElem?_eq_some_iff.1 hr5).1
  clear hW hb5 HB3
  refine (PLs.out _).mono ?_
  rintro e wq ⟨rfl, rfl⟩
  go_wp2_with fail
  refine (PLa.out _).mono ?_
  rintro e wq ⟨rfl, rfl⟩
  clear PLa
  obtain ⟨p0, p1, p2, p3, p4, p5, p6, p7, p8, p9, p10, p11, p12⟩ := cells13 hr5
  obtain ⟨f0, f1, f2, f3, f4, f5, f6, f7, f8, f9, f10, f11, f12⟩ := frozen13 hr5
  have HR5 := rfhid hr5
  clear hr5
  go_wp2_with fail
  generalize hX : World.setCell (World.setCell (World.setCell W _ _) _ _) _ _ = X
  have hr6 : X.heap[w3.heap.size]? = some (.cells #[.int .i64 1, .int .i64 2, .int .i64 0, .int .i64 (8 + (s : Int)), .int .i64 (a : Int), .int .i64 0, .int .i64 5, .int .i64 0, .int .i64 0, .int .i64 0, .int .i64 0, .int .i64 0, .int .i64 0] 29 (0, 0)) := by
    rw [← hX]
    exact heap_setCell_same _ w3.heap.size 5 _ _ _ (heap_setCell_same _ w3.heap.size 4 _ _ _ (heap_setCell_same W w3.heap.size 3 _ _ _ HR5.out))
  have hb6 : Below w3.heap.size W X := by
    rw [← hX]
    exact ((((Below.refl w3.heap.size W).setCell (p := ⟨w3.heap.size, 3, none⟩) (Nat.le_refl _) _).setCell (p := ⟨w3.heap.size, 4, none⟩) (Nat.le_refl _) _).setCell (p := ⟨w3.heap.size, 5, none⟩) (Nat.le_refl _) _)
  have HB6 : Hid (Below w2.heap.size w2 X) := HB5.out.trans (hb6.mono hs4)
  have hs6 : w3.heap.size < X.heap.size := (Array.getElem?_eq_some_iff.1 hr6).1
  have HR9 := rfhid hr6
  clear hX hb6 hr6 HB5 HR5 p0 p1 p2 p3 p4 p5 p6 p7 p8 p9 p10 p11 p12 f0 f1 f2 f3 f4 f5 f6 f7 f8 f9 f10 f11 f12
  have FW := rfhid (fun (w8 : World) (v8 : Value) (hI : Ints w8 v8 (seqL 0 8)) (hb : Below X.heap.size X w8) => (fw_t b gd S V2 ⟨3, 7, 1, 2, 0, (8 + (s : Int)), (a : Int), 0, 5, 0, 0, 0, 0, 0, 0, []⟩ L' v8 (seqL 0 8) cs w8 hI (by decide) (HD2.out.below (HB6.out.trans (hb.mono HB6.out.size))) HSN.out HSD.out HR1.out (by have := HK.out; omega)).mono fun e w' ⟨ad, cap, Lv, he, _, _, hb2⟩ => fw_got he hb hb2)
  rw [HK.out] at FW
  obtain ⟨xhouse, xgen, xnum, xlife, xclock, xseg, xpos, xnext, xseq, xm0, xm1, xm2, xm3, xsb, xsn, xfl⟩ := L'
  dsimp only at hL2
  subst hL2
  go_cut [10, 11] (fun l t wc => ∃ lad lcap G, l = .slice lad k lcap ∧ t = .pointer (some ⟨G, 0, none⟩) ∧ Hid (Rg X w3.heap.size (.cells #[.int .i64 1, .int .i64 2, .int .i64 0, .int .i64 (8 + (s : Int)), .int .i64 (a : Int), .int .i64 0, .int .i64 5, .int .i64 0, .int .i64 0, .int .i64 0, .int .i64 0, .int .i64 0, .int .i64 0] 29 (0, 0)) G ⟨xhouse, xgen, xnum, xlife, xclock, xseg, xpos, xnext, 5 + (k : Int), xm0, xm1, xm2, xm3, xsb, xsn, xfl⟩ wc))
  case first =>
    obtain ⟨p0, p1, p2, p3, p4, p5, p6, p7, p8, p9, p10, p11, p12⟩ := cells13 HR9.out
    have hne1 : X.heap.size ≠ w3.heap.size := by omega
    have hne2 : w3.heap.size ≠ X.heap.size := by omega
    have hz : True := trivial
    go_region_held3 (fun w' => w'.cell? ⟨w3.heap.size, 0, none⟩ = some (.int .i64 1) ∧ w'.cell? ⟨w3.heap.size, 1, none⟩ = some (.int .i64 2) ∧ w'.cell? ⟨w3.heap.size, 2, none⟩ = some (.int .i64 0) ∧ w'.cell? ⟨w3.heap.size, 3, none⟩ = some (.int .i64 (8 + (s : Int))) ∧ w'.cell? ⟨w3.heap.size, 4, none⟩ = some (.int .i64 (a : Int)) ∧ w'.cell? ⟨w3.heap.size, 5, none⟩ = some (.int .i64 0) ∧ w'.cell? ⟨w3.heap.size, 6, none⟩ = some (.int .i64 5) ∧ w'.cell? ⟨w3.heap.size, 7, none⟩ = some (.int .i64 0) ∧ w'.cell? ⟨w3.heap.size, 8, none⟩ = some (.int .i64 0) ∧ w'.cell? ⟨w3.heap.size, 9, none⟩ = some (.int .i64 0) ∧ w'.cell? ⟨w3.heap.size, 10, none⟩ = some (.int .i64 0) ∧ w'.cell? ⟨w3.heap.size, 11, none⟩ = some (.int .i64 0) ∧ w'.cell? ⟨w3.heap.size, 12, none⟩ = some (.int .i64 0)) (go_keep)
    (first
      | (go_at_call 14
         refine (GE.out _).mono ?_
         rintro e yX0 ⟨rfl, hy⟩
         have HY0 : Hid (Below X.heap.size X yX0) := by first | exact under_drew hy | exact below_pre hy | exact below_pre0 hy | exact hy
         (first | (have hz := zrow_pre hy) | (have hz := zrow_pre0 hy) | (have hz := row_on hz hy) | skip)
         obtain ⟨p0, p1, p2, p3, p4, p5, p6, p7, p8, p9, p10, p11, p12⟩ := cells13 (row_on HR9.out HY0.out)
         have hna0 : yX0.heap.size ≠ w3.heap.size := by have h8 := HY0.out.size; omega
         have hnb0 : w3.heap.size ≠ yX0.heap.size := by omega
         clear hy)
      | (go_at_call 11
         refine (SG.out _).mono ?_
         rintro e yX1 ⟨sad, rfl, hIy, hy⟩
         have HIy := rfhid hIy
         have HY1 : Hid (Below X.heap.size X yX1) := HY0.out.trans (Below.mono (by first | exact hy | exact below_pre0 hy) HY0.out.size)
         (first | (have hz := zrow_pre hy) | (have hz := zrow_pre0 hy) | (have hz := row_on hz hy) | skip)
         obtain ⟨p0, p1, p2, p3, p4, p5, p6, p7, p8, p9, p10, p11, p12⟩ := cells13 (row_on HR9.out HY1.out)
         have hna1 : yX1.heap.size ≠ w3.heap.size := by have h8 := HY1.out.size; omega
         have hnb1 : w3.heap.size ≠ yX1.heap.size := by omega
         clear hy hIy)
      | (go_at_call 13
         refine (FW.out _ _ (by first | exact HIy.out | exact HIy.out.on ((Below.refl _ _).alloc (Nat.le_refl _) _)) (by first | exact HY1.out | exact HY1.out.alloc HY1.out.size _)).mono ?_
         rintro e yX2 ⟨lad, lcap, rfl, HYF, hy⟩
         (first | (have hz := zrow_pre0 hy) | (have hz := row_on hz hy) | skip)
         (first
           | (have hzz := cells13 hz
              obtain ⟨z0, z1, z2, z3, z4, z5, z6, z7, z8, z9, z10, z11, z12⟩ := hzz
              have hff := frozen13 hz
              obtain ⟨f0, f1, f2, f3, f4, f5, f6, f7, f8, f9, f10, f11, f12⟩ := hff)
           | skip)
         obtain ⟨p0, p1, p2, p3, p4, p5, p6, p7, p8, p9, p10, p11, p12⟩ := cells13 (row_on HR9.out HYF.out)))
    all_goals
      go_wp2_with fail
      go_meet
      case rel =>
        first
          | (refine ⟨_, _, _, rfl, rfl, ?_⟩
             rw [set13_is]
             exact rg_pre ⟨xhouse, xgen, xnum, xlife, xclock, xseg, xpos, xnext, 5 + (k : Int), xm0, xm1, xm2, xm3, xsb, xsn, xfl⟩ rfl hz HYF.out HR9.out (by first | exact Nat.le_refl _ | exact HY0.out.size | exact HY1.out.size ))
          | exact ⟨_, _, _, rfl, rfl, rg_post ⟨xhouse, xgen, xnum, xlife, xclock, xseg, xpos, xnext, 5 + (k : Int), xm0, xm1, xm2, xm3, xsb, xsn, xfl⟩ HYF.out HR9.out⟩
  case rest =>
    obtain ⟨lad, lcap, G, rfl, rfl, HG⟩ := hcut
    clear FW HR1 HR9
    obtain ⟨z0, z1, z2, z3, z4, z5, z6, z7, z8, z9, z10, z11, z12⟩ := cells13 HG.out.row
    have hr9 := HG.out.old
    have d5 : wc.cell? ⟨w3.heap.size, 5, none⟩ = some (.int .i64 0) := (cell_of_row _ _ _ _ _ _ hr9).trans rfl
    have e5 := frozen_of_row wc w3.heap.size 5 _ _ hr9
    have HBc : Hid (Below w2.heap.size w2 wc) := HB6.out.trans (HG.out.below.mono HB6.out.size)
    go_wp2_with fail
    refine (PLs.out _).mono ?_
    rintro e wq ⟨rfl, rfl⟩
    go_wp2_with fail
    generalize hY : World.setCell wc _ _ = Y
    have hr10 : Y.heap[w3.heap.size]? = some (.cells #[.int .i64 1, .int .i64 2, .int .i64 0, .int .i64 (8 + (s : Int)), .int .i64 (a : Int), .int .i64 (9 + (s : Int)), .int .i64 5, .int .i64 0, .int .i64 0, .int .i64 0, .int .i64 0, .int .i64 0, .int .i64 0] 29 (0, 0)) := by
      rw [← hY]
      exact heap_setCell_same _ w3.heap.size 5 _ _ _ hr9
    have HB7 : Hid (Below w2.heap.size w2 Y) := by
      rw [← hY]
      exact HBc.out.setCell (p := ⟨w3.heap.size, 5, none⟩) hs4 _
    have hs7 : w3.heap.size < Y.heap.size := (Array.getElem?_eq_some_iff.1 hr10).1
    have HR9 := rfhid hr10
    clear hY hr10 hr9 d5 e5 HG HBc HB6 z0 z1 z2 z3 z4 z5 z6 z7 z8 z9 z10 z11 z12
    have FW2 := rfhid (fun (w8 : World) (v8 : Value) (hI : Ints w8 v8 (seqL 0 8)) (hb : Below Y.heap.size Y w8) => (fw_t b gd S V2 ⟨3, 7, 1, 2, 0, (8 + (s : Int)), (a : Int), (9 + (s : Int)), 5, 0, 0, 0, 0, 0, 0, []⟩ ⟨3, 7, 1, 2, 0, (8 + (s : Int)), (a : Int), (9 + (s : Int)), 5, 0, 0, 0, 0, 0, 0, []⟩ v8 (seqL 0 8) [] w8 hI (by decide) (HD2.out.below (HB7.out.trans (hb.mono HB7.out.size))) HSN.out HSD.out HR2.out (by decide)).mono fun e w' ⟨ad, cap, Lv, he, _, _, hb2⟩ => fw_got he hb hb2)
    go_cut [12, 13] (fun l t wc => ∃ lad lcap G, l = .slice lad 0 lcap ∧ t = .pointer (some ⟨G, 0, none⟩) ∧ Hid (Rg Y w3.heap.size (.cells #[.int .i64 1, .int .i64 2, .int .i64 0, .int .i64 (8 + (s : Int)), .int .i64 (a : Int), .int .i64 (9 + (s : Int)), .int .i64 5, .int .i64 0, .int .i64 0, .int .i64 0, .int .i64 0, .int .i64 0, .int .i64 0] 29 (0, 0)) G ⟨3, 7, 1, 2, 0, (8 + (s : Int)), (a : Int), (9 + (s : Int)), 5, 0, 0, 0, 0, 0, 0, []⟩ wc))
    case first =>
      obtain ⟨p0, p1, p2, p3, p4, p5, p6, p7, p8, p9, p10, p11, p12⟩ := cells13 HR9.out
      have hne1 : Y.heap.size ≠ w3.heap.size := by omega
      have hne2 : w3.heap.size ≠ Y.heap.size := by omega
      have hz : True := trivial
      go_region_held3 (fun w' => w'.cell? ⟨w3.heap.size, 0, none⟩ = some (.int .i64 1) ∧ w'.cell? ⟨w3.heap.size, 1, none⟩ = some (.int .i64 2) ∧ w'.cell? ⟨w3.heap.size, 2, none⟩ = some (.int .i64 0) ∧ w'.cell? ⟨w3.heap.size, 3, none⟩ = some (.int .i64 (8 + (s : Int))) ∧ w'.cell? ⟨w3.heap.size, 4, none⟩ = some (.int .i64 (a : Int)) ∧ w'.cell? ⟨w3.heap.size, 5, none⟩ = some (.int .i64 (9 + (s : Int))) ∧ w'.cell? ⟨w3.heap.size, 6, none⟩ = some (.int .i64 5) ∧ w'.cell? ⟨w3.heap.size, 7, none⟩ = some (.int .i64 0) ∧ w'.cell? ⟨w3.heap.size, 8, none⟩ = some (.int .i64 0) ∧ w'.cell? ⟨w3.heap.size, 9, none⟩ = some (.int .i64 0) ∧ w'.cell? ⟨w3.heap.size, 10, none⟩ = some (.int .i64 0) ∧ w'.cell? ⟨w3.heap.size, 11, none⟩ = some (.int .i64 0) ∧ w'.cell? ⟨w3.heap.size, 12, none⟩ = some (.int .i64 0)) (go_keep)
      (first
        | (go_at_call 14
           refine (GE.out _).mono ?_
           rintro e yY0 ⟨rfl, hy⟩
           have HY0 : Hid (Below Y.heap.size Y yY0) := by first | exact under_drew hy | exact below_pre hy | exact below_pre0 hy | exact hy
           (first | (have hz := zrow_pre hy) | (have hz := zrow_pre0 hy) | (have hz := row_on hz hy) | skip)
           obtain ⟨p0, p1, p2, p3, p4, p5, p6, p7, p8, p9, p10, p11, p12⟩ := cells13 (row_on HR9.out HY0.out)
           have hna0 : yY0.heap.size ≠ w3.heap.size := by have h8 := HY0.out.size; omega
           have hnb0 : w3.heap.size ≠ yY0.heap.size := by omega
           clear hy)
        | (go_at_call 11
           refine (SG.out _).mono ?_
           rintro e yY1 ⟨sad, rfl, hIy, hy⟩
           have HIy := rfhid hIy
           have HY1 : Hid (Below Y.heap.size Y yY1) := HY0.out.trans (Below.mono (by first | exact hy | exact below_pre0 hy) HY0.out.size)
           (first | (have hz := zrow_pre hy) | (have hz := zrow_pre0 hy) | (have hz := row_on hz hy) | skip)
           obtain ⟨p0, p1, p2, p3, p4, p5, p6, p7, p8, p9, p10, p11, p12⟩ := cells13 (row_on HR9.out HY1.out)
           have hna1 : yY1.heap.size ≠ w3.heap.size := by have h8 := HY1.out.size; omega
           have hnb1 : w3.heap.size ≠ yY1.heap.size := by omega
           clear hy hIy)
        | (go_at_call 13
           refine (FW2.out _ _ (by first | exact HIy.out | exact HIy.out.on ((Below.refl _ _).alloc (Nat.le_refl _) _)) (by first | exact HY1.out | exact HY1.out.alloc HY1.out.size _)).mono ?_
           rintro e yY2 ⟨lad, lcap, rfl, HYF, hy⟩
           (first | (have hz := zrow_pre0 hy) | (have hz := row_on hz hy) | skip)
           (first
             | (have hzz := cells13 hz
                obtain ⟨z0, z1, z2, z3, z4, z5, z6, z7, z8, z9, z10, z11, z12⟩ := hzz
                have hff := frozen13 hz
                obtain ⟨f0, f1, f2, f3, f4, f5, f6, f7, f8, f9, f10, f11, f12⟩ := hff)
             | skip)
           obtain ⟨p0, p1, p2, p3, p4, p5, p6, p7, p8, p9, p10, p11, p12⟩ := cells13 (row_on HR9.out HYF.out)))
      all_goals
        go_wp2_with fail
        go_meet
        case rel =>
          first
            | (refine ⟨_, _, _, rfl, rfl, ?_⟩
               rw [set13_is]
               exact rg_pre ⟨3, 7, 1, 2, 0, (8 + (s : Int)), (a : Int), (9 + (s : Int)), 5, 0, 0, 0, 0, 0, 0, []⟩ rfl hz HYF.out HR9.out (by first | exact Nat.le_refl _ | exact HY0.out.size | exact HY1.out.size ))
            | exact ⟨_, _, _, rfl, rfl, rg_post ⟨3, 7, 1, 2, 0, (8 + (s : Int)), (a : Int), (9 + (s : Int)), 5, 0, 0, 0, 0, 0, 0, []⟩ HYF.out HR9.out⟩
    case rest =>
      obtain ⟨lad2, lcap2, G2, rfl, rfl, HG2⟩ := hcut
      clear FW2 HR2 HR9 SG
      have HBg : Hid (Below w2.heap.size w2 wc) := HB7.out.trans (HG2.out.below.mono HB7.out.size)
      have HRg := rfhid HG2.out.row
      clear HG2 HB7
      go_wp2_with fail
      refine (GE.out _).mono ?_
      rintro e y1 ⟨rfl, hb⟩
      have HRh := rfhid (row_on HRg.out hb)
      have HBh : Hid (Below w2.heap.size w2 y1) := HBg.out.trans (hb.mono HBg.out.size)
      clear hb HBg HRg
      go_wp2_with fail
      refine (SL.out _).mono ?_
      rintro e y2 ⟨rfl, hb⟩
      have HRi := rfhid (row_on HRh.out hb)
      have HBi : Hid (Below w2.heap.size w2 y2) := HBh.out.trans (hb.mono HBh.out.size)
      clear hb HBh HRh
      go_wp2_with fail
      refine (fw_t b gd S V2 lgB lgB _ [] [] y2 ⟨none, 0, rfl, by decide, by decide, fun h => absurd h (by decide)⟩ (by decide) (HD2.out.below HBi.out) HSN.out HSD.out HR3.out (by decide)).mono ?_
      rintro e y3 ⟨lad3, lcap3, Lv, rfl, -, -, hb⟩
      have HRj := row_on HRi.out hb
      have HBj : Hid (Below w2.heap.size w2 y3) := HBi.out.trans (hb.mono HBi.out.size)
      clear hb HBi HRi
      have hgl : G2 < y3.heap.size := (Array.getElem?_eq_some_iff.1 HRj).1
      have hg1 : G2 ≠ y3.heap.size := by omega
      have hg2 : y3.heap.size ≠ G2 := by omega
      obtain ⟨z0, z1, z2, z3, z4, z5, z6, z7, z8, z9, z10, z11, z12⟩ := cells13 HRj
      clear HRj
      go_wp2_with fail
      generalize hQ : World.alloc y3 _ = Q
      have HBq : Hid (Below w.heap.size w Q) := by
        rw [← hQ]
        exact HB2.out.trans ((HBj.out.alloc HBj.out.size _).mono HB2.out.size)
      clear hQ
      refine (AW.out _).mono ?_
      rintro e y6 ⟨rfl, hb⟩
      have HZ6 : Hid (Below w.heap.size w y6) := HBq.out.trans (hb.mono HBq.out.size)
      clear hb HBq
      go_wp2_with fail
      go_ret
      exact ⟨rfl, HZ6.out⟩

set_option maxRecDepth 20000 in
set_option maxHeartbeats 4000000 in
theorem rollEmpty_many (v : Value) (l : List Int) (seg at_ : Int) (w : World) (hI : Ints w v l) (hl : 30 < l.length) (hl2 : l.length ≤ 9223372036854775807) :
    Calls Try.prog 6 #[v, .int .i64 seg, .int .i64 at_] w fun e w' => e = .returned (.bool true) ∧ Below w.heap.size w w' := by
  have AW := rfhid awake_t15
  obtain ⟨vad, vcap, rfl, -⟩ := hI
  go_enter Try.func6, Try.ntmps6
  go_wp2_with fail
  refine (AW.out _).mono ?_
  rintro e w1 ⟨rfl, hb⟩
  have HB := rfhid hb
  clear hb AW
  go_wp2_with fail
  go_ret
  exact ⟨rfl, HB.out⟩
theorem rollEmpty_t (v : Value) (l : List Int) (seg at_ : Int) (w : World) (hI : Ints w v l) (hl2 : l.length ≤ 9223372036854775807) :
    Calls Try.prog 6 #[v, .int .i64 seg, .int .i64 at_] w fun e w' => e = .returned (.bool true) ∧ Below w.heap.size w w' := by
  rcases Nat.lt_or_ge 30 l.length with h | h
  · exact rollEmpty_many v l seg at_ w hI h hl2
  · exact rollEmpty_few v l seg at_ w hI h
end Go.Proofs.Ytaiebhkjkeadoaa
