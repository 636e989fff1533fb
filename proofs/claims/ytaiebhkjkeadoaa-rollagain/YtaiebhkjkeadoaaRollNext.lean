/- The next chunk: next walked. -/
import Derived.Test.YtaiebhkjkeadoaaRollAt
import Derived.Test.YtaiebhkjkeadoaaRollSet
import Derived.Deep.RegionHeld3
namespace Go.Proofs.Ytaiebhkjkeadoaa
open Go.RowKit Lo Hdp Rol Chk

theorem ro_drew {B : Nat} {a w : World} (h : Below B a w) : Below B a w.drew := ⟨h.os, h.tape, h.output, h.size, h.block⟩
theorem zrow_pre {w0 y1 : World} {o : Obj} (qb : Below (w0.alloc o).drew.heap.size (w0.alloc o).drew y1) : y1.heap[w0.heap.size]? = some o :=
  (qb.block w0.heap.size (by show w0.heap.size < (w0.alloc o).heap.size; simp)).trans (heap_alloc_new w0 o)

/-- What next answers where there is one. -/
def NextYes (w w' : World) (f : Fnd) (e : Ending) : Prop := ∃ ad cap bad bcap, e = .returned (.tuple #[.agg (fdC f (.slice ad f.head.list.length cap) (.slice bad f.bl.length bcap)), .bool true]) ∧ Ents w' (.slice ad f.head.list.length cap) f.head.list ∧ VFar w.heap.size (.slice ad f.head.list.length cap) ∧ TOwn w' w.heap.size (.slice bad f.bl.length bcap) f.bl ∧ Below w.heap.size w w'
def NextNo (w w' : World) (e : Ending) : Prop := e = .returned (.tuple #[.agg (fdC fdZ (.slice none 0 0) (.slice none 0 0)), .bool false]) ∧ Below w.heap.size w w'

theorem at_got {w w1 w' : World} {wb : Nat} {C : Array Value} {t : TypeId} {f : Fnd} {hv bv : Value} {e : Ending} {c : Bool} (h : w.heap[wb]? = some (.cells C t (0, 0))) (hb : Below w.heap.size w w1) (he : e = .returned (.tuple #[.agg (fdC f hv bv), .bool c])) (hE : Ents w' hv f.head.list) (hF : VFar w1.heap.size hv) (hO : TOwn w' w1.heap.size bv f.bl) (hb2 : Below w1.heap.size w1 w') :
    ∃ ad cap bad bcap, e = .returned (.tuple #[.agg (fdC f (.slice ad f.head.list.length cap) (.slice bad f.bl.length bcap)), .bool c]) ∧ Hid (Ents w' (.slice ad f.head.list.length cap) f.head.list) ∧ Hid (VFar w1.heap.size (.slice ad f.head.list.length cap)) ∧ Hid (TOwn w' w1.heap.size (.slice bad f.bl.length bcap) f.bl) ∧ Hid (Below w.heap.size w w') ∧ w'.heap[wb]? = some (.cells C t (0, 0)) ∧ Below w1.heap.size w1 w' := by
  obtain ⟨bad, bcap, rfl⟩ := hO.slice
  have hE2 := hE
  obtain ⟨ad, cap, rfl, -, -⟩ := hE2
  exact ⟨ad, cap, bad, bcap, he, hE, hF, hO, hb.trans (hb2.mono hb.size), row_on (row_on h hb) hb2, hb2⟩
theorem at_none {w w1 w' : World} {wb : Nat} {C : Array Value} {t : TypeId} {e : Ending} (h : w.heap[wb]? = some (.cells C t (0, 0))) (hb : Below w.heap.size w w1) (he : e = .returned (.tuple #[.agg (fdC fdZ (.slice none 0 0) (.slice none 0 0)), .bool false])) (hb2 : Below w1.heap.size w1 w') :
    e = .returned (.tuple #[.agg (fdC fdZ (.slice none 0 0) (.slice none 0 0)), .bool false]) ∧ Hid (Below w.heap.size w w') ∧ w'.heap[wb]? = some (.cells C t (0, 0)) ∧ Below w1.heap.size w1 w' :=
  ⟨he, hb.trans (hb2.mono hb.size), row_on (row_on h hb) hb2, hb2⟩
theorem pre_ne {w0 : World} {o : Obj} {k : Nat} (h : (w0.alloc o).drew.heap.size ≤ k) : k ≠ w0.heap.size := by
  have e : (w0.alloc o).drew.heap.size = w0.heap.size + 1 := by show (w0.alloc o).heap.size = _; simp
  omega
theorem pre_far {w0 : World} {o : Obj} {k x : Nat} (h : (w0.alloc o).drew.heap.size ≤ k) (hx : x < w0.heap.size) : k ≠ x := by
  have e : (w0.alloc o).drew.heap.size = w0.heap.size + 1 := by show (w0.alloc o).heap.size = _; simp
  omega
theorem pre_low {w0 : World} {o : Obj} {x : Nat} (hx : x ≤ w0.heap.size) : x ≤ (w0.alloc o).drew.heap.size := by
  have e : (w0.alloc o).drew.heap.size = w0.heap.size + 1 := by show (w0.alloc o).heap.size = _; simp
  omega
theorem below_pre {w0 y1 : World} {o : Obj} (qb : Below (w0.alloc o).drew.heap.size (w0.alloc o).drew y1) : Below w0.heap.size w0 y1 := by
  have h1 : Below w0.heap.size w0 (w0.alloc o).drew := ro_drew ((Below.refl _ _).alloc (Nat.le_refl _) o)
  exact h1.trans (qb.mono h1.size)

set_option maxRecDepth 10000 in
set_option maxHeartbeats 4000000 in
theorem rnext_here (wb b gd n : Nat) (D : St) (V : Nat → Value) (L : Lg) (v : Value) (segs : List Int) (t : TypeId) (w : World) (h : w.heap[wb]? = some (.cells (wkC b (48 + 32 * (n : Int)) 32 L v) t (0, 0))) (hI : Ints w v segs) (hl : segs.length ≤ 100000)
    (hD : Disk w b D gd V) (hn : D.n = 48 + 32 * n) (hn2 : 8 ≤ n) (hn3 : n ≤ 100) (hup : D.down = false) (h0 : atB D.read n segs L L.seg L.pos = true) :
    Calls Try.prog 35 #[.pointer (some ⟨wb, 0, none⟩)] w fun e w' => NextYes w w' (fnd D.read n segs L.seg L.pos) e := by
  have hlt : wb < w.heap.size := (Array.getElem?_eq_some_iff.1 h).1
  have AT := rohid (fun (w1 : World) (hb : Below w.heap.size w w1) => (rat_yes wb b gd n D V L v segs L.seg L.pos t w1 (row_on h hb) (hI.on hb) hl (hD.below hb) hn hn2 hn3 hup h0).mono fun e w' ⟨hv, bv, he, hE, hF, hO, hb2⟩ => at_got h hb he hE hF hO hb2)
  have HR := rohid h
  clear h hI hD hn hup h0
  obtain ⟨f, hf⟩ : ∃ f, fnd D.read n segs L.seg L.pos = f := ⟨_, rfl⟩
  rw [hf] at AT ⊢
  clear hf
  obtain ⟨house, gen, num, life, clock, seg, pos, next, seq, m0, m1, m2, m3, sb, sn, fl⟩ := L
  dsimp only at AT
  go_enter Try.func35, Try.ntmps35
  go_wp2_with fail
  generalize hW : World.alloc w _ = w0
  have HX0 : Hid (w0.heap[w.heap.size]? = some (.cells (fdC fdZ (.slice none 0 0) (.slice none 0 0)) 46 (0, 0))) := by rw [← hW]; exact heap_alloc_new _ _
  have HB0 : Hid (Below w.heap.size w w0) := by rw [← hW]; exact (Below.refl _ w).alloc (Nat.le_refl _) _
  have hw0 : w.heap.size < w0.heap.size := by rw [← hW]; simp
  have hR0 := row_on HR.out HB0.out
  have c9 : w0.cell? ⟨wb, 9, none⟩ = some (.int .i64 seg) := (cell_of_row _ _ _ _ _ _ hR0).trans rfl
  have c10 : w0.cell? ⟨wb, 10, none⟩ = some (.int .i64 pos) := (cell_of_row _ _ _ _ _ _ hR0).trans rfl
  have hne1 : w0.heap.size ≠ wb := by omega
  have hne2 : wb ≠ w0.heap.size := by omega
  have HXB := rohid (fun (y : World) (h1 : Below w0.heap.size w0 y) => row_on HX0.out h1)
  clear hW hR0 HR HX0
  go_region_held3 (fun w' => w'.cell? ⟨wb, 9, none⟩ = some (.int .i64 seg) ∧ w'.cell? ⟨wb, 10, none⟩ = some (.int .i64 pos)) (go_keep)
    (first
      | (go_at_call 44
         refine (AT.out _ (by first | exact ro_drew HB0.out | exact HB0.out | exact ro_drew (HB0.out.alloc HB0.out.size _) | exact HB0.out.alloc HB0.out.size _)).mono ?_
         rintro e y1 ⟨ad, cap, bad, bcap, rfl, HE, HF, HO, HB1, hR1, qb⟩
         (first
           | (have hz := zrow_pre qb
              obtain ⟨z0, z1, z2, z3, z4, z5, z6, z7, z8, z9, z10, z11⟩ := cellsOf12 hz
              obtain ⟨f0, f1, f2, f3, f4, f5, f6, f7, f8, f9, f10, f11⟩ := frozenOf12 hz)
           | skip)
         have HQB := rohid qb
         have HR1 := rohid hR1
         have c9 : y1.cell? ⟨wb, 9, none⟩ = some (.int .i64 seg) := (cell_of_row _ _ _ _ _ _ hR1).trans rfl
         have c10 : y1.cell? ⟨wb, 10, none⟩ = some (.int .i64 pos) := (cell_of_row _ _ _ _ _ _ hR1).trans rfl
         clear qb hR1
         dsimp only [fdC, fdZ, Hd.z]))
  · generalize hZ : World.alloc y1 _ = Z
    have hyz : Below y1.heap.size y1 Z := by rw [← hZ]; exact (Below.refl _ _).alloc (Nat.le_refl _) _
    have FZ : Hid (Z.heap[y1.heap.size]? = some (.cells (fdC f (.slice ad f.head.list.length cap) (.slice bad f.bl.length bcap)) 46 (0, 0))) := by rw [← hZ]; exact heap_alloc_new _ _
    have hbw := HQB.out.size
    have XZ := rohid (row_on (HXB.out y1 ⟨HQB.out.os, HQB.out.tape, HQB.out.output, HQB.out.size, HQB.out.block⟩) hyz)
    have HEZ := rohid (HE.out.on hyz)
    have HOZ : Hid (TOwn Z w0.heap.size (.slice bad f.bl.length bcap) f.bl) := TOwn.low (TOwn.on HO.out hyz) (by first | exact Nat.le_refl _ | (show w0.heap.size ≤ w0.heap.size + 1; omega))
    have BZ : Hid (Below w.heap.size w Z) := HB1.out.trans (hyz.mono HB1.out.size)
    clear hZ hyz HE HO HB1 HR1 AT HXB
    go_wp2_with (first
      | (refine wpList_load_row rfl 46 (.tmp 4) rfl y1.heap.size rfl 46 (fdC f (.slice ad f.head.list.length cap) (.slice bad f.bl.length bcap)) (0, 0) _ FZ.out Try.underlying46 rfl Try.foundSize ?_)
      | (refine wpList_store_row rfl 46 (.tmp 2) (.tmp 22) rfl w.heap.size (fdC f (.slice ad f.head.list.length cap) (.slice bad f.bl.length bcap)) rfl rfl 46 _ XZ.out Try.foundSize rfl (fdC_one _ _ _ _ _ _ _) ?_)
      | fail)
    refine bodyPost_ret (v := .tuple #[.agg (fdC f (.slice ad f.head.list.length cap) (.slice bad f.bl.length bcap)), .bool true]) (results_ct_row Try.results35 _ _ w.heap.size 46 (fdC f (.slice ad f.head.list.length cap) (.slice bad f.bl.length bcap)) (0, 0) _ rfl (setRow_heap _ _ _ _ _ _ XZ.out) Try.underlying46 rfl Try.foundSize) rfl ⟨ad, cap, bad, bcap, rfl, ?_, ?_, ?_, ?_⟩
    · exact Ents.apart HEZ.out HF.out (by rw [setRow_size]; exact Nat.le_refl _) fun k h1 h2 => setRow_other _ _ _ _ (by first | omega | (have e0 : w0.drew.heap.size = w0.heap.size := rfl; omega))
    · exact HF.out.low (by first | omega | (have e0 : w0.drew.heap.size = w0.heap.size := rfl; omega))
    · exact TOwn.low (TOwn.apart HOZ.out fun k h1 h2 => setRow_other _ _ _ _ (by first | omega | (have e0 : w0.drew.heap.size = w0.heap.size := rfl; omega))) (by first | omega | (have e0 : w0.drew.heap.size = w0.heap.size := rfl; omega))
    · exact below_setRow BZ.out (Nat.le_refl _) _
  · rw [set12_is]
    generalize hZ : set12 y1 _ _ _ _ _ _ _ _ _ _ _ _ _ = Z
    have hsz : Z.heap.size = y1.heap.size := by rw [← hZ]; exact set12_size _ _ _ _ _ _ _ _ _ _ _ _ _ _
    have hyo : ∀ k, k ≠ w0.heap.size → Z.heap[k]? = y1.heap[k]? := fun k hk => by rw [← hZ]; exact set12_other hk _ _ _ _ _ _ _ _ _ _ _ _
    have FZ : Hid (Z.heap[w0.heap.size]? = some (.cells (fdC f (.slice ad f.head.list.length cap) (.slice bad f.bl.length bcap)) 46 (0, 0))) := by rw [← hZ]; exact set12_row rfl hz _ _ _ _ _ _ _ _ _ _ _ _
    have e1 : (w0.alloc (.cells (fdC fdZ (.slice none 0 0) (.slice none 0 0)) 46)).drew.heap.size = w0.heap.size + 1 := by show (w0.alloc _).heap.size = _; simp
    have XZ : Hid (Z.heap[w.heap.size]? = some (.cells (fdC fdZ (.slice none 0 0) (.slice none 0 0)) 46 (0, 0))) := (hyo _ (by omega)).trans (HXB.out y1 (below_pre HQB.out))
    have HEZ := rohid (Ents.apart HE.out HF.out (Nat.le_of_eq hsz.symm) fun k h1 _ => hyo k (pre_ne h1))
    have HOZ : Hid (TOwn Z (w0.heap.size + 1) (.slice bad f.bl.length bcap) f.bl) := TOwn.low (TOwn.apart HO.out fun k h1 _ => hyo k (pre_ne h1)) (by rw [← e1]; exact Nat.le_refl _)
    have BZ : Hid (Below w.heap.size w Z) := by rw [← hZ]; exact set12_below HB1.out (by omega) _ _ _ _ _ _ _ _ _ _ _ _
    clear hZ hyo HE HO HB1 HR1 AT HXB
    go_wp2_with (first
      | (refine wpList_load_row rfl 46 (.tmp 4) rfl w0.heap.size rfl 46 (fdC f (.slice ad f.head.list.length cap) (.slice bad f.bl.length bcap)) (0, 0) _ FZ.out Try.underlying46 rfl Try.foundSize ?_)
      | (refine wpList_store_row rfl 46 (.tmp 2) (.tmp 22) rfl w.heap.size (fdC f (.slice ad f.head.list.length cap) (.slice bad f.bl.length bcap)) rfl rfl 46 _ XZ.out Try.foundSize rfl (fdC_one _ _ _ _ _ _ _) ?_)
      | fail)
    refine bodyPost_ret (v := .tuple #[.agg (fdC f (.slice ad f.head.list.length cap) (.slice bad f.bl.length bcap)), .bool true]) (results_ct_row Try.results35 _ _ w.heap.size 46 (fdC f (.slice ad f.head.list.length cap) (.slice bad f.bl.length bcap)) (0, 0) _ rfl (setRow_heap _ _ _ _ _ _ XZ.out) Try.underlying46 rfl Try.foundSize) rfl ⟨ad, cap, bad, bcap, rfl, ?_, ?_, ?_, ?_⟩
    · exact Ents.apart HEZ.out HF.out (by rw [setRow_size]; exact Nat.le_refl _) fun k h1 h2 => setRow_other _ _ _ _ (pre_far h1 hw0)
    · exact HF.out.low (pre_low (by omega))
    · exact TOwn.low (TOwn.apart HOZ.out fun k h1 h2 => setRow_other _ _ _ _ (by omega)) (by omega)
    · exact below_setRow BZ.out (Nat.le_refl _) _

set_option maxRecDepth 10000 in
set_option maxHeartbeats 4000000 in
theorem rnext_there (wb b gd n : Nat) (D : St) (V : Nat → Value) (L : Lg) (v : Value) (segs : List Int) (t : TypeId) (w : World) (h : w.heap[wb]? = some (.cells (wkC b (48 + 32 * (n : Int)) 32 L v) t (0, 0))) (hI : Ints w v segs) (hl : segs.length ≤ 100000)
    (hD : Disk w b D gd V) (hn : D.n = 48 + 32 * n) (hn2 : 8 ≤ n) (hn3 : n ≤ 100) (hup : D.down = false) (h0 : atB D.read n segs L L.seg L.pos = false) (h1 : atB D.read n segs L L.next 0 = true) :
    Calls Try.prog 35 #[.pointer (some ⟨wb, 0, none⟩)] w fun e w' => NextYes w w' (fnd D.read n segs L.next 0) e := by
  have hlt : wb < w.heap.size := (Array.getElem?_eq_some_iff.1 h).1
  have AT := rohid (fun (w1 : World) (hb : Below w.heap.size w w1) => (rat_no wb b gd n D V L v segs L.seg L.pos t w1 (row_on h hb) (hI.on hb) hl (hD.below hb) hn hn2 hn3 hup h0).mono fun e w' ⟨he, hb2⟩ => at_none h hb he hb2)
  have AT2 := rohid (fun (w1 : World) (hb : Below w.heap.size w w1) => (rat_yes wb b gd n D V L v segs L.next 0 t w1 (row_on h hb) (hI.on hb) hl (hD.below hb) hn hn2 hn3 hup h1).mono fun e w' ⟨hv, bv, he, hE, hF, hO, hb2⟩ => at_got h hb he hE hF hO hb2)
  have HR := rohid h
  clear h hI hD hn hup h0 h1
  obtain ⟨f, hf⟩ : ∃ f, fnd D.read n segs L.next 0 = f := ⟨_, rfl⟩
  rw [hf] at AT2 ⊢
  clear hf
  obtain ⟨house, gen, num, life, clock, seg, pos, next, seq, m0, m1, m2, m3, sb, sn, fl⟩ := L
  dsimp only at AT AT2
  go_enter Try.func35, Try.ntmps35
  go_wp2_with fail
  generalize hW : World.alloc w _ = w0
  have HX0 : Hid (w0.heap[w.heap.size]? = some (.cells (fdC fdZ (.slice none 0 0) (.slice none 0 0)) 46 (0, 0))) := by rw [← hW]; exact heap_alloc_new _ _
  have HB0 : Hid (Below w.heap.size w w0) := by rw [← hW]; exact (Below.refl _ w).alloc (Nat.le_refl _) _
  have hw0 : w.heap.size < w0.heap.size := by rw [← hW]; simp
  have hR0 := row_on HR.out HB0.out
  have c9 : w0.cell? ⟨wb, 9, none⟩ = some (.int .i64 seg) := (cell_of_row _ _ _ _ _ _ hR0).trans rfl
  have c10 : w0.cell? ⟨wb, 10, none⟩ = some (.int .i64 pos) := (cell_of_row _ _ _ _ _ _ hR0).trans rfl
  have hne1 : w0.heap.size ≠ wb := by omega
  have hne2 : wb ≠ w0.heap.size := by omega
  have HXB := rohid (fun (y : World) (h1 : Below w0.heap.size w0 y) => row_on HX0.out h1)
  clear hW hR0 HR HX0
  go_region_held3 (fun w' => w'.cell? ⟨wb, 9, none⟩ = some (.int .i64 seg) ∧ w'.cell? ⟨wb, 10, none⟩ = some (.int .i64 pos)) (go_keep)
    (first
      | (go_at_call 44
         refine (AT.out _ (by first | exact ro_drew HB0.out | exact HB0.out | exact ro_drew (HB0.out.alloc HB0.out.size _) | exact HB0.out.alloc HB0.out.size _)).mono ?_
         rintro e y1 ⟨rfl, HB1, hR1, qb⟩
         (first
           | (have hz := zrow_pre qb
              obtain ⟨z0, z1, z2, z3, z4, z5, z6, z7, z8, z9, z10, z11⟩ := cellsOf12 hz
              obtain ⟨f0, f1, f2, f3, f4, f5, f6, f7, f8, f9, f10, f11⟩ := frozenOf12 hz)
           | skip)
         have HQB := rohid qb
         have HR1 := rohid hR1
         have c9 : y1.cell? ⟨wb, 9, none⟩ = some (.int .i64 seg) := (cell_of_row _ _ _ _ _ _ hR1).trans rfl
         have c10 : y1.cell? ⟨wb, 10, none⟩ = some (.int .i64 pos) := (cell_of_row _ _ _ _ _ _ hR1).trans rfl
         clear qb hR1
         dsimp only [fdC, fdZ, Hd.z]))
  · generalize hZ : World.alloc y1 _ = Z
    have hyz : Below y1.heap.size y1 Z := by rw [← hZ]; exact (Below.refl _ _).alloc (Nat.le_refl _) _
    have XZ := rohid (row_on (HXB.out y1 ⟨HQB.out.os, HQB.out.tape, HQB.out.output, HQB.out.size, HQB.out.block⟩) hyz)
    have RZ := rohid (row_on HR1.out hyz)
    have BZ : Hid (Below w.heap.size w Z) := HB1.out.trans (hyz.mono HB1.out.size)
    have hwz : w.heap.size < Z.heap.size := by have h5 := hyz.size; have h6 := HQB.out.size; have h7 : w0.drew.heap.size = w0.heap.size := rfl; omega
    clear hZ hyz HB1 HR1 AT HXB HQB
    have c11 : Z.cell? ⟨wb, 11, none⟩ = some (.int .i64 next) := (cell_of_row _ _ _ _ _ _ RZ.out).trans rfl
    go_wp2_with fail
    refine (AT2.out Z BZ.out).mono ?_
    rintro e y2 ⟨ad, cap, bad, bcap, rfl, HE, HF, HO, HB2, -, qb⟩
    have XY := rohid (row_on XZ.out qb)
    clear qb XZ RZ BZ AT2 c11
    go_wp2_with (first
      | (refine wpList_store_row rfl 46 (.tmp 2) (.tmp 30) rfl w.heap.size (fdC f (.slice ad f.head.list.length cap) (.slice bad f.bl.length bcap)) rfl rfl 46 _ XY.out Try.foundSize rfl (fdC_one _ _ _ _ _ _ _) ?_)
      | fail)
    refine bodyPost_ret (v := .tuple #[.agg (fdC f (.slice ad f.head.list.length cap) (.slice bad f.bl.length bcap)), .bool true]) (results_ct_row Try.results35 _ _ w.heap.size 46 (fdC f (.slice ad f.head.list.length cap) (.slice bad f.bl.length bcap)) (0, 0) _ rfl (setRow_heap _ _ _ _ _ _ XY.out) Try.underlying46 rfl Try.foundSize) rfl ⟨ad, cap, bad, bcap, rfl, ?_, ?_, ?_, ?_⟩
    · exact Ents.apart HE.out HF.out (by rw [setRow_size]; exact Nat.le_refl _) fun k h1 h2 => setRow_other _ _ _ _ (by omega)
    · exact HF.out.low (by omega)
    · exact TOwn.low (TOwn.apart HO.out fun k h1 h2 => setRow_other _ _ _ _ (by omega)) (by omega)
    · exact below_setRow HB2.out (Nat.le_refl _) _
  · rw [set12_is]
    generalize hZ : set12 y1 _ _ _ _ _ _ _ _ _ _ _ _ _ = Z
    have hsz : Z.heap.size = y1.heap.size := by rw [← hZ]; exact set12_size _ _ _ _ _ _ _ _ _ _ _ _ _ _
    have hyo : ∀ k, k ≠ w0.heap.size → Z.heap[k]? = y1.heap[k]? := fun k hk => by rw [← hZ]; exact set12_other hk _ _ _ _ _ _ _ _ _ _ _ _
    have XZ : Hid (Z.heap[w.heap.size]? = some (.cells (fdC fdZ (.slice none 0 0) (.slice none 0 0)) 46 (0, 0))) := (hyo _ (by omega)).trans (HXB.out y1 (below_pre HQB.out))
    have RZ := rohid ((hyo _ hne2).trans HR1.out)
    have BZ : Hid (Below w.heap.size w Z) := by rw [← hZ]; exact set12_below HB1.out (by omega) _ _ _ _ _ _ _ _ _ _ _ _
    have hwz : w.heap.size < Z.heap.size := by rw [hsz]; have h6 := (below_pre HQB.out).size; omega
    clear hZ hyo HB1 HR1 AT HXB HQB hsz hz
    have c11 : Z.cell? ⟨wb, 11, none⟩ = some (.int .i64 next) := (cell_of_row _ _ _ _ _ _ RZ.out).trans rfl
    go_wp2_with fail
    refine (AT2.out Z BZ.out).mono ?_
    rintro e y2 ⟨ad, cap, bad, bcap, rfl, HE, HF, HO, HB2, -, qb⟩
    have XY := rohid (row_on XZ.out qb)
    clear qb XZ RZ BZ AT2 c11
    go_wp2_with (first
      | (refine wpList_store_row rfl 46 (.tmp 2) (.tmp 30) rfl w.heap.size (fdC f (.slice ad f.head.list.length cap) (.slice bad f.bl.length bcap)) rfl rfl 46 _ XY.out Try.foundSize rfl (fdC_one _ _ _ _ _ _ _) ?_)
      | fail)
    refine bodyPost_ret (v := .tuple #[.agg (fdC f (.slice ad f.head.list.length cap) (.slice bad f.bl.length bcap)), .bool true]) (results_ct_row Try.results35 _ _ w.heap.size 46 (fdC f (.slice ad f.head.list.length cap) (.slice bad f.bl.length bcap)) (0, 0) _ rfl (setRow_heap _ _ _ _ _ _ XY.out) Try.underlying46 rfl Try.foundSize) rfl ⟨ad, cap, bad, bcap, rfl, ?_, ?_, ?_, ?_⟩
    · exact Ents.apart HE.out HF.out (by rw [setRow_size]; exact Nat.le_refl _) fun k h1 h2 => setRow_other _ _ _ _ (by omega)
    · exact HF.out.low (by omega)
    · exact TOwn.low (TOwn.apart HO.out fun k h1 h2 => setRow_other _ _ _ _ (by omega)) (by omega)
    · exact below_setRow HB2.out (Nat.le_refl _) _

set_option maxRecDepth 10000 in
set_option maxHeartbeats 4000000 in
theorem rnext_none (wb b gd n : Nat) (D : St) (V : Nat → Value) (L : Lg) (v : Value) (segs : List Int) (t : TypeId) (w : World) (h : w.heap[wb]? = some (.cells (wkC b (48 + 32 * (n : Int)) 32 L v) t (0, 0))) (hI : Ints w v segs) (hl : segs.length ≤ 100000)
    (hD : Disk w b D gd V) (hn : D.n = 48 + 32 * n) (hn2 : 8 ≤ n) (hn3 : n ≤ 100) (hup : D.down = false) (h0 : atB D.read n segs L L.seg L.pos = false) (h1 : atB D.read n segs L L.next 0 = false) :
    Calls Try.prog 35 #[.pointer (some ⟨wb, 0, none⟩)] w fun e w' => NextNo w w' e := by
  have hlt : wb < w.heap.size := (Array.getElem?_eq_some_iff.1 h).1
  have AT := rohid (fun (w1 : World) (hb : Below w.heap.size w w1) => (rat_no wb b gd n D V L v segs L.seg L.pos t w1 (row_on h hb) (hI.on hb) hl (hD.below hb) hn hn2 hn3 hup h0).mono fun e w' ⟨he, hb2⟩ => at_none h hb he hb2)
  have AT2 := rohid (fun (w1 : World) (hb : Below w.heap.size w w1) => (rat_no wb b gd n D V L v segs L.next 0 t w1 (row_on h hb) (hI.on hb) hl (hD.below hb) hn hn2 hn3 hup h1).mono fun e w' ⟨he, hb2⟩ => at_none h hb he hb2)
  have HR := rohid h
  clear h hI hD hn hup h0 h1
  obtain ⟨house, gen, num, life, clock, seg, pos, next, seq, m0, m1, m2, m3, sb, sn, fl⟩ := L
  dsimp only at AT AT2
  go_enter Try.func35, Try.ntmps35
  go_wp2_with fail
  generalize hW : World.alloc w _ = w0
  have HX0 : Hid (w0.heap[w.heap.size]? = some (.cells (fdC fdZ (.slice none 0 0) (.slice none 0 0)) 46 (0, 0))) := by rw [← hW]; exact heap_alloc_new _ _
  have HB0 : Hid (Below w.heap.size w w0) := by rw [← hW]; exact (Below.refl _ w).alloc (Nat.le_refl _) _
  have hw0 : w.heap.size < w0.heap.size := by rw [← hW]; simp
  have hR0 := row_on HR.out HB0.out
  have c9 : w0.cell? ⟨wb, 9, none⟩ = some (.int .i64 seg) := (cell_of_row _ _ _ _ _ _ hR0).trans rfl
  have c10 : w0.cell? ⟨wb, 10, none⟩ = some (.int .i64 pos) := (cell_of_row _ _ _ _ _ _ hR0).trans rfl
  have hne1 : w0.heap.size ≠ wb := by omega
  have hne2 : wb ≠ w0.heap.size := by omega
  have HXB := rohid (fun (y : World) (h1 : Below w0.heap.size w0 y) => row_on HX0.out h1)
  clear hW hR0 HR HX0
  go_region_held3 (fun w' => w'.cell? ⟨wb, 9, none⟩ = some (.int .i64 seg) ∧ w'.cell? ⟨wb, 10, none⟩ = some (.int .i64 pos)) (go_keep)
    (first
      | (go_at_call 44
         refine (AT.out _ (by first | exact ro_drew HB0.out | exact HB0.out | exact ro_drew (HB0.out.alloc HB0.out.size _) | exact HB0.out.alloc HB0.out.size _)).mono ?_
         rintro e y1 ⟨rfl, HB1, hR1, qb⟩
         (first
           | (have hz := zrow_pre qb
              obtain ⟨z0, z1, z2, z3, z4, z5, z6, z7, z8, z9, z10, z11⟩ := cellsOf12 hz
              obtain ⟨f0, f1, f2, f3, f4, f5, f6, f7, f8, f9, f10, f11⟩ := frozenOf12 hz)
           | skip)
         have HQB := rohid qb
         have HR1 := rohid hR1
         have c9 : y1.cell? ⟨wb, 9, none⟩ = some (.int .i64 seg) := (cell_of_row _ _ _ _ _ _ hR1).trans rfl
         have c10 : y1.cell? ⟨wb, 10, none⟩ = some (.int .i64 pos) := (cell_of_row _ _ _ _ _ _ hR1).trans rfl
         clear qb hR1
         dsimp only [fdC, fdZ, Hd.z]))
  · generalize hZ : World.alloc y1 _ = Z
    have hyz : Below y1.heap.size y1 Z := by rw [← hZ]; exact (Below.refl _ _).alloc (Nat.le_refl _) _
    have XZ := rohid (row_on (HXB.out y1 ⟨HQB.out.os, HQB.out.tape, HQB.out.output, HQB.out.size, HQB.out.block⟩) hyz)
    have RZ := rohid (row_on HR1.out hyz)
    have BZ : Hid (Below w.heap.size w Z) := HB1.out.trans (hyz.mono HB1.out.size)
    have hwz : w.heap.size < Z.heap.size := by have h5 := hyz.size; have h6 := HQB.out.size; have h7 : w0.drew.heap.size = w0.heap.size := rfl; omega
    clear hZ hyz HB1 HR1 AT HXB HQB
    have c11 : Z.cell? ⟨wb, 11, none⟩ = some (.int .i64 next) := (cell_of_row _ _ _ _ _ _ RZ.out).trans rfl
    go_wp2_with fail
    refine (AT2.out Z BZ.out).mono ?_
    rintro e y2 ⟨rfl, HB2, -, qb⟩
    have XY := rohid (row_on XZ.out qb)
    clear qb XZ RZ BZ AT2 c11
    go_wp2_with (first
      | (refine wpList_store_row rfl 46 (.tmp 2) (.tmp 30) rfl w.heap.size (fdC fdZ (.slice none 0 0) (.slice none 0 0)) rfl rfl 46 _ XY.out Try.foundSize rfl (fdC_one fdZ none none 0 0 0 0) ?_)
      | fail)
    refine bodyPost_ret (v := .tuple #[.agg (fdC fdZ (.slice none 0 0) (.slice none 0 0)), .bool false]) (results_ct_row Try.results35 _ _ w.heap.size 46 (fdC fdZ (.slice none 0 0) (.slice none 0 0)) (0, 0) _ rfl (setRow_heap _ _ _ _ _ _ XY.out) Try.underlying46 rfl Try.foundSize) rfl ⟨rfl, ?_⟩
    exact below_setRow HB2.out (Nat.le_refl _) _
  · rw [set12_is]
    generalize hZ : set12 y1 _ _ _ _ _ _ _ _ _ _ _ _ _ = Z
    have hsz : Z.heap.size = y1.heap.size := by rw [← hZ]; exact set12_size _ _ _ _ _ _ _ _ _ _ _ _ _ _
    have hyo : ∀ k, k ≠ w0.heap.size → Z.heap[k]? = y1.heap[k]? := fun k hk => by rw [← hZ]; exact set12_other hk _ _ _ _ _ _ _ _ _ _ _ _
    have XZ : Hid (Z.heap[w.heap.size]? = some (.cells (fdC fdZ (.slice none 0 0) (.slice none 0 0)) 46 (0, 0))) := (hyo _ (by omega)).trans (HXB.out y1 (below_pre HQB.out))
    have RZ := rohid ((hyo _ hne2).trans HR1.out)
    have BZ : Hid (Below w.heap.size w Z) := by rw [← hZ]; exact set12_below HB1.out (by omega) _ _ _ _ _ _ _ _ _ _ _ _
    have hwz : w.heap.size < Z.heap.size := by rw [hsz]; have h6 := (below_pre HQB.out).size; omega
    clear hZ hyo HB1 HR1 AT HXB HQB hsz hz
    have c11 : Z.cell? ⟨wb, 11, none⟩ = some (.int .i64 next) := (cell_of_row _ _ _ _ _ _ RZ.out).trans rfl
    go_wp2_with fail
    refine (AT2.out Z BZ.out).mono ?_
    rintro e y2 ⟨rfl, HB2, -, qb⟩
    have XY := rohid (row_on XZ.out qb)
    clear qb XZ RZ BZ AT2 c11
    go_wp2_with (first
      | (refine wpList_store_row rfl 46 (.tmp 2) (.tmp 30) rfl w.heap.size (fdC fdZ (.slice none 0 0) (.slice none 0 0)) rfl rfl 46 _ XY.out Try.foundSize rfl (fdC_one fdZ none none 0 0 0 0) ?_)
      | fail)
    refine bodyPost_ret (v := .tuple #[.agg (fdC fdZ (.slice none 0 0) (.slice none 0 0)), .bool false]) (results_ct_row Try.results35 _ _ w.heap.size 46 (fdC fdZ (.slice none 0 0) (.slice none 0 0)) (0, 0) _ rfl (setRow_heap _ _ _ _ _ _ XY.out) Try.underlying46 rfl Try.foundSize) rfl ⟨rfl, ?_⟩
    exact below_setRow HB2.out (Nat.le_refl _) _

/-- next, by the plain next. -/
theorem rnext_t (wb b gd n : Nat) (D : St) (V : Nat → Value) (L : Lg) (v : Value) (segs : List Int) (t : TypeId) (w : World) (h : w.heap[wb]? = some (.cells (wkC b (48 + 32 * (n : Int)) 32 L v) t (0, 0))) (hI : Ints w v segs) (hl : segs.length ≤ 100000)
    (hD : Disk w b D gd V) (hn : D.n = 48 + 32 * n) (hn2 : 8 ≤ n) (hn3 : n ≤ 100) (hup : D.down = false) :
    Calls Try.prog 35 #[.pointer (some ⟨wb, 0, none⟩)] w fun e w' => (∀ f, nxt D.read n segs L = some f → NextYes w w' f e) ∧ (nxt D.read n segs L = none → NextNo w w' e) := by
  cases h0 : atB D.read n segs L L.seg L.pos
  · cases h1 : atB D.read n segs L L.next 0
    · refine (rnext_none wb b gd n D V L v segs t w h hI hl hD hn hn2 hn3 hup h0 h1).mono fun e w' hh => ⟨fun f hf => ?_, fun _ => hh⟩
      rw [nxt_none h0 h1] at hf
      cases hf
    · refine (rnext_there wb b gd n D V L v segs t w h hI hl hD hn hn2 hn3 hup h0 h1).mono fun e w' hh => ⟨fun f hf => ?_, fun hf => ?_⟩
      · rw [nxt_there h0 h1] at hf
        rw [← Option.some.inj hf]
        exact hh
      · rw [nxt_there h0 h1] at hf
        cases hf
  · refine (rnext_here wb b gd n D V L v segs t w h hI hl hD hn hn2 hn3 hup h0).mono fun e w' hh => ⟨fun f hf => ?_, fun hf => ?_⟩
    · rw [nxt_here h0] at hf
      rw [← Option.some.inj hf]
      exact hh
    · rw [nxt_here h0] at hf
      cases hf
end Go.Proofs.Ytaiebhkjkeadoaa
