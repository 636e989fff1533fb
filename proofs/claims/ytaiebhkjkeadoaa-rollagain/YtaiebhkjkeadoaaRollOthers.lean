/- RollOthers walked: another house, gen, life, number, a next segment of nobody's. -/
import Derived.Test.YtaiebhkjkeadoaaRollAwake
namespace Go.Proofs.Ytaiebhkjkeadoaa
open Go.RowKit Lo Hdp Chk Rec Rol

theorem away_in {w : World} {v : Value} {l : List Int} {b gd : Nat} {V : Nat → Value} {B : Nat} (h : Ints w v l) (hB : w.heap.size ≤ B) (hf : ∀ k, foot b gd V k → B ≤ k) : Away (fun q => ¬ foot b gd V q) v := by
  intro q off n c e hn hq
  obtain ⟨ad, cap, hv, -, -, hc⟩ := h
  rw [e] at hv
  injection hv with h1 h2 h3
  obtain ⟨b2, off2, ha, hlt, -⟩ := hc (by omega)
  rw [← h1] at ha
  injection ha with ha
  injection ha with ha
  have := hf q hq
  omega
theorem fw_got {X w8 w' : World} {e : Ending} {ad : Option Addr} {n cap : Nat} {M : Lg} (he : e = .returned (.tuple #[.slice ad n cap, plV M])) (hb : Below X.heap.size X w8) (hb2 : Below w8.heap.size w8 w') : ∃ ad cap, e = .returned (.tuple #[.slice ad n cap, plV M]) ∧ Hid (Below X.heap.size X w') ∧ Below w8.heap.size w8 w' := ⟨ad, cap, he, hb.trans (hb2.mono hb.size), hb2⟩
theorem zrow_pre0 {w0 y1 : World} {o : Obj} (qb : Below (w0.alloc o).heap.size (w0.alloc o) y1) : y1.heap[w0.heap.size]? = some o :=
  (qb.block w0.heap.size (by simp)).trans (heap_alloc_new w0 o)
theorem frozen13 {w : World} {b : Nat} {C : Array Value} {t : TypeId} (h : w.heap[b]? = some (.cells C t (0, 0))) :
    w.frozen? ⟨b, 0, none⟩ = false ∧ w.frozen? ⟨b, 1, none⟩ = false ∧ w.frozen? ⟨b, 2, none⟩ = false ∧ w.frozen? ⟨b, 3, none⟩ = false ∧ w.frozen? ⟨b, 4, none⟩ = false ∧ w.frozen? ⟨b, 5, none⟩ = false ∧ w.frozen? ⟨b, 6, none⟩ = false ∧ w.frozen? ⟨b, 7, none⟩ = false ∧ w.frozen? ⟨b, 8, none⟩ = false ∧ w.frozen? ⟨b, 9, none⟩ = false ∧ w.frozen? ⟨b, 10, none⟩ = false ∧ w.frozen? ⟨b, 11, none⟩ = false ∧ w.frozen? ⟨b, 12, none⟩ = false :=
  ⟨frozen_of_row w b 0 _ _ h, frozen_of_row w b 1 _ _ h, frozen_of_row w b 2 _ _ h, frozen_of_row w b 3 _ _ h, frozen_of_row w b 4 _ _ h, frozen_of_row w b 5 _ _ h, frozen_of_row w b 6 _ _ h, frozen_of_row w b 7 _ _ h, frozen_of_row w b 8 _ _ h, frozen_of_row w b 9 _ _ h, frozen_of_row w b 10 _ _ h, frozen_of_row w b 11 _ _ h, frozen_of_row w b 12 _ _ h⟩
theorem under_drew {X y : World} (h : Below X.drew.heap.size X.drew y) : Below X.heap.size X y := ⟨h.os, h.tape, h.output, h.size, h.block⟩

set_option maxRecDepth 20000 in
set_option maxHeartbeats 8000000 in
theorem rollOthers_0 (v : Value) (l : List Int) (how : Int) (w : World) (hI : Ints w v l) (hl : l.length ≤ 30) (hm : how % 5 = 0) :
    Calls Try.prog 3 #[v, .int .i64 how] w fun e w' => e = .returned (.bool true) ∧ Below w.heap.size w w' := by
  have NW := rfhid (new_t304 w)
  have GE := rfhid geom_t304
  have SG := rfhid segs8_t
  have SL := rfhid (fun (w1 : World) => slot0_t 2 w1)
  have PS := rfhid (fun (w1 : World) => psame_t ⟨4, 7, 1, 2, 0, 0, 0, 1, 5, 0, 0, 0, 0, 0, 0, []⟩ w1)
  have PL := rfhid (fun (w1 : World) => gplace_t how 5 w1 (by decide) (by decide))
  rw [hm] at PL
  have AW := rfhid awake_t15
  have FL := rfhid (fun (b gd : Nat) (V : Nat → Value) (u : World) (hD : Disk u b (St.new 304) gd V) (hb : Below w.heap.size w u) (hf : ∀ k, foot b gd V k → w.heap.size ≤ k) => fill_t b gd V v l u hD (hI.on hb) (away_in hI (Nat.le_refl _) hf) (by omega))
  obtain ⟨vad, vcap, rfl, -⟩ := hI
  clear hm
  go_enter Try.func3, Try.ntmps3
  go_wp2_with fail
  refine NW.out.mono ?_
  rintro e w1 ⟨b, gd, V, rfl, hD1, hb1, hf1⟩
  have HB1 := rfhid hb1
  have HF1 := rfhid hf1
  have FL1 := rfhid (FL.out b gd V w1 hD1 hb1 hf1)
  clear hD1 hb1 hf1 NW FL
  go_wp2_with fail
  refine FL1.out.mono ?_
  rintro e w2 ⟨mv, cs, S, V2, L, rfl, hmo, -, hD2, hfil, hst, -, -, -⟩
  obtain ⟨mad, mcap, rfl⟩ := hmo.slice
  have HD2 := rfhid hD2
  have HB2 : Hid (Below w.heap.size w w2) := hst.under HB1.out HF1.out (Nat.le_refl _)
  have HRO : Hid (Rolls S.read 8 (seqL 0 8) ⟨4, 7, 1, 2, 0, 0, 0, 1, 5, 0, 0, 0, 0, 0, 0, []⟩ [] ⟨4, 7, 1, 2, 0, 0, 0, 1, 5, 0, 0, 0, 0, 0, 0, []⟩) := hfil.house
  have HSN := rfhid hfil.n
  have HSD := rfhid hfil.down
  clear hmo hD2 hfil hst FL1 HB1 HF1
  go_wp2_with fail
  refine (SL.out _).mono ?_
  rintro e w3 ⟨rfl, hb3⟩
  have HB3 := rfhid hb3
  clear hb3 SL
  go_wp2_with fail
  refine (SG.out _).mono ?_
  rintro e w4 ⟨sad, rfl, hI4, hb4⟩
  have HB4 : Hid (Below w2.heap.size w2 w4) := HB3.out.trans (hb4.mono HB3.out.size)
  have HI4 := rfhid hI4
  clear hb4 hI4 HB3 SG
  go_wp2_with fail
  generalize hW : World.alloc w4 _ = W
  have hr5 : W.heap[w4.heap.size]? = some (.cells #[.int .i64 1, .int .i64 2, .int .i64 0, .int .i64 0, .int .i64 0, .int .i64 1, .int .i64 5, .int .i64 0, .int .i64 0, .int .i64 0, .int .i64 0, .int .i64 0, .int .i64 0] 29 (0, 0)) := by rw [← hW]; exact heap_alloc_new _ _
  have hb5 : Below w4.heap.size w4 W := by rw [← hW]; exact (Below.refl _ _).alloc (Nat.le_refl _) _
  have HI5 := rfhid (HI4.out.on hb5)
  have HB5 : Hid (Below w2.heap.size w2 W) := HB4.out.trans (hb5.mono HB4.out.size)
  have hs4 : w2.heap.size ≤ w4.heap.size := HB4.out.size
  have hs5 : w4.heap.size < W.heap.size := (Array.getElem?_eq_some_iff.1 hr5).1
  have HI4k := rfhid (fun (X : World) (h : Below w4.heap.size W X) => HI4.out.on (hb5.trans h))
  clear hW hb5 HI4 HB4
  refine (PL.out _).mono ?_
  rintro e wq ⟨rfl, rfl⟩
  clear PL
  have HR5 := rfhid hr5
  clear hr5
  go_wp2_with fail
  obtain ⟨X, rfl⟩ : ∃ X, X = W := ⟨_, rfl⟩
  have hr6 := HR5.out
  have HI6 := rfhid HI5.out
  have HB6 := rfhid HB5.out
  have hs6 := hs5
  clear HI5 HB5 HR5
  have HR6 := rfhid hr6
  obtain ⟨p0, p1, p2, p3, p4, p5, p6, p7, p8, p9, p10, p11, p12⟩ := cells13 hr6
  clear hr6
  have FW := rfhid (fun (w8 : World) (hb : Below X.heap.size X w8) => (fw_t b gd S V2 ⟨4, 7, 1, 2, 0, 0, 0, 1, 5, 0, 0, 0, 0, 0, 0, []⟩ ⟨4, 7, 1, 2, 0, 0, 0, 1, 5, 0, 0, 0, 0, 0, 0, []⟩ (.slice (some sad) 8 8) (seqL 0 8) [] w8 (HI6.out.on hb) (by decide) (HD2.out.below (HB6.out.trans (hb.mono HB6.out.size))) HSN.out HSD.out HRO.out (by decide)).mono fun e w' ⟨ad, cap, Lv, he, _, _, hb2⟩ => fw_got he hb hb2)
  have hne1 : X.heap.size ≠ w4.heap.size := by omega
  have hne2 : w4.heap.size ≠ X.heap.size := by omega
  clear HD2 HI6 HSN HSD HRO
  go_region_held3 (fun w' => w'.cell? ⟨w4.heap.size, 0, none⟩ = some (.int .i64 1) ∧ w'.cell? ⟨w4.heap.size, 1, none⟩ = some (.int .i64 2) ∧ w'.cell? ⟨w4.heap.size, 2, none⟩ = some (.int .i64 0) ∧ w'.cell? ⟨w4.heap.size, 3, none⟩ = some (.int .i64 0) ∧ w'.cell? ⟨w4.heap.size, 4, none⟩ = some (.int .i64 0) ∧ w'.cell? ⟨w4.heap.size, 5, none⟩ = some (.int .i64 1) ∧ w'.cell? ⟨w4.heap.size, 6, none⟩ = some (.int .i64 5) ∧ w'.cell? ⟨w4.heap.size, 7, none⟩ = some (.int .i64 0) ∧ w'.cell? ⟨w4.heap.size, 8, none⟩ = some (.int .i64 0) ∧ w'.cell? ⟨w4.heap.size, 9, none⟩ = some (.int .i64 0) ∧ w'.cell? ⟨w4.heap.size, 10, none⟩ = some (.int .i64 0) ∧ w'.cell? ⟨w4.heap.size, 11, none⟩ = some (.int .i64 0) ∧ w'.cell? ⟨w4.heap.size, 12, none⟩ = some (.int .i64 0)) (go_keep)
    (first
      | (go_at_call 14
         refine (GE.out _).mono ?_
         rintro e y1 ⟨rfl, hy1⟩
         have HY1 : Hid (Below X.heap.size X y1) := by first | exact under_drew hy1 | exact below_pre hy1 | exact hy1
         (first | (have hzx := zrow_pre hy1) | skip)
         obtain ⟨p0, p1, p2, p3, p4, p5, p6, p7, p8, p9, p10, p11, p12⟩ := cells13 (row_on HR6.out HY1.out)
         have hney1 : y1.heap.size ≠ w4.heap.size := by have := HY1.out.size; omega
         have hney2 : w4.heap.size ≠ y1.heap.size := by omega
         clear hy1)
      | (go_at_call 13
         refine (FW.out _ (by first | exact HY1.out | exact HY1.out.alloc HY1.out.size _)).mono ?_
         rintro e y2 ⟨lad, lcap, rfl, HY2, hy2⟩
         (first
           | (have hz := zrow_pre0 hy2
              obtain ⟨z0, z1, z2, z3, z4, z5, z6, z7, z8, z9, z10, z11, z12⟩ := cells13 hz
              obtain ⟨f0, f1, f2, f3, f4, f5, f6, f7, f8, f9, f10, f11, f12⟩ := frozen13 hz)
           | (have hz := row_on hzx hy2
              obtain ⟨z0, z1, z2, z3, z4, z5, z6, z7, z8, z9, z10, z11, z12⟩ := cells13 hz
              obtain ⟨f0, f1, f2, f3, f4, f5, f6, f7, f8, f9, f10, f11, f12⟩ := frozen13 hz)
           | skip)
         obtain ⟨p0, p1, p2, p3, p4, p5, p6, p7, p8, p9, p10, p11, p12⟩ := cells13 (row_on HR6.out HY2.out)
         have HQ2 := rfhid hy2
         clear hy2))
  · generalize hZ : World.alloc y2 _ = Z
    have hyz : Below y2.heap.size y2 Z := by rw [← hZ]; exact (Below.refl _ _).alloc (Nat.le_refl _) _
    have r11 : Z.heap[y2.heap.size]? = some (.cells #[.int .i64 1, .int .i64 2, .int .i64 0, .int .i64 0, .int .i64 0, .int .i64 1, .int .i64 5, .int .i64 0, .int .i64 0, .int .i64 0, .int .i64 0, .int .i64 0, .int .i64 0] 29 (0, 0)) := by rw [← hZ]; exact heap_alloc_new _ _
    obtain ⟨z0, z1, z2, z3, z4, z5, z6, z7, z8, z9, z10, z11, z12⟩ := cells13 r11
    obtain ⟨p0, p1, p2, p3, p4, p5, p6, p7, p8, p9, p10, p11, p12⟩ := cells13 (row_on (row_on HR6.out HY2.out) hyz)
    have HZ : Hid (Below w.heap.size w Z) := HB2.out.trans ((HB6.out.trans ((HY2.out.trans (hyz.mono HY2.out.size)).mono HB6.out.size)).mono HB2.out.size)
    clear hZ hyz r11 HR6 HY1 HY2 HQ2 HB6 HB2 FW GE
    go_wp2_with fail
    refine (PS.out _).mono ?_
    rintro e y5 ⟨rfl, hb⟩
    have HZ5 : Hid (Below w.heap.size w y5) := HZ.out.trans (hb.mono HZ.out.size)
    clear hb HZ
    go_wp2_with fail
    refine (AW.out _).mono ?_
    rintro e y6 ⟨rfl, hb⟩
    have HZ6 : Hid (Below w.heap.size w y6) := HZ5.out.trans (hb.mono HZ5.out.size)
    clear hb HZ5
    go_wp2_with fail
    go_ret
    exact ⟨rfl, HZ6.out⟩
  · rw [set13_is]
    generalize hZ : set13 y2 _ _ _ _ _ _ _ _ _ _ _ _ _ _ = Z
    have r11 : Z.heap[y1.heap.size]? = some (.cells #[.int .i64 1, .int .i64 2, .int .i64 0, .int .i64 0, .int .i64 0, .int .i64 1, .int .i64 5, .int .i64 0, .int .i64 0, .int .i64 0, .int .i64 0, .int .i64 0, .int .i64 0] 29 (0, 0)) := by rw [← hZ]; exact set13_row rfl hz _ _ _ _ _ _ _ _ _ _ _ _ _
    obtain ⟨z0, z1, z2, z3, z4, z5, z6, z7, z8, z9, z10, z11, z12⟩ := cells13 r11
    have hzo : Z.heap[w4.heap.size]? = y2.heap[w4.heap.size]? := by rw [← hZ]; exact set13_other hney2 _ _ _ _ _ _ _ _ _ _ _ _ _
    obtain ⟨p0, p1, p2, p3, p4, p5, p6, p7, p8, p9, p10, p11, p12⟩ := cells13 (hzo.trans (row_on HR6.out HY2.out))
    have HY2w : Below w.heap.size w y2 := HB2.out.trans ((HB6.out.trans (HY2.out.mono HB6.out.size)).mono HB2.out.size)
    have HZ : Hid (Below w.heap.size w Z) := by
      rw [← hZ]
      exact set13_below HY2w (Nat.le_trans HB2.out.size (Nat.le_trans HB6.out.size HY1.out.size)) _ _ _ _ _ _ _ _ _ _ _ _ _
    clear hZ hzo r11 HR6 HY1 HY2 HQ2 HY2w HB6 HB2 FW GE hz f0 f1 f2 f3 f4 f5 f6 f7 f8 f9 f10 f11 f12
    go_wp2_with fail
    refine (PS.out _).mono ?_
    rintro e y5 ⟨rfl, hb⟩
    have HZ5 : Hid (Below w.heap.size w y5) := HZ.out.trans (hb.mono HZ.out.size)
    clear hb HZ
    go_wp2_with fail
    refine (AW.out _).mono ?_
    rintro e y6 ⟨rfl, hb⟩
    have HZ6 : Hid (Below w.heap.size w y6) := HZ5.out.trans (hb.mono HZ5.out.size)
    clear hb HZ5
    go_wp2_with fail
    go_ret
    exact ⟨rfl, HZ6.out⟩
  · rw [set13_is]
    generalize hZ : set13 y2 _ _ _ _ _ _ _ _ _ _ _ _ _ _ = Z
    have r11 : Z.heap[X.heap.size]? = some (.cells #[.int .i64 1, .int .i64 2, .int .i64 0, .int .i64 0, .int .i64 0, .int .i64 1, .int .i64 5, .int .i64 0, .int .i64 0, .int .i64 0, .int .i64 0, .int .i64 0, .int .i64 0] 29 (0, 0)) := by rw [← hZ]; exact set13_row rfl hz _ _ _ _ _ _ _ _ _ _ _ _ _
    obtain ⟨z0, z1, z2, z3, z4, z5, z6, z7, z8, z9, z10, z11, z12⟩ := cells13 r11
    have hzo : Z.heap[w4.heap.size]? = y2.heap[w4.heap.size]? := by rw [← hZ]; exact set13_other hne2 _ _ _ _ _ _ _ _ _ _ _ _ _
    obtain ⟨p0, p1, p2, p3, p4, p5, p6, p7, p8, p9, p10, p11, p12⟩ := cells13 (hzo.trans (row_on HR6.out HY2.out))
    have HY2w : Below w.heap.size w y2 := HB2.out.trans ((HB6.out.trans (HY2.out.mono HB6.out.size)).mono HB2.out.size)
    have HZ : Hid (Below w.heap.size w Z) := by
      rw [← hZ]
      exact set13_below HY2w (Nat.le_trans HB2.out.size HB6.out.size) _ _ _ _ _ _ _ _ _ _ _ _ _
    clear hZ hzo r11 HR6 HY1 HY2 HQ2 HY2w HB6 HB2 FW GE hz f0 f1 f2 f3 f4 f5 f6 f7 f8 f9 f10 f11 f12
    go_wp2_with fail
    refine (PS.out _).mono ?_
    rintro e y5 ⟨rfl, hb⟩
    have HZ5 : Hid (Below w.heap.size w y5) := HZ.out.trans (hb.mono HZ.out.size)
    clear hb HZ
    go_wp2_with fail
    refine (AW.out _).mono ?_
    rintro e y6 ⟨rfl, hb⟩
    have HZ6 : Hid (Below w.heap.size w y6) := HZ5.out.trans (hb.mono HZ5.out.size)
    clear hb HZ5
    go_wp2_with fail
    go_ret
    exact ⟨rfl, HZ6.out⟩

set_option maxRecDepth 20000 in
set_option maxHeartbeats 8000000 in
theorem rollOthers_1 (v : Value) (l : List Int) (how : Int) (w : World) (hI : Ints w v l) (hl : l.length ≤ 30) (hm : how % 5 = 1) :
    Calls Try.prog 3 #[v, .int .i64 how] w fun e w' => e = .returned (.bool true) ∧ Below w.heap.size w w' := by
  have NW := rfhid (new_t304 w)
  have GE := rfhid geom_t304
  have SG := rfhid segs8_t
  have SL := rfhid (fun (w1 : World) => slot0_t 2 w1)
  have PS := rfhid (fun (w1 : World) => psame_t ⟨3, 8, 1, 2, 0, 0, 0, 1, 5, 0, 0, 0, 0, 0, 0, []⟩ w1)
  have PL := rfhid (fun (w1 : World) => gplace_t how 5 w1 (by decide) (by decide))
  rw [hm] at PL
  have AW := rfhid awake_t15
  have FL := rfhid (fun (b gd : Nat) (V : Nat → Value) (u : World) (hD : Disk u b (St.new 304) gd V) (hb : Below w.heap.size w u) (hf : ∀ k, foot b gd V k → w.heap.size ≤ k) => fill_t b gd V v l u hD (hI.on hb) (away_in hI (Nat.le_refl _) hf) (by omega))
  obtain ⟨vad, vcap, rfl, -⟩ := hI
  clear hm
  go_enter Try.func3, Try.ntmps3
  go_wp2_with fail
  refine NW.out.mono ?_
  rintro e w1 ⟨b, gd, V, rfl, hD1, hb1, hf1⟩
  have HB1 := rfhid hb1
  have HF1 := rfhid hf1
  have FL1 := rfhid (FL.out b gd V w1 hD1 hb1 hf1)
  clear hD1 hb1 hf1 NW FL
  go_wp2_with fail
  refine FL1.out.mono ?_
  rintro e w2 ⟨mv, cs, S, V2, L, rfl, hmo, -, hD2, hfil, hst, -, -, -⟩
  obtain ⟨mad, mcap, rfl⟩ := hmo.slice
  have HD2 := rfhid hD2
  have HB2 : Hid (Below w.heap.size w w2) := hst.under HB1.out HF1.out (Nat.le_refl _)
  have HRO : Hid (Rolls S.read 8 (seqL 0 8) ⟨3, 8, 1, 2, 0, 0, 0, 1, 5, 0, 0, 0, 0, 0, 0, []⟩ [] ⟨3, 8, 1, 2, 0, 0, 0, 1, 5, 0, 0, 0, 0, 0, 0, []⟩) := hfil.gen
  have HSN := rfhid hfil.n
  have HSD := rfhid hfil.down
  clear hmo hD2 hfil hst FL1 HB1 HF1
  go_wp2_with fail
  refine (SL.out _).mono ?_
  rintro e w3 ⟨rfl, hb3⟩
  have HB3 := rfhid hb3
  clear hb3 SL
  go_wp2_with fail
  refine (SG.out _).mono ?_
  rintro e w4 ⟨sad, rfl, hI4, hb4⟩
  have HB4 : Hid (Below w2.heap.size w2 w4) := HB3.out.trans (hb4.mono HB3.out.size)
  have HI4 := rfhid hI4
  clear hb4 hI4 HB3 SG
  go_wp2_with fail
  generalize hW : World.alloc w4 _ = W
  have hr5 : W.heap[w4.heap.size]? = some (.cells #[.int .i64 1, .int .i64 2, .int .i64 0, .int .i64 0, .int .i64 0, .int .i64 1, .int .i64 5, .int .i64 0, .int .i64 0, .int .i64 0, .int .i64 0, .int .i64 0, .int .i64 0] 29 (0, 0)) := by rw [← hW]; exact heap_alloc_new _ _
  have hb5 : Below w4.heap.size w4 W := by rw [← hW]; exact (Below.refl _ _).alloc (Nat.le_refl _) _
  have HI5 := rfhid (HI4.out.on hb5)
  have HB5 : Hid (Below w2.heap.size w2 W) := HB4.out.trans (hb5.mono HB4.out.size)
  have hs4 : w2.heap.size ≤ w4.heap.size := HB4.out.size
  have hs5 : w4.heap.size < W.heap.size := (Array.getElem?_eq_some_iff.1 hr5).1
  have HI4k := rfhid (fun (X : World) (h : Below w4.heap.size W X) => HI4.out.on (hb5.trans h))
  clear hW hb5 HI4 HB4
  refine (PL.out _).mono ?_
  rintro e wq ⟨rfl, rfl⟩
  clear PL
  have HR5 := rfhid hr5
  clear hr5
  go_wp2_with fail
  obtain ⟨X, rfl⟩ : ∃ X, X = W := ⟨_, rfl⟩
  have hr6 := HR5.out
  have HI6 := rfhid HI5.out
  have HB6 := rfhid HB5.out
  have hs6 := hs5
  clear HI5 HB5 HR5
  have HR6 := rfhid hr6
  obtain ⟨p0, p1, p2, p3, p4, p5, p6, p7, p8, p9, p10, p11, p12⟩ := cells13 hr6
  clear hr6
  have FW := rfhid (fun (w8 : World) (hb : Below X.heap.size X w8) => (fw_t b gd S V2 ⟨3, 8, 1, 2, 0, 0, 0, 1, 5, 0, 0, 0, 0, 0, 0, []⟩ ⟨3, 8, 1, 2, 0, 0, 0, 1, 5, 0, 0, 0, 0, 0, 0, []⟩ (.slice (some sad) 8 8) (seqL 0 8) [] w8 (HI6.out.on hb) (by decide) (HD2.out.below (HB6.out.trans (hb.mono HB6.out.size))) HSN.out HSD.out HRO.out (by decide)).mono fun e w' ⟨ad, cap, Lv, he, _, _, hb2⟩ => fw_got he hb hb2)
  have hne1 : X.heap.size ≠ w4.heap.size := by omega
  have hne2 : w4.heap.size ≠ X.heap.size := by omega
  clear HD2 HI6 HSN HSD HRO
  go_region_held3 (fun w' => w'.cell? ⟨w4.heap.size, 0, none⟩ = some (.int .i64 1) ∧ w'.cell? ⟨w4.heap.size, 1, none⟩ = some (.int .i64 2) ∧ w'.cell? ⟨w4.heap.size, 2, none⟩ = some (.int .i64 0) ∧ w'.cell? ⟨w4.heap.size, 3, none⟩ = some (.int .i64 0) ∧ w'.cell? ⟨w4.heap.size, 4, none⟩ = some (.int .i64 0) ∧ w'.cell? ⟨w4.heap.size, 5, none⟩ = some (.int .i64 1) ∧ w'.cell? ⟨w4.heap.size, 6, none⟩ = some (.int .i64 5) ∧ w'.cell? ⟨w4.heap.size, 7, none⟩ = some (.int .i64 0) ∧ w'.cell? ⟨w4.heap.size, 8, none⟩ = some (.int .i64 0) ∧ w'.cell? ⟨w4.heap.size, 9, none⟩ = some (.int .i64 0) ∧ w'.cell? ⟨w4.heap.size, 10, none⟩ = some (.int .i64 0) ∧ w'.cell? ⟨w4.heap.size, 11, none⟩ = some (.int .i64 0) ∧ w'.cell? ⟨w4.heap.size, 12, none⟩ = some (.int .i64 0)) (go_keep)
    (first
      | (go_at_call 14
         refine (GE.out _).mono ?_
         rintro e y1 ⟨rfl, hy1⟩
         have HY1 : Hid (Below X.heap.size X y1) := by first | exact under_drew hy1 | exact below_pre hy1 | exact hy1
         (first | (have hzx := zrow_pre hy1) | skip)
         obtain ⟨p0, p1, p2, p3, p4, p5, p6, p7, p8, p9, p10, p11, p12⟩ := cells13 (row_on HR6.out HY1.out)
         have hney1 : y1.heap.size ≠ w4.heap.size := by have := HY1.out.size; omega
         have hney2 : w4.heap.size ≠ y1.heap.size := by omega
         clear hy1)
      | (go_at_call 13
         refine (FW.out _ (by first | exact HY1.out | exact HY1.out.alloc HY1.out.size _)).mono ?_
         rintro e y2 ⟨lad, lcap, rfl, HY2, hy2⟩
         (first
           | (have hz := zrow_pre0 hy2
              obtain ⟨z0, z1, z2, z3, z4, z5, z6, z7, z8, z9, z10, z11, z12⟩ := cells13 hz
              obtain ⟨f0, f1, f2, f3, f4, f5, f6, f7, f8, f9, f10, f11, f12⟩ := frozen13 hz)
           | (have hz := row_on hzx hy2
              obtain ⟨z0, z1, z2, z3, z4, z5, z6, z7, z8, z9, z10, z11, z12⟩ := cells13 hz
              obtain ⟨f0, f1, f2, f3, f4, f5, f6, f7, f8, f9, f10, f11, f12⟩ := frozen13 hz)
           | skip)
         obtain ⟨p0, p1, p2, p3, p4, p5, p6, p7, p8, p9, p10, p11, p12⟩ := cells13 (row_on HR6.out HY2.out)
         have HQ2 := rfhid hy2
         clear hy2))
  · generalize hZ : World.alloc y2 _ = Z
    have hyz : Below y2.heap.size y2 Z := by rw [← hZ]; exact (Below.refl _ _).alloc (Nat.le_refl _) _
    have r11 : Z.heap[y2.heap.size]? = some (.cells #[.int .i64 1, .int .i64 2, .int .i64 0, .int .i64 0, .int .i64 0, .int .i64 1, .int .i64 5, .int .i64 0, .int .i64 0, .int .i64 0, .int .i64 0, .int .i64 0, .int .i64 0] 29 (0, 0)) := by rw [← hZ]; exact heap_alloc_new _ _
    obtain ⟨z0, z1, z2, z3, z4, z5, z6, z7, z8, z9, z10, z11, z12⟩ := cells13 r11
    obtain ⟨p0, p1, p2, p3, p4, p5, p6, p7, p8, p9, p10, p11, p12⟩ := cells13 (row_on (row_on HR6.out HY2.out) hyz)
    have HZ : Hid (Below w.heap.size w Z) := HB2.out.trans ((HB6.out.trans ((HY2.out.trans (hyz.mono HY2.out.size)).mono HB6.out.size)).mono HB2.out.size)
    clear hZ hyz r11 HR6 HY1 HY2 HQ2 HB6 HB2 FW GE
    go_wp2_with fail
    refine (PS.out _).mono ?_
    rintro e y5 ⟨rfl, hb⟩
    have HZ5 : Hid (Below w.heap.size w y5) := HZ.out.trans (hb.mono HZ.out.size)
    clear hb HZ
    go_wp2_with fail
    refine (AW.out _).mono ?_
    rintro e y6 ⟨rfl, hb⟩
    have HZ6 : Hid (Below w.heap.size w y6) := HZ5.out.trans (hb.mono HZ5.out.size)
    clear hb HZ5
    go_wp2_with fail
    go_ret
    exact ⟨rfl, HZ6.out⟩
  · rw [set13_is]
    generalize hZ : set13 y2 _ _ _ _ _ _ _ _ _ _ _ _ _ _ = Z
    have r11 : Z.heap[y1.heap.size]? = some (.cells #[.int .i64 1, .int .i64 2, .int .i64 0, .int .i64 0, .int .i64 0, .int .i64 1, .int .i64 5, .int .i64 0, .int .i64 0, .int .i64 0, .int .i64 0, .int .i64 0, .int .i64 0] 29 (0, 0)) := by rw [← hZ]; exact set13_row rfl hz _ _ _ _ _ _ _ _ _ _ _ _ _
    obtain ⟨z0, z1, z2, z3, z4, z5, z6, z7, z8, z9, z10, z11, z12⟩ := cells13 r11
    have hzo : Z.heap[w4.heap.size]? = y2.heap[w4.heap.size]? := by rw [← hZ]; exact set13_other hney2 _ _ _ _ _ _ _ _ _ _ _ _ _
    obtain ⟨p0, p1, p2, p3, p4, p5, p6, p7, p8, p9, p10, p11, p12⟩ := cells13 (hzo.trans (row_on HR6.out HY2.out))
    have HY2w : Below w.heap.size w y2 := HB2.out.trans ((HB6.out.trans (HY2.out.mono HB6.out.size)).mono HB2.out.size)
    have HZ : Hid (Below w.heap.size w Z) := by
      rw [← hZ]
      exact set13_below HY2w (Nat.le_trans HB2.out.size (Nat.le_trans HB6.out.size HY1.out.size)) _ _ _ _ _ _ _ _ _ _ _ _ _
    clear hZ hzo r11 HR6 HY1 HY2 HQ2 HY2w HB6 HB2 FW GE hz f0 f1 f2 f3 f4 f5 f6 f7 f8 f9 f10 f11 f12
    go_wp2_with fail
    refine (PS.out _).mono ?_
    rintro e y5 ⟨rfl, hb⟩
    have HZ5 : Hid (Below w.heap.size w y5) := HZ.out.trans (hb.mono HZ.out.size)
    clear hb HZ
    go_wp2_with fail
    refine (AW.out _).mono ?_
    rintro e y6 ⟨rfl, hb⟩
    have HZ6 : Hid (Below w.heap.size w y6) := HZ5.out.trans (hb.mono HZ5.out.size)
    clear hb HZ5
    go_wp2_with fail
    go_ret
    exact ⟨rfl, HZ6.out⟩
  · rw [set13_is]
    generalize hZ : set13 y2 _ _ _ _ _ _ _ _ _ _ _ _ _ _ = Z
    have r11 : Z.heap[X.heap.size]? = some (.cells #[.int .i64 1, .int .i64 2, .int .i64 0, .int .i64 0, .int .i64 0, .int .i64 1, .int .i64 5, .int .i64 0, .int .i64 0, .int .i64 0, .int .i64 0, .int .i64 0, .int .i64 0] 29 (0, 0)) := by rw [← hZ]; exact set13_row rfl hz _ _ _ _ _ _ _ _ _ _ _ _ _
    obtain ⟨z0, z1, z2, z3, z4, z5, z6, z7, z8, z9, z10, z11, z12⟩ := cells13 r11
    have hzo : Z.heap[w4.heap.size]? = y2.heap[w4.heap.size]? := by rw [← hZ]; exact set13_other hne2 _ _ _ _ _ _ _ _ _ _ _ _ _
    obtain ⟨p0, p1, p2, p3, p4, p5, p6, p7, p8, p9, p10, p11, p12⟩ := cells13 (hzo.trans (row_on HR6.out HY2.out))
    have HY2w : Below w.heap.size w y2 := HB2.out.trans ((HB6.out.trans (HY2.out.mono HB6.out.size)).mono HB2.out.size)
    have HZ : Hid (Below w.heap.size w Z) := by
      rw [← hZ]
      exact set13_below HY2w (Nat.le_trans HB2.out.size HB6.out.size) _ _ _ _ _ _ _ _ _ _ _ _ _
    clear hZ hzo r11 HR6 HY1 HY2 HQ2 HY2w HB6 HB2 FW GE hz f0 f1 f2 f3 f4 f5 f6 f7 f8 f9 f10 f11 f12
    go_wp2_with fail
    refine (PS.out _).mono ?_
    rintro e y5 ⟨rfl, hb⟩
    have HZ5 : Hid (Below w.heap.size w y5) := HZ.out.trans (hb.mono HZ.out.size)
    clear hb HZ
    go_wp2_with fail
    refine (AW.out _).mono ?_
    rintro e y6 ⟨rfl, hb⟩
    have HZ6 : Hid (Below w.heap.size w y6) := HZ5.out.trans (hb.mono HZ5.out.size)
    clear hb HZ5
    go_wp2_with fail
    go_ret
    exact ⟨rfl, HZ6.out⟩

set_option maxRecDepth 20000 in
set_option maxHeartbeats 8000000 in
theorem rollOthers_2 (v : Value) (l : List Int) (how : Int) (w : World) (hI : Ints w v l) (hl : l.length ≤ 30) (hm : how % 5 = 2) :
    Calls Try.prog 3 #[v, .int .i64 how] w fun e w' => e = .returned (.bool true) ∧ Below w.heap.size w w' := by
  have NW := rfhid (new_t304 w)
  have GE := rfhid geom_t304
  have SG := rfhid segs8_t
  have SL := rfhid (fun (w1 : World) => slot0_t 2 w1)
  have PS := rfhid (fun (w1 : World) => psame_t ⟨3, 7, 1, 3, 0, 0, 0, 1, 5, 0, 0, 0, 0, 0, 0, []⟩ w1)
  have PL := rfhid (fun (w1 : World) => gplace_t how 5 w1 (by decide) (by decide))
  rw [hm] at PL
  have AW := rfhid awake_t15
  have FL := rfhid (fun (b gd : Nat) (V : Nat → Value) (u : World) (hD : Disk u b (St.new 304) gd V) (hb : Below w.heap.size w u) (hf : ∀ k, foot b gd V k → w.heap.size ≤ k) => fill_t b gd V v l u hD (hI.on hb) (away_in hI (Nat.le_refl _) hf) (by omega))
  obtain ⟨vad, vcap, rfl, -⟩ := hI
  clear hm
  go_enter Try.func3, Try.ntmps3
  go_wp2_with fail
  refine NW.out.mono ?_
  rintro e w1 ⟨b, gd, V, rfl, hD1, hb1, hf1⟩
  have HB1 := rfhid hb1
  have HF1 := rfhid hf1
  have FL1 := rfhid (FL.out b gd V w1 hD1 hb1 hf1)
  clear hD1 hb1 hf1 NW FL
  go_wp2_with fail
  refine FL1.out.mono ?_
  rintro e w2 ⟨mv, cs, S, V2, L, rfl, hmo, -, hD2, hfil, hst, -, -, -⟩
  obtain ⟨mad, mcap, rfl⟩ := hmo.slice
  have HD2 := rfhid hD2
  have HB2 : Hid (Below w.heap.size w w2) := hst.under HB1.out HF1.out (Nat.le_refl _)
  have HRO : Hid (Rolls S.read 8 (seqL 0 8) ⟨3, 7, 1, 3, 0, 0, 0, 1, 5, 0, 0, 0, 0, 0, 0, []⟩ [] ⟨3, 7, 1, 3, 0, 0, 0, 1, 5, 0, 0, 0, 0, 0, 0, []⟩) := hfil.life
  have HSN := rfhid hfil.n
  have HSD := rfhid hfil.down
  clear hmo hD2 hfil hst FL1 HB1 HF1
  go_wp2_with fail
  refine (SL.out _).mono ?_
  rintro e w3 ⟨rfl, hb3⟩
  have HB3 := rfhid hb3
  clear hb3 SL
  go_wp2_with fail
  refine (SG.out _).mono ?_
  rintro e w4 ⟨sad, rfl, hI4, hb4⟩
  have HB4 : Hid (Below w2.heap.size w2 w4) := HB3.out.trans (hb4.mono HB3.out.size)
  have HI4 := rfhid hI4
  clear hb4 hI4 HB3 SG
  go_wp2_with fail
  generalize hW : World.alloc w4 _ = W
  have hr5 : W.heap[w4.heap.size]? = some (.cells #[.int .i64 1, .int .i64 2, .int .i64 0, .int .i64 0, .int .i64 0, .int .i64 1, .int .i64 5, .int .i64 0, .int .i64 0, .int .i64 0, .int .i64 0, .int .i64 0, .int .i64 0] 29 (0, 0)) := by rw [← hW]; exact heap_alloc_new _ _
  have hb5 : Below w4.heap.size w4 W := by rw [← hW]; exact (Below.refl _ _).alloc (Nat.le_refl _) _
  have HI5 := rfhid (HI4.out.on hb5)
  have HB5 : Hid (Below w2.heap.size w2 W) := HB4.out.trans (hb5.mono HB4.out.size)
  have hs4 : w2.heap.size ≤ w4.heap.size := HB4.out.size
  have hs5 : w4.heap.size < W.heap.size := (Array.getElem?_eq_some_iff.1 hr5).1
  have HI4k := rfhid (fun (X : World) (h : Below w4.heap.size W X) => HI4.out.on (hb5.trans h))
  clear hW hb5 HI4 HB4
  refine (PL.out _).mono ?_
  rintro e wq ⟨rfl, rfl⟩
  clear PL
  have d1 : W.cell? ⟨w4.heap.size, 1, none⟩ = some (.int .i64 2) := (cell_of_row _ _ _ _ _ _ hr5).trans rfl
  have fd := frozen_of_row W w4.heap.size 1 _ _ hr5
  have HR5 := rfhid hr5
  clear hr5
  go_wp2_with fail
  generalize hX : World.setCell W _ _ = X
  have hr6 : X.heap[w4.heap.size]? = some (.cells #[.int .i64 1, .int .i64 3, .int .i64 0, .int .i64 0, .int .i64 0, .int .i64 1, .int .i64 5, .int .i64 0, .int .i64 0, .int .i64 0, .int .i64 0, .int .i64 0, .int .i64 0] 29 (0, 0)) := by rw [← hX]; exact heap_setCell_same W w4.heap.size 1 _ _ _ HR5.out
  have hb6 : Below w4.heap.size W X := by rw [← hX]; exact (Below.refl w4.heap.size W).setCell (p := ⟨w4.heap.size, 1, none⟩) (Nat.le_refl _) _
  have HB6 : Hid (Below w2.heap.size w2 X) := HB5.out.trans (hb6.mono hs4)
  have hs6 : w4.heap.size < X.heap.size := (Array.getElem?_eq_some_iff.1 hr6).1
  have HI6 : Hid (Ints X (.slice (some sad) 8 8) (seqL 0 8)) := HI4k.out X hb6
  clear hX hb6 HI5 HB5 HR5 d1 fd
  have HR6 := rfhid hr6
  obtain ⟨p0, p1, p2, p3, p4, p5, p6, p7, p8, p9, p10, p11, p12⟩ := cells13 hr6
  clear hr6
  have FW := rfhid (fun (w8 : World) (hb : Below X.heap.size X w8) => (fw_t b gd S V2 ⟨3, 7, 1, 3, 0, 0, 0, 1, 5, 0, 0, 0, 0, 0, 0, []⟩ ⟨3, 7, 1, 3, 0, 0, 0, 1, 5, 0, 0, 0, 0, 0, 0, []⟩ (.slice (some sad) 8 8) (seqL 0 8) [] w8 (HI6.out.on hb) (by decide) (HD2.out.below (HB6.out.trans (hb.mono HB6.out.size))) HSN.out HSD.out HRO.out (by decide)).mono fun e w' ⟨ad, cap, Lv, he, _, _, hb2⟩ => fw_got he hb hb2)
  have hne1 : X.heap.size ≠ w4.heap.size := by omega
  have hne2 : w4.heap.size ≠ X.heap.size := by omega
  clear HD2 HI6 HSN HSD HRO
  go_region_held3 (fun w' => w'.cell? ⟨w4.heap.size, 0, none⟩ = some (.int .i64 1) ∧ w'.cell? ⟨w4.heap.size, 1, none⟩ = some (.int .i64 3) ∧ w'.cell? ⟨w4.heap.size, 2, none⟩ = some (.int .i64 0) ∧ w'.cell? ⟨w4.heap.size, 3, none⟩ = some (.int .i64 0) ∧ w'.cell? ⟨w4.heap.size, 4, none⟩ = some (.int .i64 0) ∧ w'.cell? ⟨w4.heap.size, 5, none⟩ = some (.int .i64 1) ∧ w'.cell? ⟨w4.heap.size, 6, none⟩ = some (.int .i64 5) ∧ w'.cell? ⟨w4.heap.size, 7, none⟩ = some (.int .i64 0) ∧ w'.cell? ⟨w4.heap.size, 8, none⟩ = some (.int .i64 0) ∧ w'.cell? ⟨w4.heap.size, 9, none⟩ = some (.int .i64 0) ∧ w'.cell? ⟨w4.heap.size, 10, none⟩ = some (.int .i64 0) ∧ w'.cell? ⟨w4.heap.size, 11, none⟩ = some (.int .i64 0) ∧ w'.cell? ⟨w4.heap.size, 12, none⟩ = some (.int .i64 0)) (go_keep)
    (first
      | (go_at_call 14
         refine (GE.out _).mono ?_
         rintro e y1 ⟨rfl, hy1⟩
         have HY1 : Hid (Below X.heap.size X y1) := by first | exact under_drew hy1 | exact below_pre hy1 | exact hy1
         (first | (have hzx := zrow_pre hy1) | skip)
         obtain ⟨p0, p1, p2, p3, p4, p5, p6, p7, p8, p9, p10, p11, p12⟩ := cells13 (row_on HR6.out HY1.out)
         have hney1 : y1.heap.size ≠ w4.heap.size := by have := HY1.out.size; omega
         have hney2 : w4.heap.size ≠ y1.heap.size := by omega
         clear hy1)
      | (go_at_call 13
         refine (FW.out _ (by first | exact HY1.out | exact HY1.out.alloc HY1.out.size _)).mono ?_
         rintro e y2 ⟨lad, lcap, rfl, HY2, hy2⟩
         (first
           | (have hz := zrow_pre0 hy2
              obtain ⟨z0, z1, z2, z3, z4, z5, z6, z7, z8, z9, z10, z11, z12⟩ := cells13 hz
              obtain ⟨f0, f1, f2, f3, f4, f5, f6, f7, f8, f9, f10, f11, f12⟩ := frozen13 hz)
           | (have hz := row_on hzx hy2
              obtain ⟨z0, z1, z2, z3, z4, z5, z6, z7, z8, z9, z10, z11, z12⟩ := cells13 hz
              obtain ⟨f0, f1, f2, f3, f4, f5, f6, f7, f8, f9, f10, f11, f12⟩ := frozen13 hz)
           | skip)
         obtain ⟨p0, p1, p2, p3, p4, p5, p6, p7, p8, p9, p10, p11, p12⟩ := cells13 (row_on HR6.out HY2.out)
         have HQ2 := rfhid hy2
         clear hy2))
  · generalize hZ : World.alloc y2 _ = Z
    have hyz : Below y2.heap.size y2 Z := by rw [← hZ]; exact (Below.refl _ _).alloc (Nat.le_refl _) _
    have r11 : Z.heap[y2.heap.size]? = some (.cells #[.int .i64 1, .int .i64 3, .int .i64 0, .int .i64 0, .int .i64 0, .int .i64 1, .int .i64 5, .int .i64 0, .int .i64 0, .int .i64 0, .int .i64 0, .int .i64 0, .int .i64 0] 29 (0, 0)) := by rw [← hZ]; exact heap_alloc_new _ _
    obtain ⟨z0, z1, z2, z3, z4, z5, z6, z7, z8, z9, z10, z11, z12⟩ := cells13 r11
    obtain ⟨p0, p1, p2, p3, p4, p5, p6, p7, p8, p9, p10, p11, p12⟩ := cells13 (row_on (row_on HR6.out HY2.out) hyz)
    have HZ : Hid (Below w.heap.size w Z) := HB2.out.trans ((HB6.out.trans ((HY2.out.trans (hyz.mono HY2.out.size)).mono HB6.out.size)).mono HB2.out.size)
    clear hZ hyz r11 HR6 HY1 HY2 HQ2 HB6 HB2 FW GE
    go_wp2_with fail
    refine (PS.out _).mono ?_
    rintro e y5 ⟨rfl, hb⟩
    have HZ5 : Hid (Below w.heap.size w y5) := HZ.out.trans (hb.mono HZ.out.size)
    clear hb HZ
    go_wp2_with fail
    refine (AW.out _).mono ?_
    rintro e y6 ⟨rfl, hb⟩
    have HZ6 : Hid (Below w.heap.size w y6) := HZ5.out.trans (hb.mono HZ5.out.size)
    clear hb HZ5
    go_wp2_with fail
    go_ret
    exact ⟨rfl, HZ6.out⟩
  · rw [set13_is]
    generalize hZ : set13 y2 _ _ _ _ _ _ _ _ _ _ _ _ _ _ = Z
    have r11 : Z.heap[y1.heap.size]? = some (.cells #[.int .i64 1, .int .i64 3, .int .i64 0, .int .i64 0, .int .i64 0, .int .i64 1, .int .i64 5, .int .i64 0, .int .i64 0, .int .i64 0, .int .i64 0, .int .i64 0, .int .i64 0] 29 (0, 0)) := by rw [← hZ]; exact set13_row rfl hz _ _ _ _ _ _ _ _ _ _ _ _ _
    obtain ⟨z0, z1, z2, z3, z4, z5, z6, z7, z8, z9, z10, z11, z12⟩ := cells13 r11
    have hzo : Z.heap[w4.heap.size]? = y2.heap[w4.heap.size]? := by rw [← hZ]; exact set13_other hney2 _ _ _ _ _ _ _ _ _ _ _ _ _
    obtain ⟨p0, p1, p2, p3, p4, p5, p6, p7, p8, p9, p10, p11, p12⟩ := cells13 (hzo.trans (row_on HR6.out HY2.out))
    have HY2w : Below w.heap.size w y2 := HB2.out.trans ((HB6.out.trans (HY2.out.mono HB6.out.size)).mono HB2.out.size)
    have HZ : Hid (Below w.heap.size w Z) := by
      rw [← hZ]
      exact set13_below HY2w (Nat.le_trans HB2.out.size (Nat.le_trans HB6.out.size HY1.out.size)) _ _ _ _ _ _ _ _ _ _ _ _ _
    clear hZ hzo r11 HR6 HY1 HY2 HQ2 HY2w HB6 HB2 FW GE hz f0 f1 f2 f3 f4 f5 f6 f7 f8 f9 f10 f11 f12
    go_wp2_with fail
    refine (PS.out _).mono ?_
    rintro e y5 ⟨rfl, hb⟩
    have HZ5 : Hid (Below w.heap.size w y5) := HZ.out.trans (hb.mono HZ.out.size)
    clear hb HZ
    go_wp2_with fail
    refine (AW.out _).mono ?_
    rintro e y6 ⟨rfl, hb⟩
    have HZ6 : Hid (Below w.heap.size w y6) := HZ5.out.trans (hb.mono HZ5.out.size)
    clear hb HZ5
    go_wp2_with fail
    go_ret
    exact ⟨rfl, HZ6.out⟩
  · rw [set13_is]
    generalize hZ : set13 y2 _ _ _ _ _ _ _ _ _ _ _ _ _ _ = Z
    have r11 : Z.heap[X.heap.size]? = some (.cells #[.int .i64 1, .int .i64 3, .int .i64 0, .int .i64 0, .int .i64 0, .int .i64 1, .int .i64 5, .int .i64 0, .int .i64 0, .int .i64 0, .int .i64 0, .int .i64 0, .int .i64 0] 29 (0, 0)) := by rw [← hZ]; exact set13_row rfl hz _ _ _ _ _ _ _ _ _ _ _ _ _
    obtain ⟨z0, z1, z2, z3, z4, z5, z6, z7, z8, z9, z10, z11, z12⟩ := cells13 r11
    have hzo : Z.heap[w4.heap.size]? = y2.heap[w4.heap.size]? := by rw [← hZ]; exact set13_other hne2 _ _ _ _ _ _ _ _ _ _ _ _ _
    obtain ⟨p0, p1, p2, p3, p4, p5, p6, p7, p8, p9, p10, p11, p12⟩ := cells13 (hzo.trans (row_on HR6.out HY2.out))
    have HY2w : Below w.heap.size w y2 := HB2.out.trans ((HB6.out.trans (HY2.out.mono HB6.out.size)).mono HB2.out.size)
    have HZ : Hid (Below w.heap.size w Z) := by
      rw [← hZ]
      exact set13_below HY2w (Nat.le_trans HB2.out.size HB6.out.size) _ _ _ _ _ _ _ _ _ _ _ _ _
    clear hZ hzo r11 HR6 HY1 HY2 HQ2 HY2w HB6 HB2 FW GE hz f0 f1 f2 f3 f4 f5 f6 f7 f8 f9 f10 f11 f12
    go_wp2_with fail
    refine (PS.out _).mono ?_
    rintro e y5 ⟨rfl, hb⟩
    have HZ5 : Hid (Below w.heap.size w y5) := HZ.out.trans (hb.mono HZ.out.size)
    clear hb HZ
    go_wp2_with fail
    refine (AW.out _).mono ?_
    rintro e y6 ⟨rfl, hb⟩
    have HZ6 : Hid (Below w.heap.size w y6) := HZ5.out.trans (hb.mono HZ5.out.size)
    clear hb HZ5
    go_wp2_with fail
    go_ret
    exact ⟨rfl, HZ6.out⟩

set_option maxRecDepth 20000 in
set_option maxHeartbeats 8000000 in
theorem rollOthers_3 (v : Value) (l : List Int) (how : Int) (w : World) (hI : Ints w v l) (hl : l.length ≤ 30) (hm : how % 5 = 3) :
    Calls Try.prog 3 #[v, .int .i64 how] w fun e w' => e = .returned (.bool true) ∧ Below w.heap.size w w' := by
  have NW := rfhid (new_t304 w)
  have GE := rfhid geom_t304
  have SG := rfhid segs8_t
  have SL := rfhid (fun (w1 : World) => slot0_t 2 w1)
  have PS := rfhid (fun (w1 : World) => psame_t ⟨3, 7, 1, 2, 0, 0, 0, 1, 4, 0, 0, 0, 0, 0, 0, []⟩ w1)
  have PL := rfhid (fun (w1 : World) => gplace_t how 5 w1 (by decide) (by decide))
  rw [hm] at PL
  have AW := rfhid awake_t15
  have FL := rfhid (fun (b gd : Nat) (V : Nat → Value) (u : World) (hD : Disk u b (St.new 304) gd V) (hb : Below w.heap.size w u) (hf : ∀ k, foot b gd V k → w.heap.size ≤ k) => fill_t b gd V v l u hD (hI.on hb) (away_in hI (Nat.le_refl _) hf) (by omega))
  obtain ⟨vad, vcap, rfl, -⟩ := hI
  clear hm
  go_enter Try.func3, Try.ntmps3
  go_wp2_with fail
  refine NW.out.mono ?_
  rintro e w1 ⟨b, gd, V, rfl, hD1, hb1, hf1⟩
  have HB1 := rfhid hb1
  have HF1 := rfhid hf1
  have FL1 := rfhid (FL.out b gd V w1 hD1 hb1 hf1)
  clear hD1 hb1 hf1 NW FL
  go_wp2_with fail
  refine FL1.out.mono ?_
  rintro e w2 ⟨mv, cs, S, V2, L, rfl, hmo, -, hD2, hfil, hst, -, -, -⟩
  obtain ⟨mad, mcap, rfl⟩ := hmo.slice
  have HD2 := rfhid hD2
  have HB2 : Hid (Below w.heap.size w w2) := hst.under HB1.out HF1.out (Nat.le_refl _)
  have HRO : Hid (Rolls S.read 8 (seqL 0 8) ⟨3, 7, 1, 2, 0, 0, 0, 1, 4, 0, 0, 0, 0, 0, 0, []⟩ [] ⟨3, 7, 1, 2, 0, 0, 0, 1, 4, 0, 0, 0, 0, 0, 0, []⟩) := hfil.number
  have HSN := rfhid hfil.n
  have HSD := rfhid hfil.down
  clear hmo hD2 hfil hst FL1 HB1 HF1
  go_wp2_with fail
  refine (SL.out _).mono ?_
  rintro e w3 ⟨rfl, hb3⟩
  have HB3 := rfhid hb3
  clear hb3 SL
  go_wp2_with fail
  refine (SG.out _).mono ?_
  rintro e w4 ⟨sad, rfl, hI4, hb4⟩
  have HB4 : Hid (Below w2.heap.size w2 w4) := HB3.out.trans (hb4.mono HB3.out.size)
  have HI4 := rfhid hI4
  clear hb4 hI4 HB3 SG
  go_wp2_with fail
  generalize hW : World.alloc w4 _ = W
  have hr5 : W.heap[w4.heap.size]? = some (.cells #[.int .i64 1, .int .i64 2, .int .i64 0, .int .i64 0, .int .i64 0, .int .i64 1, .int .i64 5, .int .i64 0, .int .i64 0, .int .i64 0, .int .i64 0, .int .i64 0, .int .i64 0] 29 (0, 0)) := by rw [← hW]; exact heap_alloc_new _ _
  have hb5 : Below w4.heap.size w4 W := by rw [← hW]; exact (Below.refl _ _).alloc (Nat.le_refl _) _
  have HI5 := rfhid (HI4.out.on hb5)
  have HB5 : Hid (Below w2.heap.size w2 W) := HB4.out.trans (hb5.mono HB4.out.size)
  have hs4 : w2.heap.size ≤ w4.heap.size := HB4.out.size
  have hs5 : w4.heap.size < W.heap.size := (Array.getElem?_eq_some_iff.1 hr5).1
  have HI4k := rfhid (fun (X : World) (h : Below w4.heap.size W X) => HI4.out.on (hb5.trans h))
  clear hW hb5 HI4 HB4
  refine (PL.out _).mono ?_
  rintro e wq ⟨rfl, rfl⟩
  clear PL
  have d6 : W.cell? ⟨w4.heap.size, 6, none⟩ = some (.int .i64 5) := (cell_of_row _ _ _ _ _ _ hr5).trans rfl
  have fd := frozen_of_row W w4.heap.size 6 _ _ hr5
  have HR5 := rfhid hr5
  clear hr5
  go_wp2_with fail
  generalize hX : World.setCell W _ _ = X
  have hr6 : X.heap[w4.heap.size]? = some (.cells #[.int .i64 1, .int .i64 2, .int .i64 0, .int .i64 0, .int .i64 0, .int .i64 1, .int .i64 4, .int .i64 0, .int .i64 0, .int .i64 0, .int .i64 0, .int .i64 0, .int .i64 0] 29 (0, 0)) := by rw [← hX]; exact heap_setCell_same W w4.heap.size 6 _ _ _ HR5.out
  have hb6 : Below w4.heap.size W X := by rw [← hX]; exact (Below.refl w4.heap.size W).setCell (p := ⟨w4.heap.size, 6, none⟩) (Nat.le_refl _) _
  have HB6 : Hid (Below w2.heap.size w2 X) := HB5.out.trans (hb6.mono hs4)
  have hs6 : w4.heap.size < X.heap.size := (Array.getElem?_eq_some_iff.1 hr6).1
  have HI6 : Hid (Ints X (.slice (some sad) 8 8) (seqL 0 8)) := HI4k.out X hb6
  clear hX hb6 HI5 HB5 HR5 d6 fd
  have HR6 := rfhid hr6
  obtain ⟨p0, p1, p2, p3, p4, p5, p6, p7, p8, p9, p10, p11, p12⟩ := cells13 hr6
  clear hr6
  have FW := rfhid (fun (w8 : World) (hb : Below X.heap.size X w8) => (fw_t b gd S V2 ⟨3, 7, 1, 2, 0, 0, 0, 1, 4, 0, 0, 0, 0, 0, 0, []⟩ ⟨3, 7, 1, 2, 0, 0, 0, 1, 4, 0, 0, 0, 0, 0, 0, []⟩ (.slice (some sad) 8 8) (seqL 0 8) [] w8 (HI6.out.on hb) (by decide) (HD2.out.below (HB6.out.trans (hb.mono HB6.out.size))) HSN.out HSD.out HRO.out (by decide)).mono fun e w' ⟨ad, cap, Lv, he, _, _, hb2⟩ => fw_got he hb hb2)
  have hne1 : X.heap.size ≠ w4.heap.size := by omega
  have hne2 : w4.heap.size ≠ X.heap.size := by omega
  clear HD2 HI6 HSN HSD HRO
  go_region_held3 (fun w' => w'.cell? ⟨w4.heap.size, 0, none⟩ = some (.int .i64 1) ∧ w'.cell? ⟨w4.heap.size, 1, none⟩ = some (.int .i64 2) ∧ w'.cell? ⟨w4.heap.size, 2, none⟩ = some (.int .i64 0) ∧ w'.cell? ⟨w4.heap.size, 3, none⟩ = some (.int .i64 0) ∧ w'.cell? ⟨w4.heap.size, 4, none⟩ = some (.int .i64 0) ∧ w'.cell? ⟨w4.heap.size, 5, none⟩ = some (.int .i64 1) ∧ w'.cell? ⟨w4.heap.size, 6, none⟩ = some (.int .i64 4) ∧ w'.cell? ⟨w4.heap.size, 7, none⟩ = some (.int .i64 0) ∧ w'.cell? ⟨w4.heap.size, 8, none⟩ = some (.int .i64 0) ∧ w'.cell? ⟨w4.heap.size, 9, none⟩ = some (.int .i64 0) ∧ w'.cell? ⟨w4.heap.size, 10, none⟩ = some (.int .i64 0) ∧ w'.cell? ⟨w4.heap.size, 11, none⟩ = some (.int .i64 0) ∧ w'.cell? ⟨w4.heap.size, 12, none⟩ = some (.int .i64 0)) (go_keep)
    (first
      | (go_at_call 14
         refine (GE.out _).mono ?_
         rintro e y1 ⟨rfl, hy1⟩
         have HY1 : Hid (Below X.heap.size X y1) := by first | exact under_drew hy1 | exact below_pre hy1 | exact hy1
         (first | (have hzx := zrow_pre hy1) | skip)
         obtain ⟨p0, p1, p2, p3, p4, p5, p6, p7, p8, p9, p10, p11, p12⟩ := cells13 (row_on HR6.out HY1.out)
         have hney1 : y1.heap.size ≠ w4.heap.size := by have := HY1.out.size; omega
         have hney2 : w4.heap.size ≠ y1.heap.size := by omega
         clear hy1)
      | (go_at_call 13
         refine (FW.out _ (by first | exact HY1.out | exact HY1.out.alloc HY1.out.size _)).mono ?_
         rintro e y2 ⟨lad, lcap, rfl, HY2, hy2⟩
         (first
           | (have hz := zrow_pre0 hy2
              obtain ⟨z0, z1, z2, z3, z4, z5, z6, z7, z8, z9, z10, z11, z12⟩ := cells13 hz
              obtain ⟨f0, f1, f2, f3, f4, f5, f6, f7, f8, f9, f10, f11, f12⟩ := frozen13 hz)
           | (have hz := row_on hzx hy2
              obtain ⟨z0, z1, z2, z3, z4, z5, z6, z7, z8, z9, z10, z11, z12⟩ := cells13 hz
              obtain ⟨f0, f1, f2, f3, f4, f5, f6, f7, f8, f9, f10, f11, f12⟩ := frozen13 hz)
           | skip)
         obtain ⟨p0, p1, p2, p3, p4, p5, p6, p7, p8, p9, p10, p11, p12⟩ := cells13 (row_on HR6.out HY2.out)
         have HQ2 := rfhid hy2
         clear hy2))
  · generalize hZ : World.alloc y2 _ = Z
    have hyz : Below y2.heap.size y2 Z := by rw [← hZ]; exact (Below.refl _ _).alloc (Nat.le_refl _) _
    have r11 : Z.heap[y2.heap.size]? = some (.cells #[.int .i64 1, .int .i64 2, .int .i64 0, .int .i64 0, .int .i64 0, .int .i64 1, .int .i64 4, .int .i64 0, .int .i64 0, .int .i64 0, .int .i64 0, .int .i64 0, .int .i64 0] 29 (0, 0)) := by rw [← hZ]; exact heap_alloc_new _ _
    obtain ⟨z0, z1, z2, z3, z4, z5, z6, z7, z8, z9, z10, z11, z12⟩ := cells13 r11
    obtain ⟨p0, p1, p2, p3, p4, p5, p6, p7, p8, p9, p10, p11, p12⟩ := cells13 (row_on (row_on HR6.out HY2.out) hyz)
    have HZ : Hid (Below w.heap.size w Z) := HB2.out.trans ((HB6.out.trans ((HY2.out.trans (hyz.mono HY2.out.size)).mono HB6.out.size)).mono HB2.out.size)
    clear hZ hyz r11 HR6 HY1 HY2 HQ2 HB6 HB2 FW GE
    go_wp2_with fail
    refine (PS.out _).mono ?_
    rintro e y5 ⟨rfl, hb⟩
    have HZ5 : Hid (Below w.heap.size w y5) := HZ.out.trans (hb.mono HZ.out.size)
    clear hb HZ
    go_wp2_with fail
    refine (AW.out _).mono ?_
    rintro e y6 ⟨rfl, hb⟩
    have HZ6 : Hid (Below w.heap.size w y6) := HZ5.out.trans (hb.mono HZ5.out.size)
    clear hb HZ5
    go_wp2_with fail
    go_ret
    exact ⟨rfl, HZ6.out⟩
  · rw [set13_is]
    generalize hZ : set13 y2 _ _ _ _ _ _ _ _ _ _ _ _ _ _ = Z
    have r11 : Z.heap[y1.heap.size]? = some (.cells #[.int .i64 1, .int .i64 2, .int .i64 0, .int .i64 0, .int .i64 0, .int .i64 1, .int .i64 4, .int .i64 0, .int .i64 0, .int .i64 0, .int .i64 0, .int .i64 0, .int .i64 0] 29 (0, 0)) := by rw [← hZ]; exact set13_row rfl hz _ _ _ _ _ _ _ _ _ _ _ _ _
    obtain ⟨z0, z1, z2, z3, z4, z5, z6, z7, z8, z9, z10, z11, z12⟩ := cells13 r11
    have hzo : Z.heap[w4.heap.size]? = y2.heap[w4.heap.size]? := by rw [← hZ]; exact set13_other hney2 _ _ _ _ _ _ _ _ _ _ _ _ _
    obtain ⟨p0, p1, p2, p3, p4, p5, p6, p7, p8, p9, p10, p11, p12⟩ := cells13 (hzo.trans (row_on HR6.out HY2.out))
    have HY2w : Below w.heap.size w y2 := HB2.out.trans ((HB6.out.trans (HY2.out.mono HB6.out.size)).mono HB2.out.size)
    have HZ : Hid (Below w.heap.size w Z) := by
      rw [← hZ]
      exact set13_below HY2w (Nat.le_trans HB2.out.size (Nat.le_trans HB6.out.size HY1.out.size)) _ _ _ _ _ _ _ _ _ _ _ _ _
    clear hZ hzo r11 HR6 HY1 HY2 HQ2 HY2w HB6 HB2 FW GE hz f0 f1 f2 f3 f4 f5 f6 f7 f8 f9 f10 f11 f12
    go_wp2_with fail
    refine (PS.out _).mono ?_
    rintro e y5 ⟨rfl, hb⟩
    have HZ5 : Hid (Below w.heap.size w y5) := HZ.out.trans (hb.mono HZ.out.size)
    clear hb HZ
    go_wp2_with fail
    refine (AW.out _).mono ?_
    rintro e y6 ⟨rfl, hb⟩
    have HZ6 : Hid (Below w.heap.size w y6) := HZ5.out.trans (hb.mono HZ5.out.size)
    clear hb HZ5
    go_wp2_with fail
    go_ret
    exact ⟨rfl, HZ6.out⟩
  · rw [set13_is]
    generalize hZ : set13 y2 _ _ _ _ _ _ _ _ _ _ _ _ _ _ = Z
    have r11 : Z.heap[X.heap.size]? = some (.cells #[.int .i64 1, .int .i64 2, .int .i64 0, .int .i64 0, .int .i64 0, .int .i64 1, .int .i64 4, .int .i64 0, .int .i64 0, .int .i64 0, .int .i64 0, .int .i64 0, .int .i64 0] 29 (0, 0)) := by rw [← hZ]; exact set13_row rfl hz _ _ _ _ _ _ _ _ _ _ _ _ _
    obtain ⟨z0, z1, z2, z3, z4, z5, z6, z7, z8, z9, z10, z11, z12⟩ := cells13 r11
    have hzo : Z.heap[w4.heap.size]? = y2.heap[w4.heap.size]? := by rw [← hZ]; exact set13_other hne2 _ _ _ _ _ _ _ _ _ _ _ _ _
    obtain ⟨p0, p1, p2, p3, p4, p5, p6, p7, p8, p9, p10, p11, p12⟩ := cells13 (hzo.trans (row_on HR6.out HY2.out))
    have HY2w : Below w.heap.size w y2 := HB2.out.trans ((HB6.out.trans (HY2.out.mono HB6.out.size)).mono HB2.out.size)
    have HZ : Hid (Below w.heap.size w Z) := by
      rw [← hZ]
      exact set13_below HY2w (Nat.le_trans HB2.out.size HB6.out.size) _ _ _ _ _ _ _ _ _ _ _ _ _
    clear hZ hzo r11 HR6 HY1 HY2 HQ2 HY2w HB6 HB2 FW GE hz f0 f1 f2 f3 f4 f5 f6 f7 f8 f9 f10 f11 f12
    go_wp2_with fail
    refine (PS.out _).mono ?_
    rintro e y5 ⟨rfl, hb⟩
    have HZ5 : Hid (Below w.heap.size w y5) := HZ.out.trans (hb.mono HZ.out.size)
    clear hb HZ
    go_wp2_with fail
    refine (AW.out _).mono ?_
    rintro e y6 ⟨rfl, hb⟩
    have HZ6 : Hid (Below w.heap.size w y6) := HZ5.out.trans (hb.mono HZ5.out.size)
    clear hb HZ5
    go_wp2_with fail
    go_ret
    exact ⟨rfl, HZ6.out⟩

set_option maxRecDepth 20000 in
set_option maxHeartbeats 8000000 in
theorem rollOthers_4 (v : Value) (l : List Int) (how : Int) (w : World) (hI : Ints w v l) (hl : l.length ≤ 30) (hm : how % 5 = 4) :
    Calls Try.prog 3 #[v, .int .i64 how] w fun e w' => e = .returned (.bool true) ∧ Below w.heap.size w w' := by
  have NW := rfhid (new_t304 w)
  have GE := rfhid geom_t304
  have SG := rfhid segs8_t
  have SL := rfhid (fun (w1 : World) => slot0_t 2 w1)
  have PS := rfhid (fun (w1 : World) => psame_t ⟨3, 7, 1, 2, 0, 0, 0, 1, 5, 0, 0, 0, 0, 0, 0, []⟩ w1)
  have PL := rfhid (fun (w1 : World) => gplace_t how 5 w1 (by decide) (by decide))
  rw [hm] at PL
  have AW := rfhid awake_t15
  have FL := rfhid (fun (b gd : Nat) (V : Nat → Value) (u : World) (hD : Disk u b (St.new 304) gd V) (hb : Below w.heap.size w u) (hf : ∀ k, foot b gd V k → w.heap.size ≤ k) => fill_t b gd V v l u hD (hI.on hb) (away_in hI (Nat.le_refl _) hf) (by omega))
  obtain ⟨vad, vcap, rfl, -⟩ := hI
  clear hm
  go_enter Try.func3, Try.ntmps3
  go_wp2_with fail
  refine NW.out.mono ?_
  rintro e w1 ⟨b, gd, V, rfl, hD1, hb1, hf1⟩
  have HB1 := rfhid hb1
  have HF1 := rfhid hf1
  have FL1 := rfhid (FL.out b gd V w1 hD1 hb1 hf1)
  clear hD1 hb1 hf1 NW FL
  go_wp2_with fail
  refine FL1.out.mono ?_
  rintro e w2 ⟨mv, cs, S, V2, L, rfl, hmo, -, hD2, hfil, hst, -, -, -⟩
  obtain ⟨mad, mcap, rfl⟩ := hmo.slice
  have HD2 := rfhid hD2
  have HB2 : Hid (Below w.heap.size w w2) := hst.under HB1.out HF1.out (Nat.le_refl _)
  have HRO : Hid (Rolls S.read 8 ([0, 2, 3]) ⟨3, 7, 1, 2, 0, 0, 0, 1, 5, 0, 0, 0, 0, 0, 0, []⟩ [] ⟨3, 7, 1, 2, 0, 0, 0, 1, 5, 0, 0, 0, 0, 0, 0, []⟩) := hfil.nobody
  have HSN := rfhid hfil.n
  have HSD := rfhid hfil.down
  clear hmo hD2 hfil hst FL1 HB1 HF1
  go_wp2_with fail
  refine (SL.out _).mono ?_
  rintro e w3 ⟨rfl, hb3⟩
  have HB3 := rfhid hb3
  clear hb3 SL
  go_wp2_with fail
  refine (SG.out _).mono ?_
  rintro e w4 ⟨sad, rfl, hI4, hb4⟩
  have HB4 : Hid (Below w2.heap.size w2 w4) := HB3.out.trans (hb4.mono HB3.out.size)
  have HI4 := rfhid hI4
  clear hb4 hI4 HB3 SG
  go_wp2_with fail
  generalize hW : World.alloc w4 _ = W
  have hr5 : W.heap[w4.heap.size]? = some (.cells #[.int .i64 1, .int .i64 2, .int .i64 0, .int .i64 0, .int .i64 0, .int .i64 1, .int .i64 5, .int .i64 0, .int .i64 0, .int .i64 0, .int .i64 0, .int .i64 0, .int .i64 0] 29 (0, 0)) := by rw [← hW]; exact heap_alloc_new _ _
  have hb5 : Below w4.heap.size w4 W := by rw [← hW]; exact (Below.refl _ _).alloc (Nat.le_refl _) _
  have HI5 := rfhid (HI4.out.on hb5)
  have HB5 : Hid (Below w2.heap.size w2 W) := HB4.out.trans (hb5.mono HB4.out.size)
  have hs4 : w2.heap.size ≤ w4.heap.size := HB4.out.size
  have hs5 : w4.heap.size < W.heap.size := (Array.getElem?_eq_some_iff.1 hr5).1
  have HI4k := rfhid (fun (X : World) (h : Below w4.heap.size W X) => HI4.out.on (hb5.trans h))
  clear hW hb5 HI4 HB4
  refine (PL.out _).mono ?_
  rintro e wq ⟨rfl, rfl⟩
  clear PL
  have HR5 := rfhid hr5
  clear hr5
  go_wp2_with fail
  generalize hX : World.alloc W _ = X
  have hb6 : Below W.heap.size W X := by rw [← hX]; exact (Below.refl _ _).alloc (Nat.le_refl _) _
  have hr6 := row_on HR5.out hb6
  have HI6 : Hid (Ints X (.slice (some ⟨W.heap.size, 0, none⟩) 3 3) [0, 2, 3]) := by rw [← hX]; exact Ints.block (l := [0, 2, 3]) (heap_alloc_new W _) rfl (by decide)
  have HB6 : Hid (Below w2.heap.size w2 X) := HB5.out.trans (hb6.mono HB5.out.size)
  have hs6 : w4.heap.size < X.heap.size := (Array.getElem?_eq_some_iff.1 hr6).1
  clear hX hb6 HI5 HB5 HR5
  have HR6 := rfhid hr6
  obtain ⟨p0, p1, p2, p3, p4, p5, p6, p7, p8, p9, p10, p11, p12⟩ := cells13 hr6
  clear hr6
  have FW := rfhid (fun (w8 : World) (hb : Below X.heap.size X w8) => (fw_t b gd S V2 ⟨3, 7, 1, 2, 0, 0, 0, 1, 5, 0, 0, 0, 0, 0, 0, []⟩ ⟨3, 7, 1, 2, 0, 0, 0, 1, 5, 0, 0, 0, 0, 0, 0, []⟩ (.slice (some ⟨W.heap.size, 0, none⟩) 3 3) ([0, 2, 3]) [] w8 (HI6.out.on hb) (by decide) (HD2.out.below (HB6.out.trans (hb.mono HB6.out.size))) HSN.out HSD.out HRO.out (by decide)).mono fun e w' ⟨ad, cap, Lv, he, _, _, hb2⟩ => fw_got he hb hb2)
  have hne1 : X.heap.size ≠ w4.heap.size := by omega
  have hne2 : w4.heap.size ≠ X.heap.size := by omega
  clear HD2 HI6 HSN HSD HRO
  go_region_held3 (fun w' => w'.cell? ⟨w4.heap.size, 0, none⟩ = some (.int .i64 1) ∧ w'.cell? ⟨w4.heap.size, 1, none⟩ = some (.int .i64 2) ∧ w'.cell? ⟨w4.heap.size, 2, none⟩ = some (.int .i64 0) ∧ w'.cell? ⟨w4.heap.size, 3, none⟩ = some (.int .i64 0) ∧ w'.cell? ⟨w4.heap.size, 4, none⟩ = some (.int .i64 0) ∧ w'.cell? ⟨w4.heap.size, 5, none⟩ = some (.int .i64 1) ∧ w'.cell? ⟨w4.heap.size, 6, none⟩ = some (.int .i64 5) ∧ w'.cell? ⟨w4.heap.size, 7, none⟩ = some (.int .i64 0) ∧ w'.cell? ⟨w4.heap.size, 8, none⟩ = some (.int .i64 0) ∧ w'.cell? ⟨w4.heap.size, 9, none⟩ = some (.int .i64 0) ∧ w'.cell? ⟨w4.heap.size, 10, none⟩ = some (.int .i64 0) ∧ w'.cell? ⟨w4.heap.size, 11, none⟩ = some (.int .i64 0) ∧ w'.cell? ⟨w4.heap.size, 12, none⟩ = some (.int .i64 0)) (go_keep)
    (first
      | (go_at_call 14
         refine (GE.out _).mono ?_
         rintro e y1 ⟨rfl, hy1⟩
         have HY1 : Hid (Below X.heap.size X y1) := by first | exact under_drew hy1 | exact below_pre hy1 | exact hy1
         (first | (have hzx := zrow_pre hy1) | skip)
         obtain ⟨p0, p1, p2, p3, p4, p5, p6, p7, p8, p9, p10, p11, p12⟩ := cells13 (row_on HR6.out HY1.out)
         have hney1 : y1.heap.size ≠ w4.heap.size := by have := HY1.out.size; omega
         have hney2 : w4.heap.size ≠ y1.heap.size := by omega
         clear hy1)
      | (go_at_call 13
         refine (FW.out _ (by first | exact HY1.out | exact HY1.out.alloc HY1.out.size _)).mono ?_
         rintro e y2 ⟨lad, lcap, rfl, HY2, hy2⟩
         (first
           | (have hz := zrow_pre0 hy2
              obtain ⟨z0, z1, z2, z3, z4, z5, z6, z7, z8, z9, z10, z11, z12⟩ := cells13 hz
              obtain ⟨f0, f1, f2, f3, f4, f5, f6, f7, f8, f9, f10, f11, f12⟩ := frozen13 hz)
           | (have hz := row_on hzx hy2
              obtain ⟨z0, z1, z2, z3, z4, z5, z6, z7, z8, z9, z10, z11, z12⟩ := cells13 hz
              obtain ⟨f0, f1, f2, f3, f4, f5, f6, f7, f8, f9, f10, f11, f12⟩ := frozen13 hz)
           | skip)
         obtain ⟨p0, p1, p2, p3, p4, p5, p6, p7, p8, p9, p10, p11, p12⟩ := cells13 (row_on HR6.out HY2.out)
         have HQ2 := rfhid hy2
         clear hy2))
  · generalize hZ : World.alloc y2 _ = Z
    have hyz : Below y2.heap.size y2 Z := by rw [← hZ]; exact (Below.refl _ _).alloc (Nat.le_refl _) _
    have r11 : Z.heap[y2.heap.size]? = some (.cells #[.int .i64 1, .int .i64 2, .int .i64 0, .int .i64 0, .int .i64 0, .int .i64 1, .int .i64 5, .int .i64 0, .int .i64 0, .int .i64 0, .int .i64 0, .int .i64 0, .int .i64 0] 29 (0, 0)) := by rw [← hZ]; exact heap_alloc_new _ _
    obtain ⟨z0, z1, z2, z3, z4, z5, z6, z7, z8, z9, z10, z11, z12⟩ := cells13 r11
    obtain ⟨p0, p1, p2, p3, p4, p5, p6, p7, p8, p9, p10, p11, p12⟩ := cells13 (row_on (row_on HR6.out HY2.out) hyz)
    have HZ : Hid (Below w.heap.size w Z) := HB2.out.trans ((HB6.out.trans ((HY2.out.trans (hyz.mono HY2.out.size)).mono HB6.out.size)).mono HB2.out.size)
    clear hZ hyz r11 HR6 HY1 HY2 HQ2 HB6 HB2 FW GE
    go_wp2_with fail
    refine (PS.out _).mono ?_
    rintro e y5 ⟨rfl, hb⟩
    have HZ5 : Hid (Below w.heap.size w y5) := HZ.out.trans (hb.mono HZ.out.size)
    clear hb HZ
    go_wp2_with fail
    refine (AW.out _).mono ?_
    rintro e y6 ⟨rfl, hb⟩
    have HZ6 : Hid (Below w.heap.size w y6) := HZ5.out.trans (hb.mono HZ5.out.size)
    clear hb HZ5
    go_wp2_with fail
    go_ret
    exact ⟨rfl, HZ6.out⟩
  · rw [set13_is]
    generalize hZ : set13 y2 _ _ _ _ _ _ _ _ _ _ _ _ _ _ = Z
    have r11 : Z.heap[y1.heap.size]? = some (.cells #[.int .i64 1, .int .i64 2, .int .i64 0, .int .i64 0, .int .i64 0, .int .i64 1, .int .i64 5, .int .i64 0, .int .i64 0, .int .i64 0, .int .i64 0, .int .i64 0, .int .i64 0] 29 (0, 0)) := by rw [← hZ]; exact set13_row rfl hz _ _ _ _ _ _ _ _ _ _ _ _ _
    obtain ⟨z0, z1, z2, z3, z4, z5, z6, z7, z8, z9, z10, z11, z12⟩ := cells13 r11
    have hzo : Z.heap[w4.heap.size]? = y2.heap[w4.heap.size]? := by rw [← hZ]; exact set13_other hney2 _ _ _ _ _ _ _ _ _ _ _ _ _
    obtain ⟨p0, p1, p2, p3, p4, p5, p6, p7, p8, p9, p10, p11, p12⟩ := cells13 (hzo.trans (row_on HR6.out HY2.out))
    have HY2w : Below w.heap.size w y2 := HB2.out.trans ((HB6.out.trans (HY2.out.mono HB6.out.size)).mono HB2.out.size)
    have HZ : Hid (Below w.heap.size w Z) := by
      rw [← hZ]
      exact set13_below HY2w (Nat.le_trans HB2.out.size (Nat.le_trans HB6.out.size HY1.out.size)) _ _ _ _ _ _ _ _ _ _ _ _ _
    clear hZ hzo r11 HR6 HY1 HY2 HQ2 HY2w HB6 HB2 FW GE hz f0 f1 f2 f3 f4 f5 f6 f7 f8 f9 f10 f11 f12
    go_wp2_with fail
    refine (PS.out _).mono ?_
    rintro e y5 ⟨rfl, hb⟩
    have HZ5 : Hid (Below w.heap.size w y5) := HZ.out.trans (hb.mono HZ.out.size)
    clear hb HZ
    go_wp2_with fail
    refine (AW.out _).mono ?_
    rintro e y6 ⟨rfl, hb⟩
    have HZ6 : Hid (Below w.heap.size w y6) := HZ5.out.trans (hb.mono HZ5.out.size)
    clear hb HZ5
    go_wp2_with fail
    go_ret
    exact ⟨rfl, HZ6.out⟩
  · rw [set13_is]
    generalize hZ : set13 y2 _ _ _ _ _ _ _ _ _ _ _ _ _ _ = Z
    have r11 : Z.heap[X.heap.size]? = some (.cells #[.int .i64 1, .int .i64 2, .int .i64 0, .int .i64 0, .int .i64 0, .int .i64 1, .int .i64 5, .int .i64 0, .int .i64 0, .int .i64 0, .int .i64 0, .int .i64 0, .int .i64 0] 29 (0, 0)) := by rw [← hZ]; exact set13_row rfl hz _ _ _ _ _ _ _ _ _ _ _ _ _
    obtain ⟨z0, z1, z2, z3, z4, z5, z6, z7, z8, z9, z10, z11, z12⟩ := cells13 r11
    have hzo : Z.heap[w4.heap.size]? = y2.heap[w4.heap.size]? := by rw [← hZ]; exact set13_other hne2 _ _ _ _ _ _ _ _ _ _ _ _ _
    obtain ⟨p0, p1, p2, p3, p4, p5, p6, p7, p8, p9, p10, p11, p12⟩ := cells13 (hzo.trans (row_on HR6.out HY2.out))
    have HY2w : Below w.heap.size w y2 := HB2.out.trans ((HB6.out.trans (HY2.out.mono HB6.out.size)).mono HB2.out.size)
    have HZ : Hid (Below w.heap.size w Z) := by
      rw [← hZ]
      exact set13_below HY2w (Nat.le_trans HB2.out.size HB6.out.size) _ _ _ _ _ _ _ _ _ _ _ _ _
    clear hZ hzo r11 HR6 HY1 HY2 HQ2 HY2w HB6 HB2 FW GE hz f0 f1 f2 f3 f4 f5 f6 f7 f8 f9 f10 f11 f12
    go_wp2_with fail
    refine (PS.out _).mono ?_
    rintro e y5 ⟨rfl, hb⟩
    have HZ5 : Hid (Below w.heap.size w y5) := HZ.out.trans (hb.mono HZ.out.size)
    clear hb HZ
    go_wp2_with fail
    refine (AW.out _).mono ?_
    rintro e y6 ⟨rfl, hb⟩
    have HZ6 : Hid (Below w.heap.size w y6) := HZ5.out.trans (hb.mono HZ5.out.size)
    clear hb HZ5
    go_wp2_with fail
    go_ret
    exact ⟨rfl, HZ6.out⟩

set_option maxRecDepth 20000 in
set_option maxHeartbeats 4000000 in
theorem rollOthers_many (v : Value) (l : List Int) (how : Int) (w : World) (hI : Ints w v l) (hl : 30 < l.length) (hl2 : l.length ≤ 9223372036854775807) :
    Calls Try.prog 3 #[v, .int .i64 how] w fun e w' => e = .returned (.bool true) ∧ Below w.heap.size w w' := by
  have AW := rfhid awake_t15
  obtain ⟨vad, vcap, rfl, -⟩ := hI
  go_enter Try.func3, Try.ntmps3
  go_wp2_with fail
  refine (AW.out _).mono ?_
  rintro e w1 ⟨rfl, hb⟩
  have HB := rfhid hb
  clear hb AW
  go_wp2_with fail
  go_ret
  exact ⟨rfl, HB.out⟩
theorem rollOthers_t (v : Value) (l : List Int) (how : Int) (w : World) (hI : Ints w v l) (hl2 : l.length ≤ 9223372036854775807) :
    Calls Try.prog 3 #[v, .int .i64 how] w fun e w' => e = .returned (.bool true) ∧ Below w.heap.size w w' := by
  rcases Nat.lt_or_ge 30 l.length with h | h
  · exact rollOthers_many v l how w hI h hl2
  · rcases (show how % 5 = 0 ∨ how % 5 = 1 ∨ how % 5 = 2 ∨ how % 5 = 3 ∨ how % 5 = 4 by omega) with hm | hm | hm | hm | hm
    · exact rollOthers_0 v l how w hI h hm
    · exact rollOthers_1 v l how w hI h hm
    · exact rollOthers_2 v l how w hI h hm
    · exact rollOthers_3 v l how w hI h hm
    · exact rollOthers_4 v l how w hI h hm
end Go.Proofs.Ytaiebhkjkeadoaa
