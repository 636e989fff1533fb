/- The document's sameness of places; the laws' awake walked. -/
import Derived.Test.YtaiebhkjkeadoaaRollForward
import Derived.Test.YtaiebhkjkeadoaaRollFillT
import Derived.Test.YtaiebhkjkeadoaaRollEnds
namespace Go.Proofs.Ytaiebhkjkeadoaa
open Go.RowKit Lo Hdp Chk Rec Rol

set_option maxRecDepth 10000 in
set_option maxHeartbeats 4000000 in
theorem psame_t (L : Lg) (w : World) :
    Calls Try.prog 15 #[plV L, plV L] w fun e w' => e = .returned (.bool true) ∧ Below w.heap.size w w' := by
  obtain ⟨house, gen, num, life, clock, seg, pos, next, seq, m0, m1, m2, m3, sb, sn, fl⟩ := L
  dsimp only [plV, plC]
  go_enter Try.func15, Try.ntmps15
  go_wp2_with fail
  generalize hW : (w.alloc _).alloc _ = W
  have RA : W.heap[w.heap.size]? = some (.cells #[.int .i64 num, .int .i64 life, .int .i64 clock, .int .i64 seg, .int .i64 pos, .int .i64 next, .int .i64 seq, .int .i64 m0, .int .i64 m1, .int .i64 m2, .int .i64 m3, .int .i64 sb, .int .i64 sn] 29 (0, 0)) := by rw [← hW]; exact heap_alloc2_old _ _ _
  have RB : W.heap[w.heap.size + 1]? = some (.cells #[.int .i64 num, .int .i64 life, .int .i64 clock, .int .i64 seg, .int .i64 pos, .int .i64 next, .int .i64 seq, .int .i64 m0, .int .i64 m1, .int .i64 m2, .int .i64 m3, .int .i64 sb, .int .i64 sn] 29 (0, 0)) := by rw [← hW]; exact heap_alloc2_new _ _ _
  have HB : Hid (Below w.heap.size w W) := by rw [← hW]; exact ((Below.refl _ w).alloc (Nat.le_refl _) _).alloc (by simp) _
  obtain ⟨a0, a1, a2, a3, a4, a5, a6, a7, a8, a9, a10, a11, a12⟩ := cells13 RA
  obtain ⟨b0, b1, b2, b3, b4, b5, b6, b7, b8, b9, b10, b11, b12⟩ := cells13 RB
  clear hW RA RB
  go_loopw [5] (fun c wr => ∃ k n : Nat, k ≤ 4 ∧ c = .int .i64 k ∧ wr = W.drewN n) (fun c _ => 4 - (intOf c).toNat)
  case atStart => exact ⟨0, 0, by omega, rfl, rfl⟩
  case round =>
    obtain ⟨k, n, hk, rfl, rfl⟩ := hrel
    rcases (show k = 0 ∨ k = 1 ∨ k = 2 ∨ k = 3 ∨ k = 4 by omega) with rfl | rfl | rfl | rfl | rfl
    · rw [show ((0 : Nat) : Int) = 0 from rfl]
      go_wp2_with fail
      go_quiet (fail)
      go_wp2_with fail
      exact ⟨⟨1, _, by omega, rfl, rfl⟩, by simp [intOf]⟩
    · rw [show ((1 : Nat) : Int) = 1 from rfl]
      go_wp2_with fail
      go_quiet (fail)
      go_wp2_with fail
      exact ⟨⟨2, _, by omega, rfl, rfl⟩, by simp [intOf]⟩
    · rw [show ((2 : Nat) : Int) = 2 from rfl]
      go_wp2_with fail
      go_quiet (fail)
      go_wp2_with fail
      exact ⟨⟨3, _, by omega, rfl, rfl⟩, by simp [intOf]⟩
    · rw [show ((3 : Nat) : Int) = 3 from rfl]
      go_wp2_with fail
      go_quiet (fail)
      go_wp2_with fail
      exact ⟨⟨4, _, by omega, rfl, rfl⟩, by simp [intOf]⟩
    · rw [show ((4 : Nat) : Int) = 4 from rfl]
      go_wp2_with fail
      go_ret
      exact ⟨rfl, HB.out.trans ⟨rfl, rfl, rfl, Nat.le_refl _, fun _ _ => rfl⟩⟩
/-- Forward on a disk of the laws. -/
theorem fw_t (b gd : Nat) (S : St) (V : Nat → Value) (M M' : Lg) (v : Value) (segs : List Int) (fs : List Fnd) (w : World) (hI : Ints w v segs) (hl : segs.length ≤ 100) (hD : Disk w b S gd V) (hn : S.n = 304) (hup : S.down = false) (hR : Rolls S.read 8 segs M fs M') (hf : fs.length ≤ 1000) :
    Calls Try.prog 13 #[.pointer (some ⟨b, 0, none⟩), geomV 304 32, .int .i64 M.house, .int .i64 M.gen, v, plV M] w fun e w' => ∃ ad cap Lv, e = .returned (.tuple #[.slice ad fs.length cap, plV M']) ∧ FOwn w' w.heap.size (.slice ad fs.length cap) Lv ∧ Lv.map (·.f) = fs ∧ Below w.heap.size w w' := by
  have h := forward_t b gd 8 S V M M' v segs fs w hI (by omega) hD hn (by decide) (by decide) hup hR hf
  have e304 : (48 : Int) + 32 * ((8 : Nat) : Int) = 304 := by decide
  rw [e304] at h
  exact h
theorem new_t304 (w : World) :
    Calls Try.prog 8 #[.int .i64 304] w fun e w' => ∃ b gd V, e = .returned (.pointer (some ⟨b, 0, none⟩)) ∧ Disk w' b (St.new 304) gd V ∧ Below w.heap.size w w' ∧ ∀ k, foot b gd V k → w.heap.size ≤ k := disk_new 304 w (by decide) (by decide)
theorem geom_t304 (w : World) : Calls Try.prog 14 #[.int .i64 8] w fun e w' => e = .returned (geomV 304 32) ∧ Below w.heap.size w w' := by
  have h := geom_t 8 w (by decide)
  have e304 : (48 : Int) + 32 * ((8 : Nat) : Int) = 304 := by decide
  rw [e304] at h
  exact h

set_option maxRecDepth 20000 in
set_option maxHeartbeats 8000000 in
theorem awake_t15 (w : World) :
    Calls Try.prog 7 #[] w fun e w' => e = .returned (.bool true) ∧ Below w.heap.size w w' := by
  have NW := rfhid (new_t304 w)
  have GE := rfhid geom_t304
  have SG := rfhid segs8_t
  have SL := rfhid (fun (w1 : World) => slot0_t 2 w1)
  have PS := rfhid (fun (w1 : World) => psame_t ⟨3, 7, 1, 2, 0, 0, 0, 1, 5, 0, 0, 0, 0, 0, 0, []⟩ w1)
  have FL := rfhid (fun (b gd : Nat) (V : Nat → Value) (y : World) (u : World) (hu : u = y.alloc (.cells (icells [4]).toArray 3)) (hD : Disk u b (St.new 304) gd V) (hf : ¬ foot b gd V y.heap.size) => fill_t b gd V (.slice (some ⟨y.heap.size, 0, none⟩) 1 1) [4] u hD (by rw [hu]; exact Ints.block (l := [4]) (heap_alloc_new y _) rfl (by decide)) (fun q off n c e _ => by injection e with e; injection e with e; injection e with e; rw [← e]; exact hf) (by decide))
  go_enter Try.func7, Try.ntmps7
  go_wp2_with fail
  refine NW.out.mono ?_
  rintro e w1 ⟨b, gd, V, rfl, hD1, hb1, hf1⟩
  have HD1 := rfhid hD1
  have HB1 := rfhid hb1
  have HF1 := rfhid hf1
  clear hD1 hb1 hf1 NW
  go_wp2_with fail
  refine (GE.out _).mono ?_
  rintro e w2 ⟨rfl, hb2⟩
  have HB2 := rfhid hb2
  clear hb2
  go_wp2_with fail
  refine (SG.out _).mono ?_
  rintro e w3 ⟨sad, rfl, hI3, hb3⟩
  have HB3 : Hid (Below w1.heap.size w1 w3) := HB2.out.trans (hb3.mono HB2.out.size)
  have HI3 := rfhid hI3
  clear hb3 hI3 HB2
  go_wp2_with fail
  refine (SL.out _).mono ?_
  rintro e w4 ⟨rfl, hb4⟩
  have HB4 : Hid (Below w1.heap.size w1 w4) := HB3.out.trans (hb4.mono HB3.out.size)
  have HI4 := rfhid (HI3.out.on hb4)
  clear hb4 HI3 HB3
  go_wp2_with fail
  refine (fw_t b gd (St.new 304) V lgB lgB _ (seqL 0 8) [] w4 HI4.out (by decide) (HD1.out.below HB4.out) rfl rfl fil_new.rolls (by decide)).mono ?_
  rintro e w5 ⟨lad, lcap, Lv, rfl, -, -, hb5⟩
  have HB5 : Hid (Below w1.heap.size w1 w5) := HB4.out.trans (hb5.mono HB4.out.size)
  clear hb5 HB4 HI4
  go_wp2_with fail
  generalize hW : World.alloc w5 _ = W
  have HR3 : Hid (W.heap[w5.heap.size]? = some (.cells #[.int .i64 1, .int .i64 2, .int .i64 0, .int .i64 0, .int .i64 0, .int .i64 1, .int .i64 5, .int .i64 0, .int .i64 0, .int .i64 0, .int .i64 0, .int .i64 0, .int .i64 0] 29 (0, 0))) := by rw [← hW]; exact heap_alloc_new _ _
  have HBW : Hid (Below w1.heap.size w1 W) := by rw [← hW]; exact HB5.out.alloc HB5.out.size _
  have hw5 : w1.heap.size ≤ w5.heap.size := HB5.out.size
  clear hW HB5
  obtain ⟨p0, p1, p2, p3, p4, p5, p6, p7, p8, p9, p10, p11, p12⟩ := cells13 HR3.out
  go_region_held3 (fun w' => w'.cell? ⟨w5.heap.size, 0, none⟩ = some (.int .i64 1) ∧ w'.cell? ⟨w5.heap.size, 1, none⟩ = some (.int .i64 2) ∧ w'.cell? ⟨w5.heap.size, 2, none⟩ = some (.int .i64 0) ∧ w'.cell? ⟨w5.heap.size, 3, none⟩ = some (.int .i64 0) ∧ w'.cell? ⟨w5.heap.size, 4, none⟩ = some (.int .i64 0) ∧ w'.cell? ⟨w5.heap.size, 5, none⟩ = some (.int .i64 1) ∧ w'.cell? ⟨w5.heap.size, 6, none⟩ = some (.int .i64 5) ∧ w'.cell? ⟨w5.heap.size, 7, none⟩ = some (.int .i64 0) ∧ w'.cell? ⟨w5.heap.size, 8, none⟩ = some (.int .i64 0) ∧ w'.cell? ⟨w5.heap.size, 9, none⟩ = some (.int .i64 0) ∧ w'.cell? ⟨w5.heap.size, 10, none⟩ = some (.int .i64 0) ∧ w'.cell? ⟨w5.heap.size, 11, none⟩ = some (.int .i64 0) ∧ w'.cell? ⟨w5.heap.size, 12, none⟩ = some (.int .i64 0)) (go_keep)
    (first
      | (go_at_call 10
         refine (SL.out _).mono ?_
         rintro e y1 ⟨rfl, hy1⟩
         have HY1 : Hid (Below w1.heap.size w1 y1) := HBW.out.trans (Below.mono (lo_undrew hy1) HBW.out.size)
         have HS1 : Hid (y1.heap[w5.heap.size]? = _) := row_on HR3.out (lo_undrew hy1)
         obtain ⟨p0, p1, p2, p3, p4, p5, p6, p7, p8, p9, p10, p11, p12⟩ := cells13 HS1.out
         clear hy1)
      | (go_at_call 15
         refine (PS.out _).mono ?_
         rintro e y2 ⟨rfl, hy2⟩
         have HY2 : Hid (Below w1.heap.size w1 y2) := HY1.out.trans (Below.mono hy2 HY1.out.size)
         have HS2 : Hid (y2.heap[w5.heap.size]? = _) := row_on HS1.out hy2
         obtain ⟨p0, p1, p2, p3, p4, p5, p6, p7, p8, p9, p10, p11, p12⟩ := cells13 HS2.out
         clear hy2)
      | (go_at_call 9
         refine (FL.out b gd V y2 _ rfl (HD1.out.below (HY2.out.alloc HY2.out.size _)) (fun hf => by have h1 := HD1.out.lt hf; have h2 := HY2.out.size; omega)).mono ?_
         rintro e y3 ⟨mv, cs, S, V3, L, rfl, hmo, hoff, hD3, hfil, hst, hle, hne, hsz⟩
         obtain ⟨mad, mcap, rfl⟩ := hmo.slice
         have hcl : cs.length = 1 := by have h1 := hne (by decide); have h2 : cs.length ≤ 1 := hle; omega
         have hl1 : (lens cs).length = 1 := by rw [lens, List.length_map]; exact hcl
         rw [hl1]
         have HS3 : Hid (y3.heap[w5.heap.size]? = some (.cells #[.int .i64 1, .int .i64 2, .int .i64 0, .int .i64 0, .int .i64 0, .int .i64 1, .int .i64 5, .int .i64 0, .int .i64 0, .int .i64 0, .int .i64 0, .int .i64 0, .int .i64 0] 29 (0, 0))) := (hst.keep.block _ (by have h1 := (Array.getElem?_eq_some_iff.1 HS2.out).1; simp; omega) (fun hf => by have h1 := HD1.out.lt hf; omega)).trans ((Below.heap_alloc _ _ _ (Array.getElem?_eq_some_iff.1 HS2.out).1).trans HS2.out)
         obtain ⟨p0, p1, p2, p3, p4, p5, p6, p7, p8, p9, p10, p11, p12⟩ := cells13 HS3.out
         have HD3 := rfhid hD3
         have HFIL := rfhid hfil
         have HST := rfhid hst
         have HSZ := rfhid hsz
         have HCL := rfhid hcl
         clear hmo hoff hD3 hfil hst hle hne hsz hl1 hcl))
  have HU2 : Hid (Below w.heap.size w y2) := HB1.out.trans (HY2.out.mono HB1.out.size)
  have HU : Hid (Below w.heap.size w y3) := HST.out.under (HU2.out.alloc HU2.out.size _) HF1.out (Nat.le_refl _)
  have hfirst := HFIL.out.zeroth (by have := HCL.out; omega)
  have hone := HFIL.out.one HCL.out
  have hsz0 := HSZ.out 0 (by have := HCL.out; omega) (by decide)
  have hlen4 : (cs[0]'(by have := HCL.out; omega)).bl.length = 4 := by
    have h1 : ((4 : Int)) % 25 = 4 := by decide
    have h2 : ([4] : List Int)[0] = 4 := rfl
    rw [h2, h1] at hsz0
    omega
  have FW := rfhid (fun (w8 : World) (v8 : Value) (hI : Ints w8 v8 (seqL 0 8)) (hb : Below y3.heap.size y3 w8) => fw_t b gd S V3 lgB (bare L) v8 (seqL 0 8) cs w8 hI (by decide) (HD3.out.below hb) HFIL.out.n HFIL.out.down HFIL.out.rolls (by have := HCL.out; omega))
  rw [HCL.out] at FW
  obtain ⟨M, hM⟩ : ∃ M, bare L = M := ⟨_, rfl⟩
  rw [hM] at FW hone
  have hpos : M.pos = 5 := by
    rw [hone]
    show (cs[0]'(by have := HCL.out; omega)).pos + 1 + _ = 5
    rw [hfirst.2, hlen4]
    rfl
  have hseq : M.seq = 6 := by rw [hone]; rfl
  have HLEN := rfhid hlen4
  clear hM hone hfirst hsz0 hlen4 HD3 HFIL HST HSZ HY1 HY2 HS1 HS2 HS3 HR3 HBW HU2 HF1 HB1 HD1 FL PS p0 p1 p2 p3 p4 p5 p6 p7 p8 p9 p10 p11 p12
  obtain ⟨house, gen, num, life, clock, seg, pos, next, seq, m0, m1, m2, m3, sb, sn, fl⟩ := M
  dsimp only at hpos hseq
  subst hpos hseq
  go_wp2_with fail
  refine (GE.out _).mono ?_
  rintro e w6 ⟨rfl, hb6⟩
  have HB6 := rfhid hb6
  clear hb6
  go_wp2_with fail
  refine (SG.out _).mono ?_
  rintro e w7 ⟨sad7, rfl, hI7, hb7⟩
  have HB7 : Hid (Below y3.heap.size y3 w7) := HB6.out.trans (hb7.mono HB6.out.size)
  have HI7 := rfhid hI7
  clear hb7 hI7 HB6
  go_wp2_with fail
  refine (SL.out _).mono ?_
  rintro e w8 ⟨rfl, hb8⟩
  have HB8 : Hid (Below y3.heap.size y3 w8) := HB7.out.trans (hb8.mono HB7.out.size)
  have HI8 := rfhid (HI7.out.on hb8)
  clear hb8 HI7 HB7
  go_wp2_with fail
  refine (FW.out w8 _ HI8.out HB8.out).mono ?_
  rintro e w9 ⟨lad2, lcap2, Lv, rfl, hO, hm, hb9⟩
  have HB9 : Hid (Below w.heap.size w w9) := HU.out.trans ((HB8.out.trans (hb9.mono HB8.out.size)).mono HU.out.size)
  have hLv : Lv.length = 1 := by rw [← List.length_map (f := fun p : Fv => p.f), hm]; exact HCL.out
  obtain ⟨g9, hg9, hc9⟩ := hO.cells 0 (by omega)
  subst hg9
  have hok9 := hO.2 (Lv[0]'(by omega)) (List.getElem_mem _)
  have hf0 : (Lv[0]'(by omega)).f = cs[0]'(by have := HCL.out; omega) := by
    have h1 : (Lv.map (·.f))[0]'(by rw [List.length_map]; omega) = cs[0]'(by have := HCL.out; omega) := by
      simp only [hm]
    rw [List.getElem_map] at h1
    exact h1
  have ht9 := hok9.txts
  rw [hf0] at ht9
  obtain ⟨bad9, bcap9, hbv, -⟩ := ht9
  rw [HLEN.out] at hbv
  have c11 : w9.cell? ⟨g9, 11, none⟩ = some (.slice bad9 4 bcap9) := (hc9 11 (Lv[0]'(by omega)).bv rfl).trans (by rw [hbv])
  have HGL : g9 < w9.heap.size := block_lt_of_cell c11
  clear hO hm hb9 hLv hc9 hok9 hf0 hbv HLEN HCL HU HB8 HI8 FW GE SG SL
  go_wp2_with fail
  go_ret
  exact ⟨rfl, HB9.out.alloc HB9.out.size _⟩
end Go.Proofs.Ytaiebhkjkeadoaa
