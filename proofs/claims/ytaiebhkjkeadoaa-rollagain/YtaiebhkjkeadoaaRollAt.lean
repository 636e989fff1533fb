/- The chunk at a place: at walked. -/
import Derived.Test.YtaiebhkjkeadoaaRollText
import Derived.Test.YtaiebhkjkeadoaaChunkParse
namespace Go.Proofs.Ytaiebhkjkeadoaa
open Go.RowKit Lo Hdp Rol Chk

/-- What is found, as cells. -/
abbrev fdC (f : Fnd) (hv bv : Value) : Array Value :=
  #[.int .i64 f.seg, .int .i64 f.pos, .int .i64 f.head.house, .int .i64 f.head.gen, .int .i64 f.head.life, .int .i64 f.head.seq, .int .i64 f.head.next, .int .i64 f.head.clock, .int .i64 f.head.sb, .int .i64 f.head.sn, hv, bv]
def fdZ : Fnd := ⟨0, 0, Hd.z, []⟩
theorem Try.foundSize : (Try.prog.info? 46).map (·.size) = some 12 := by kernel_rfl
theorem fdC_one (f : Fnd) (ad bad : Option Addr) (n cap m bcap : Nat) : (fdC f (.slice ad n cap) (.slice bad m bcap)).all (·.oneCell') = true := by simp [fdC, Value.oneCell']

theorem Ents.apart {w w' : World} {v : Value} {l : List En} {m : Nat} (h : Ents w v l) (hf : VFar m v) (hs : w.heap.size ≤ w'.heap.size) (hk : ∀ k, m ≤ k → k < w.heap.size → w'.heap[k]? = w.heap[k]?) : Ents w' v l := by
  obtain ⟨ad, cap, rfl, hn, hc⟩ := h
  refine ⟨ad, cap, rfl, hn, fun hl => ?_⟩
  obtain ⟨b, off, rfl, hb, hi⟩ := hc hl
  have hm := hf b off _ _ rfl
  refine ⟨b, off, rfl, by omega, fun i h => ?_⟩
  have e : ∀ q, w'.cell? ⟨b, q, none⟩ = w.cell? ⟨b, q, none⟩ := fun q => by
    simp only [World.cell?, hk b hm hb]
  rw [e, e, e]
  exact hi i h
theorem TOwn.apart {w w' : World} {base : Nat} {v : Value} {l : List ByteArray} (h : TOwn w base v l) (hk : ∀ k, base ≤ k → k < w.heap.size → w'.heap[k]? = w.heap[k]?) : TOwn w' base v l :=
  owns_of_block h fun g hg => hk g (h.lt g hg).1 (h.lt g hg).2

set_option maxRecDepth 10000 in
set_option maxHeartbeats 4000000 in
theorem rat_no1 (wb b gd n : Nat) (D : St) (V : Nat → Value) (L : Lg) (v : Value) (segs : List Int) (seg pos : Int) (t : TypeId) (w : World) (h : w.heap[wb]? = some (.cells (wkC b (48 + 32 * (n : Int)) 32 L v) t (0, 0))) (hI : Ints w v segs) (hl : segs.length ≤ 100000)
    (hD : Disk w b D gd V) (hn : D.n = 48 + 32 * n) (hn2 : 8 ≤ n) (hn3 : n ≤ 100) (hup : D.down = false) (h0 : parB (atT D.read n segs seg pos) = false) :
    Calls Try.prog 44 #[.pointer (some ⟨wb, 0, none⟩), .int .i64 seg, .int .i64 pos] w fun e w' => e = .returned (.tuple #[.agg (fdC fdZ (.slice none 0 0) (.slice none 0 0)), .bool false]) ∧ Below w.heap.size w w' := by
  have hlt : wb < w.heap.size := (Array.getElem?_eq_some_iff.1 h).1
  have TX := rohid (fun (w1 : World) (hb : Below w.heap.size w w1) => rtext_t wb b gd n D V L v segs seg pos t w1 (row_on h hb) (hI.on hb) hl (hD.below hb) hn hn2 hn3 hup)
  have FO := rohid (fun (w1 : World) (x : Hd) (hv : Value) (hb : Below w.heap.size w w1) => follows_t wb b _ _ L v segs x hv t w1 (row_on h hb) (hI.on hb) hl)
  have hTs : (atT D.read n segs seg pos).size ≤ 8192 := atT_size fun i hi => read_size hD i (by omega)
  have PA := rohid (fun w1 => parse_far (atT D.read n segs seg pos) w1 (by omega))
  clear h hI hD hTs hn hup
  generalize hT : atT D.read n segs seg pos = T at *
  have HT := rohid hT
  clear hT
  have hp : parB T = false := h0
  generalize parB T = PB at *
  generalize parX T = PX at *
  generalize parL T = PL at *
  subst hp
  go_enter Try.func44, Try.ntmps44
  go_wp2_with fail
  generalize hW : World.alloc w _ = w0
  have HX0 : Hid (w0.heap[w.heap.size]? = some (.cells (fdC fdZ (.slice none 0 0) (.slice none 0 0)) 46 (0, 0))) := by rw [← hW]; exact heap_alloc_new _ _
  have HB0 : Hid (Below w.heap.size w w0) := by rw [← hW]; exact (Below.refl _ w).alloc (Nat.le_refl _) _
  have hw0 : w.heap.size < w0.heap.size := by rw [← hW]; simp
  clear hW
  refine (TX.out w0 HB0.out).mono ?_
  rintro e w1 ⟨rfl, hb⟩
  have HX1 : Hid (w1.heap[w.heap.size]? = some (.cells (fdC fdZ (.slice none 0 0) (.slice none 0 0)) 46 (0, 0))) := row_on HX0.out hb
  have HB1 : Hid (Below w.heap.size w w1) := HB0.out.trans (hb.mono HB0.out.size)
  have hw1 : w.heap.size < w1.heap.size := by have := hb.size; omega
  clear hb HX0 HB0 hw0 TX
  go_wp2_with fail
  refine (PA.out _).mono ?_
  rintro e w2 ⟨v2, bv, rfl, hE, hfar, hO, hb⟩
  obtain ⟨bad, bcap, rfl⟩ := hO.slice
  have HE2 := rohid hE
  obtain ⟨ad, cap, rfl, -, -⟩ := hE
  have HF2 := rohid hfar
  have HO2 := rohid hO
  have HX2 : Hid (w2.heap[w.heap.size]? = some (.cells (fdC fdZ (.slice none 0 0) (.slice none 0 0)) 46 (0, 0))) := row_on HX1.out hb
  have HB2 : Hid (Below w.heap.size w w2) := HB1.out.trans (hb.mono HB1.out.size)
  have hw2 : w.heap.size < w2.heap.size := by have := hb.size; omega
  have hw12 : w1.heap.size ≤ w2.heap.size := hb.size
  clear hfar hO hb HX1 HB1 PA
  have HX3 : Hid (∀ c, (w2.alloc c).heap[w.heap.size]? = some (.cells (fdC fdZ (.slice none 0 0) (.slice none 0 0)) 46 (0, 0))) := fun c => (heap_alloc_old _ _ hw2).trans HX2.out
  clear HE2 HF2 HO2 FO HT HX2
  go_wp2_with (first
    | (refine wpList_store_row rfl 43 (.tmp 8) (.tmp 17) rfl w2.heap.size (headC PX (.slice ad PX.list.length cap)) rfl rfl 43 _ (heap_alloc_new _ _) Try.headSize rfl (headC_one PX _ _ _) ?_; rw [World.setRow_alloc_new])
    | (refine wpList_store_row rfl 46 (.tmp 6) (.tmp 28) rfl w.heap.size (fdC fdZ (.slice none 0 0) (.slice none 0 0)) rfl rfl 46 _ (HX3.out _) Try.foundSize rfl (fdC_one fdZ none none 0 0 0 0) ?_)
    | fail)
  refine bodyPost_ret (v := .tuple #[.agg (fdC fdZ (.slice none 0 0) (.slice none 0 0)), .bool false]) (results_ct_row Try.results44 _ _ w.heap.size 46 (fdC fdZ (.slice none 0 0) (.slice none 0 0)) (0, 0) _ rfl (setRow_heap _ _ _ _ _ _ (HX3.out _)) Try.underlying46 rfl Try.foundSize) rfl ⟨rfl, ?_⟩
  exact below_setRow (HB2.out.alloc (by omega) _) (Nat.le_refl _) _

set_option maxRecDepth 10000 in
set_option maxHeartbeats 4000000 in
theorem rat_no2 (wb b gd n : Nat) (D : St) (V : Nat → Value) (L : Lg) (v : Value) (segs : List Int) (seg pos : Int) (t : TypeId) (w : World) (h : w.heap[wb]? = some (.cells (wkC b (48 + 32 * (n : Int)) 32 L v) t (0, 0))) (hI : Ints w v segs) (hl : segs.length ≤ 100000)
    (hD : Disk w b D gd V) (hn : D.n = 48 + 32 * n) (hn2 : 8 ≤ n) (hn3 : n ≤ 100) (hup : D.down = false) (h0 : parB (atT D.read n segs seg pos) = true) (h1 : folB segs L (parX (atT D.read n segs seg pos)) = false) :
    Calls Try.prog 44 #[.pointer (some ⟨wb, 0, none⟩), .int .i64 seg, .int .i64 pos] w fun e w' => e = .returned (.tuple #[.agg (fdC fdZ (.slice none 0 0) (.slice none 0 0)), .bool false]) ∧ Below w.heap.size w w' := by
  have hlt : wb < w.heap.size := (Array.getElem?_eq_some_iff.1 h).1
  have TX := rohid (fun (w1 : World) (hb : Below w.heap.size w w1) => rtext_t wb b gd n D V L v segs seg pos t w1 (row_on h hb) (hI.on hb) hl (hD.below hb) hn hn2 hn3 hup)
  have FO := rohid (fun (w1 : World) (x : Hd) (hv : Value) (hb : Below w.heap.size w w1) => follows_t wb b _ _ L v segs x hv t w1 (row_on h hb) (hI.on hb) hl)
  have hTs : (atT D.read n segs seg pos).size ≤ 8192 := atT_size fun i hi => read_size hD i (by omega)
  have PA := rohid (fun w1 => parse_far (atT D.read n segs seg pos) w1 (by omega))
  clear h hI hD hTs hn hup
  generalize hT : atT D.read n segs seg pos = T at *
  have HT := rohid hT
  clear hT
  have hp : parB T = true := h0
  have hf : folB segs L (parX T) = false := h1
  clear h1
  generalize parB T = PB at *
  generalize parX T = PX at *
  generalize parL T = PL at *
  subst hp
  go_enter Try.func44, Try.ntmps44
  go_wp2_with fail
  generalize hW : World.alloc w _ = w0
  have HX0 : Hid (w0.heap[w.heap.size]? = some (.cells (fdC fdZ (.slice none 0 0) (.slice none 0 0)) 46 (0, 0))) := by rw [← hW]; exact heap_alloc_new _ _
  have HB0 : Hid (Below w.heap.size w w0) := by rw [← hW]; exact (Below.refl _ w).alloc (Nat.le_refl _) _
  have hw0 : w.heap.size < w0.heap.size := by rw [← hW]; simp
  clear hW
  refine (TX.out w0 HB0.out).mono ?_
  rintro e w1 ⟨rfl, hb⟩
  have HX1 : Hid (w1.heap[w.heap.size]? = some (.cells (fdC fdZ (.slice none 0 0) (.slice none 0 0)) 46 (0, 0))) := row_on HX0.out hb
  have HB1 : Hid (Below w.heap.size w w1) := HB0.out.trans (hb.mono HB0.out.size)
  have hw1 : w.heap.size < w1.heap.size := by have := hb.size; omega
  clear hb HX0 HB0 hw0 TX
  go_wp2_with fail
  refine (PA.out _).mono ?_
  rintro e w2 ⟨v2, bv, rfl, hE, hfar, hO, hb⟩
  obtain ⟨bad, bcap, rfl⟩ := hO.slice
  have HE2 := rohid hE
  obtain ⟨ad, cap, rfl, -, -⟩ := hE
  have HF2 := rohid hfar
  have HO2 := rohid hO
  have HX2 : Hid (w2.heap[w.heap.size]? = some (.cells (fdC fdZ (.slice none 0 0) (.slice none 0 0)) 46 (0, 0))) := row_on HX1.out hb
  have HB2 : Hid (Below w.heap.size w w2) := HB1.out.trans (hb.mono HB1.out.size)
  have hw2 : w.heap.size < w2.heap.size := by have := hb.size; omega
  have hw12 : w1.heap.size ≤ w2.heap.size := hb.size
  clear hfar hO hb HX1 HB1 PA
  go_wp2_with (first
    | (refine wpList_store_row rfl 43 (.tmp 8) (.tmp 17) rfl w2.heap.size (headC PX (.slice ad PX.list.length cap)) rfl rfl 43 _ (heap_alloc_new _ _) Try.headSize rfl (headC_one PX _ _ _) ?_; rw [World.setRow_alloc_new])
    | fail)
  generalize hV : World.alloc w2 _ = w3
  have HH3 : Hid (w3.heap[w2.heap.size]? = some (.cells (headC PX (.slice ad PX.list.length cap)) 43 (0, 0))) := by rw [← hV]; exact heap_alloc_new _ _
  have hb3 : Below w2.heap.size w2 w3 := by rw [← hV]; exact (Below.refl _ _).alloc (Nat.le_refl _) _
  have hw3 : w2.heap.size < w3.heap.size := by rw [← hV]; simp
  have HE3 := rohid (HE2.out.on hb3)
  have HO3 : Hid (TOwn w3 w1.heap.size (.slice bad PL.length bcap) PL) := HO2.out.on hb3
  have HX3 := rohid (row_on HX2.out hb3)
  have HB3 : Hid (Below w.heap.size w w3) := HB2.out.trans (hb3.mono HB2.out.size)
  clear hV hb3 HE2 HO2 HX2 HB2
  have FO3 := rohid (FO.out w3 PX (.slice ad PX.list.length cap) HB3.out)
  clear FO
  rw [hf] at FO3
  obtain ⟨house, gen, life, seq, next, clock, sb, sn, l⟩ := PX
  obtain ⟨x0, x1, x2, x3, x4, x5, x6, x7, x8⟩ := cells9 HH3.out
  go_wp2_with fail
  refine FO3.out.mono ?_
  rintro e w4 ⟨rfl, hb⟩
  have HH4 := rohid (row_on HH3.out hb)
  have HE4 := rohid (HE3.out.on hb)
  have HO4 : Hid (TOwn w4 w1.heap.size (.slice bad PL.length bcap) PL) := HO3.out.on hb
  have HX4 := rohid (row_on HX3.out hb)
  have HB4 : Hid (Below w.heap.size w w4) := HB3.out.trans (hb.mono HB3.out.size)
  have hw4 : w2.heap.size < w4.heap.size := by have := hb.size; omega
  clear hb HH3 HE3 HO3 HX3 HB3 FO3 x0 x1 x2 x3 x4 x5 x6 x7 x8
  clear HE4 HO4 HH4 HF2 HT
  go_wp2_with (first
    | (refine wpList_store_row rfl 46 (.tmp 6) (.tmp 28) rfl w.heap.size (fdC fdZ (.slice none 0 0) (.slice none 0 0)) rfl rfl 46 _ HX4.out Try.foundSize rfl (fdC_one fdZ none none 0 0 0 0) ?_)
    | fail)
  refine bodyPost_ret (v := .tuple #[.agg (fdC fdZ (.slice none 0 0) (.slice none 0 0)), .bool false]) (results_ct_row Try.results44 _ _ w.heap.size 46 (fdC fdZ (.slice none 0 0) (.slice none 0 0)) (0, 0) _ rfl (setRow_heap _ _ _ _ _ _ HX4.out) Try.underlying46 rfl Try.foundSize) rfl ⟨rfl, ?_⟩
  exact below_setRow HB4.out (Nat.le_refl _) _

set_option maxRecDepth 10000 in
set_option maxHeartbeats 4000000 in
theorem rat_yes1 (wb b gd n : Nat) (D : St) (V : Nat → Value) (L : Lg) (v : Value) (segs : List Int) (seg pos : Int) (t : TypeId) (w : World) (h : w.heap[wb]? = some (.cells (wkC b (48 + 32 * (n : Int)) 32 L v) t (0, 0))) (hI : Ints w v segs) (hl : segs.length ≤ 100000)
    (hD : Disk w b D gd V) (hn : D.n = 48 + 32 * n) (hn2 : 8 ≤ n) (hn3 : n ≤ 100) (hup : D.down = false) (h0 : parB (atT D.read n segs seg pos) = true) (h1 : folB segs L (parX (atT D.read n segs seg pos)) = true) :
    Calls Try.prog 44 #[.pointer (some ⟨wb, 0, none⟩), .int .i64 seg, .int .i64 pos] w fun e w' => ∃ hv bv, e = .returned (.tuple #[.agg (fdC (fnd D.read n segs seg pos) hv bv), .bool true]) ∧ Ents w' hv (fnd D.read n segs seg pos).head.list ∧ VFar w.heap.size hv ∧ TOwn w' w.heap.size bv (fnd D.read n segs seg pos).bl ∧ Below w.heap.size w w' := by
  have hlt : wb < w.heap.size := (Array.getElem?_eq_some_iff.1 h).1
  have TX := rohid (fun (w1 : World) (hb : Below w.heap.size w w1) => rtext_t wb b gd n D V L v segs seg pos t w1 (row_on h hb) (hI.on hb) hl (hD.below hb) hn hn2 hn3 hup)
  have FO := rohid (fun (w1 : World) (x : Hd) (hv : Value) (hb : Below w.heap.size w w1) => follows_t wb b _ _ L v segs x hv t w1 (row_on h hb) (hI.on hb) hl)
  have hTs : (atT D.read n segs seg pos).size ≤ 8192 := atT_size fun i hi => read_size hD i (by omega)
  have PA := rohid (fun w1 => parse_far (atT D.read n segs seg pos) w1 (by omega))
  clear h hI hD hTs hn hup
  generalize hT : atT D.read n segs seg pos = T at *
  have HT := rohid hT
  clear hT
  have hp : parB T = true := h0
  have hf : folB segs L (parX T) = true := h1
  clear h1
  have HFN : Hid (fnd D.read n segs seg pos = ⟨seg, pos, parX T, parL T⟩) := by
    show _ = _
    unfold fnd
    rw [HT.out]
  generalize fnd D.read n segs seg pos = f at *
  generalize parB T = PB at *
  generalize parX T = PX at *
  generalize parL T = PL at *
  subst hp
  go_enter Try.func44, Try.ntmps44
  go_wp2_with fail
  generalize hW : World.alloc w _ = w0
  have HX0 : Hid (w0.heap[w.heap.size]? = some (.cells (fdC fdZ (.slice none 0 0) (.slice none 0 0)) 46 (0, 0))) := by rw [← hW]; exact heap_alloc_new _ _
  have HB0 : Hid (Below w.heap.size w w0) := by rw [← hW]; exact (Below.refl _ w).alloc (Nat.le_refl _) _
  have hw0 : w.heap.size < w0.heap.size := by rw [← hW]; simp
  clear hW
  refine (TX.out w0 HB0.out).mono ?_
  rintro e w1 ⟨rfl, hb⟩
  have HX1 : Hid (w1.heap[w.heap.size]? = some (.cells (fdC fdZ (.slice none 0 0) (.slice none 0 0)) 46 (0, 0))) := row_on HX0.out hb
  have HB1 : Hid (Below w.heap.size w w1) := HB0.out.trans (hb.mono HB0.out.size)
  have hw1 : w.heap.size < w1.heap.size := by have := hb.size; omega
  clear hb HX0 HB0 hw0 TX
  go_wp2_with fail
  refine (PA.out _).mono ?_
  rintro e w2 ⟨v2, bv, rfl, hE, hfar, hO, hb⟩
  obtain ⟨bad, bcap, rfl⟩ := hO.slice
  have HE2 := rohid hE
  obtain ⟨ad, cap, rfl, -, -⟩ := hE
  have HF2 := rohid hfar
  have HO2 := rohid hO
  have HX2 : Hid (w2.heap[w.heap.size]? = some (.cells (fdC fdZ (.slice none 0 0) (.slice none 0 0)) 46 (0, 0))) := row_on HX1.out hb
  have HB2 : Hid (Below w.heap.size w w2) := HB1.out.trans (hb.mono HB1.out.size)
  have hw2 : w.heap.size < w2.heap.size := by have := hb.size; omega
  have hw12 : w1.heap.size ≤ w2.heap.size := hb.size
  clear hfar hO hb HX1 HB1 PA
  go_wp2_with (first
    | (refine wpList_store_row rfl 43 (.tmp 8) (.tmp 17) rfl w2.heap.size (headC PX (.slice ad PX.list.length cap)) rfl rfl 43 _ (heap_alloc_new _ _) Try.headSize rfl (headC_one PX _ _ _) ?_; rw [World.setRow_alloc_new])
    | fail)
  generalize hV : World.alloc w2 _ = w3
  have HH3 : Hid (w3.heap[w2.heap.size]? = some (.cells (headC PX (.slice ad PX.list.length cap)) 43 (0, 0))) := by rw [← hV]; exact heap_alloc_new _ _
  have hb3 : Below w2.heap.size w2 w3 := by rw [← hV]; exact (Below.refl _ _).alloc (Nat.le_refl _) _
  have hw3 : w2.heap.size < w3.heap.size := by rw [← hV]; simp
  have HE3 := rohid (HE2.out.on hb3)
  have HO3 : Hid (TOwn w3 w1.heap.size (.slice bad PL.length bcap) PL) := HO2.out.on hb3
  have HX3 := rohid (row_on HX2.out hb3)
  have HB3 : Hid (Below w.heap.size w w3) := HB2.out.trans (hb3.mono HB2.out.size)
  clear hV hb3 HE2 HO2 HX2 HB2
  have FO3 := rohid (FO.out w3 PX (.slice ad PX.list.length cap) HB3.out)
  clear FO
  rw [hf] at FO3
  obtain ⟨house, gen, life, seq, next, clock, sb, sn, l⟩ := PX
  obtain ⟨x0, x1, x2, x3, x4, x5, x6, x7, x8⟩ := cells9 HH3.out
  go_wp2_with fail
  refine FO3.out.mono ?_
  rintro e w4 ⟨rfl, hb⟩
  have HH4 := rohid (row_on HH3.out hb)
  have HE4 := rohid (HE3.out.on hb)
  have HO4 : Hid (TOwn w4 w1.heap.size (.slice bad PL.length bcap) PL) := HO3.out.on hb
  have HX4 := rohid (row_on HX3.out hb)
  have HB4 : Hid (Below w.heap.size w w4) := HB3.out.trans (hb.mono HB3.out.size)
  have hw4 : w2.heap.size < w4.heap.size := by have := hb.size; omega
  clear hb HH3 HE3 HO3 HX3 HB3 FO3 x0 x1 x2 x3 x4 x5 x6 x7 x8
  have hFN := HFN.out
  subst hFN
  clear HFN HT
  obtain ⟨x0, x1, x2, x3, x4, x5, x6, x7, x8⟩ := cells9 HH4.out
  go_wp2_with (first
    | (refine wpList_store_row rfl 46 (.tmp 6) (.tmp 33) rfl w.heap.size (fdC ⟨seg, pos, ⟨house, gen, life, seq, next, clock, sb, sn, l⟩, PL⟩ (.slice ad l.length cap) (.slice bad PL.length bcap)) rfl rfl 46 _ HX4.out Try.foundSize rfl (fdC_one _ _ _ _ _ _ _) ?_)
    | fail)
  refine bodyPost_ret (v := .tuple #[.agg (fdC ⟨seg, pos, ⟨house, gen, life, seq, next, clock, sb, sn, l⟩, PL⟩ (.slice ad l.length cap) (.slice bad PL.length bcap)), .bool true]) (results_ct_row Try.results44 _ _ w.heap.size 46 (fdC ⟨seg, pos, ⟨house, gen, life, seq, next, clock, sb, sn, l⟩, PL⟩ (.slice ad l.length cap) (.slice bad PL.length bcap)) (0, 0) _ rfl (setRow_heap _ _ _ _ _ _ HX4.out) Try.underlying46 rfl Try.foundSize) rfl ⟨_, _, rfl, ?_, ?_, ?_, ?_⟩
  · exact HE4.out.apart HF2.out (by rw [setRow_size]; exact Nat.le_refl _) fun k h1 h2 => setRow_other _ _ _ _ (by omega)
  · exact HF2.out.low (by omega)
  · exact (TOwn.apart HO4.out fun k h1 h2 => setRow_other _ _ _ _ (by omega)).low (by omega)
  · exact below_setRow HB4.out (Nat.le_refl _) _

/-- No chunk goes on there. -/
theorem rat_no (wb b gd n : Nat) (D : St) (V : Nat → Value) (L : Lg) (v : Value) (segs : List Int) (seg pos : Int) (t : TypeId) (w : World) (h : w.heap[wb]? = some (.cells (wkC b (48 + 32 * (n : Int)) 32 L v) t (0, 0))) (hI : Ints w v segs) (hl : segs.length ≤ 100000)
    (hD : Disk w b D gd V) (hn : D.n = 48 + 32 * n) (hn2 : 8 ≤ n) (hn3 : n ≤ 100) (hup : D.down = false) (h0 : atB D.read n segs L seg pos = false) :
    Calls Try.prog 44 #[.pointer (some ⟨wb, 0, none⟩), .int .i64 seg, .int .i64 pos] w fun e w' => e = .returned (.tuple #[.agg (fdC fdZ (.slice none 0 0) (.slice none 0 0)), .bool false]) ∧ Below w.heap.size w w' := by
  cases hp : parB (atT D.read n segs seg pos)
  · exact rat_no1 wb b gd n D V L v segs seg pos t w h hI hl hD hn hn2 hn3 hup hp
  · refine rat_no2 wb b gd n D V L v segs seg pos t w h hI hl hD hn hn2 hn3 hup hp ?_
    unfold atB at h0
    rw [hp, Bool.true_and] at h0
    exact h0
/-- The chunk that goes on there. -/
theorem rat_yes (wb b gd n : Nat) (D : St) (V : Nat → Value) (L : Lg) (v : Value) (segs : List Int) (seg pos : Int) (t : TypeId) (w : World) (h : w.heap[wb]? = some (.cells (wkC b (48 + 32 * (n : Int)) 32 L v) t (0, 0))) (hI : Ints w v segs) (hl : segs.length ≤ 100000)
    (hD : Disk w b D gd V) (hn : D.n = 48 + 32 * n) (hn2 : 8 ≤ n) (hn3 : n ≤ 100) (hup : D.down = false) (h0 : atB D.read n segs L seg pos = true) :
    Calls Try.prog 44 #[.pointer (some ⟨wb, 0, none⟩), .int .i64 seg, .int .i64 pos] w fun e w' => ∃ hv bv, e = .returned (.tuple #[.agg (fdC (fnd D.read n segs seg pos) hv bv), .bool true]) ∧ Ents w' hv (fnd D.read n segs seg pos).head.list ∧ VFar w.heap.size hv ∧ TOwn w' w.heap.size bv (fnd D.read n segs seg pos).bl ∧ Below w.heap.size w w' := by
  unfold atB at h0
  rw [Bool.and_eq_true] at h0
  exact rat_yes1 wb b gd n D V L v segs seg pos t w h hI hl hD hn hn2 hn3 hup h0.1 h0.2
end Go.Proofs.Ytaiebhkjkeadoaa
