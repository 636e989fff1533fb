/- RollPrefix walked: some heads kept, the others lost. -/
import Derived.Test.YtaiebhkjkeadoaaGreatRollHeads
import Derived.Test.YtaiebhkjkeadoaaGreatRollSide
import Derived.Test.YtaiebhkjkeadoaaGreatRollCells
import Derived.Test.YtaiebhkjkeadoaaGreatDiskBackL
import Derived.Test.YtaiebhkjkeadoaaGreatDiskSort
import Derived.Deep.DeepCutAuto
import Derived.Deep.CutBlock
import Derived.Deep.RegionHeld3
import Derived.Deep.QuietTactic
import Derived.BigRegion
import Derived.BigQuiet
namespace Go.Proofs.YtaiebhkjkeadoaaGreat
open Go.RowKit Lo Hdp Chk Rec Rol

theorem hdZero (W : World) : (zeroValue 28).run Tryz.prog W = .ok (.agg (List.replicate 304 (Value.bool false)).toArray) W := by kernel_rfl
theorem thZero (W : World) : (zeroValue 33).run Tryz.prog W = .ok (.agg (List.replicate 40 (Value.bool false)).toArray) W := by kernel_rfl

/-- Keep's lists as they lie: three that are nil, and one. -/
theorem keepAt4 {w X : World} {kad : Option Addr} {kl : List Int} {kcap pb po kb : Nat} {t : TypeId} {fr : Nat × Nat} (hk : 0 < kl.length → kad = some ⟨pb, po, none⟩ ∧ pb < w.heap.size ∧ ∀ i (h : i < kl.length), w.cell? ⟨pb, po + i, none⟩ = some (.int .i64 kl[i])) (hb : Below w.heap.size w X)
    (hrow : X.heap[kb]? = some (.cells #[.slice none 0 0, .slice none 0 0, .slice none 0 0, .slice kad kl.length kcap] t fr)) (hl : kl.length ≤ 1000000) : KeepAt X [[], [], [], kl] kb 0 (fun j => if j = 3 then kad else none) (fun _ => pb) (fun _ => po) (fun j => if j = 3 then kcap else 0) := by
  have hc : ∀ j, X.cell? ⟨kb, 0 + j, none⟩ = (#[.slice none 0 0, .slice none 0 0, .slice none 0 0, .slice kad kl.length kcap] : Array Value)[j]? := fun j => by rw [cell_of_row X kb (0 + j) _ t fr hrow, Nat.zero_add]
  refine ⟨fun j h => ?_, fun j h => ?_, fun j h h0 => ?_, fun j h i hi => ?_⟩
  · have hj : j = 0 ∨ j = 1 ∨ j = 2 ∨ j = 3 := by simp at h; omega
    rcases hj with rfl | rfl | rfl | rfl
    · exact Nat.zero_le _
    · exact Nat.zero_le _
    · exact Nat.zero_le _
    · exact hl
  · have hj : j = 0 ∨ j = 1 ∨ j = 2 ∨ j = 3 := by simp at h; omega
    rw [hc]
    rcases hj with rfl | rfl | rfl | rfl <;> rfl
  · have hj : j = 0 ∨ j = 1 ∨ j = 2 ∨ j = 3 := by simp at h; omega
    rcases hj with rfl | rfl | rfl | rfl
    · exact absurd h0 (Nat.lt_irrefl 0)
    · exact absurd h0 (Nat.lt_irrefl 0)
    · exact absurd h0 (Nat.lt_irrefl 0)
    · obtain ⟨a, b, -⟩ := hk h0
      exact ⟨a, Nat.lt_of_lt_of_le b hb.size⟩
  · have hj : j = 0 ∨ j = 1 ∨ j = 2 ∨ j = 3 := by simp at h; omega
    rcases hj with rfl | rfl | rfl | rfl
    · exact absurd hi (Nat.not_lt_zero _)
    · exact absurd hi (Nat.not_lt_zero _)
    · exact absurd hi (Nat.not_lt_zero _)
    · have hi2 : i < kl.length := hi
      obtain ⟨-, b, c⟩ := hk (by omega)
      have h9 := c i hi2
      rw [← hb.cell b] at h9
      exact h9
theorem away_at {w : World} {v : Value} {l : List Int} {b gd : Nat} {V : Nat → Value} {B : Nat} (h : Ints w v l) (hB : w.heap.size ≤ B) (hf : ∀ k, foot b gd V k → B ≤ k) : Away (fun q => ¬ foot b gd V q) v := by
  intro q off n c e hn hq
  obtain ⟨ad, cap, hv, -, -, hc⟩ := h
  rw [e] at hv
  injection hv with h1 h2 h3
  obtain ⟨b2, off2, ha, hlt, -⟩ := hc (by omega)
  rw [← h1] at ha
  injection ha with ha
  injection ha with ha
  have := hf q hq
  omega
theorem cell_keep {w w' : World} {b o : Nat} {u : Value} (hb : Below w.heap.size w w') (h : w.cell? ⟨b, o, none⟩ = some u) : w'.cell? ⟨b, o, none⟩ = some u := by
  have hlt := block_lt_of_cell h
  rw [← h]
  simp only [World.cell?, hb.block b hlt]
theorem under_drew2 {X y : World} (h : Below X.drew.heap.size X.drew y) : Below X.heap.size X y := ⟨h.os, h.tape, h.output, h.size, h.block⟩
theorem isHd_mem {cs : List Fnd} {q : Nat} : isHd cs q ↔ (q : Int) ∈ secs cs cs.length := by
  unfold isHd secs
  rw [List.take_length, List.mem_map]
  constructor
  · rintro ⟨i, hi, e⟩
    exact ⟨cs[i], List.getElem_mem hi, by rw [e]⟩
  · rintro ⟨f, hf, e⟩
    obtain ⟨i, hi, e2⟩ := List.getElem_of_mem hf
    exact ⟨i, hi, by rw [e2]; omega⟩
theorem Rol.Fil.sec_lt {S : St} {cs : List Fnd} {L : Lg} (h : Fil S cs L) (i : Nat) (hi : i < cs.length) : sec cs[i] < 304 := by
  have h9 := (h.head i hi).2.2.2.2.2
  have h5 := h9.seg0
  have h6 := h9.seg1
  have h7 := h9.pos0
  have h8 := h9.pos1
  unfold sec
  omega

set_option maxRecDepth 20000 in
set_option maxHeartbeats 16000000 in
theorem rollPrefix_few (hS : SortSaid) (v kv : Value) (l kl : List Int) (w : World) (hI : Ints w v l) (hK : Ints w kv kl) (hl : l.length ≤ 40) (hkl : kl.length ≤ 100) :
    Calls Tryz.prog 3 #[v, kv] w fun e w' => e = .returned (.bool true) ∧ Below w.heap.size w w' := by
  have NW := rfhid (fun (w1 : World) => new_t304 w1)
  have GE := rfhid geom_t304
  have SG := rfhid segs8_t
  have SL := rfhid (fun (w1 : World) => slot0_t 2 w1)
  have AW := rfhid awake_t15
  have HSO := rfhid hS
  have HI := rfhid hI
  have hd1 : decide ((40 : Int) < (l.length : Int)) = false := decide_eq_false (by omega)
  have hd2 : decide ((100 : Int) < (kl.length : Int)) = false := decide_eq_false (by omega)
  have hz1 := hdZero
  have hz2 := thZero
  obtain ⟨Z1, hZ1⟩ : ∃ Z, Z = (List.replicate 304 (Value.bool false)).toArray := ⟨_, rfl⟩
  obtain ⟨Z2, hZ2⟩ : ∃ Z, Z = (List.replicate 40 (Value.bool false)).toArray := ⟨_, rfl⟩
  rw [← hZ1] at hz1
  rw [← hZ2] at hz2
  have HZ1 := rfhid hZ1
  have HZ2 := rfhid hZ2
  obtain ⟨vad, vcap, rfl, -⟩ := hI
  obtain ⟨kad, kcap, rfl, -, -, hkc⟩ := hK
  have HK : Hid (∃ pb po : Nat, 0 < kl.length → kad = some ⟨pb, po, none⟩ ∧ pb < w.heap.size ∧ ∀ i (h : i < kl.length), w.cell? ⟨pb, po + i, none⟩ = some (.int .i64 kl[i])) := by
    rcases Nat.eq_zero_or_pos kl.length with h0 | h0
    · exact ⟨0, 0, fun h => by omega⟩
    · obtain ⟨pb, po, h1, h2, h3⟩ := hkc h0
      exact ⟨pb, po, fun _ => ⟨h1, h2, h3⟩⟩
  clear hS hkc hZ1 hZ2
  go_enter Tryz.func3, Tryz.ntmps3
  go_wp2_with fail
  refine (NW.out _).mono ?_
  rintro e w1 ⟨b, gd, V1, rfl, hD1, hb1, hf1⟩
  have HD1 := rfhid hD1
  have HB1 := rfhid hb1
  have HF1 := rfhid hf1
  clear hD1 hb1 hf1
  go_wp2_with fail
  refine (NW.out _).mono ?_
  rintro e w2 ⟨b2, gd2, V2, rfl, hD2, hb2, hf2⟩
  have HP2 : Hid (Pair w.heap.size w w2 b gd (St.new 304) V1 b2 gd2 (St.new 304) V2) := ⟨HD1.out.below hb2, hD2, HB1.out.trans (hb2.mono HB1.out.size), Nat.le_trans HB1.out.size hb2.size, HF1.out, fun q hq => Nat.le_trans HB1.out.size (hf2 q hq), fun q h1 h2 => by have := HD1.out.lt h1; have := hf2 q h2; omega⟩
  have FL := rfhid (fill_t b gd V1 (.slice vad l.length vcap) l w2 HP2.out.dx (HI.out.on HP2.out.below) (away_at HI.out (Nat.le_refl _) HP2.out.fx) hl)
  clear NW HD1 HB1 HF1 hD2 hb2 hf2 HI
  go_wp2_with fail
  refine FL.out.mono ?_
  rintro e w3 ⟨mv, cs, S, V3, L, rfl, hmo, hoff, hD3, hfil, hst, hcl, -, -⟩
  obtain ⟨mad, mcap, rfl⟩ := hmo.slice
  have hlen : (lens cs).length = cs.length := by simp [lens]
  have HP3 : Hid (Pair w.heap.size w w3 b gd S V3 b2 gd2 (St.new 304) V2) := HP2.out.x hD3 hst
  have HM3 : Hid (ISide w3.heap.size w3 b gd V3 b2 gd2 V2 mad (lens cs)) := IOwn.side hmo (fun q hq => hoff q (by rw [hq]; rfl)) (fun q hq hf => by have := (hmo.lt q (by rw [hq]; rfl)).1; have := HP2.out.dy.lt hf; omega)
  have HFil := rfhid hfil
  have hcl40 : cs.length ≤ 40 := by omega
  have HE := rfhid (heads_t hfil _ w3 hmo.ints hcl40)
  rw [hlen] at HE ⊢
  clear hmo hoff hD3 hfil hst FL HP2 hcl
  go_wp2_with fail
  refine HE.out.mono ?_
  rintro e w4 ⟨hv, rfl, hho, hb4⟩
  obtain ⟨had, hcap, rfl⟩ := hho.slice
  have hsl : (secs cs cs.length).length = cs.length := secs_length (Nat.le_refl _)
  have HP4 : Hid (Pair w.heap.size w w4 b gd S V3 b2 gd2 (St.new 304) V2) := HP3.out.more hb4
  have HM4 : Hid (ISide w4.heap.size w4 b gd V3 b2 gd2 V2 mad (lens cs)) := (HM3.out.on hb4).mono hb4.size
  have HH4 : Hid (ISide w4.heap.size w4 b gd V3 b2 gd2 V2 had (secs cs cs.length)) := IOwn.side hho (fun q hq hf => by have := (hho.lt q (by rw [hq]; rfl)).1; have := HP3.out.dx.lt hf; omega) (fun q hq hf => by have := (hho.lt q (by rw [hq]; rfl)).1; have := HP3.out.dy.lt hf; omega)
  have hBM : w.heap.size ≤ w4.heap.size := HP4.out.bs
  have hSN : S.n = 304 := HFil.out.n
  have HSD := rfhid HFil.out.down
  have HSN := rfhid hSN
  rw [hsl]
  clear hho hb4 HE HP3 HM3 hSN
  go_wp2_with fail
  generalize hX : World.alloc w4 _ = X
  have HP5 : Hid (Pair w.heap.size w X b gd S V3 b2 gd2 (St.new 304) V2) := by rw [← hX]; exact HP4.out.more ((Below.refl _ _).alloc (Nat.le_refl _) _)
  have HS5 : Hid (Side X b gd V3 b2 gd2 V2 w4.heap.size (.cells (nmRow 304 (secs cs cs.length) 0) 28 (0, 0))) := by rw [← hX, nmRow_zero, HZ1.out]; exact Side.new HP4.out _
  have HM5 : Hid (ISide w4.heap.size X b gd V3 b2 gd2 V2 mad (lens cs)) := by rw [← hX]; exact HM4.out.on ((Below.refl _ _).alloc (Nat.le_refl _) _)
  have HH5 : Hid (ISide w4.heap.size X b gd V3 b2 gd2 V2 had (secs cs cs.length)) := by rw [← hX]; exact HH4.out.on ((Below.refl _ _).alloc (Nat.le_refl _) _)
  clear hX HP4 HM4 HH4 HZ1 hz1
  go_loopw [10] (fun c wr => ∃ i : Nat, i ≤ cs.length ∧ c = .int .i64 i ∧ Hid (Pair w.heap.size w wr b gd S V3 b2 gd2 (St.new 304) V2) ∧ Hid (Side wr b gd V3 b2 gd2 V2 w4.heap.size (.cells (nmRow 304 (secs cs cs.length) i) 28 (0, 0))) ∧ Hid (ISide w4.heap.size wr b gd V3 b2 gd2 V2 mad (lens cs)) ∧ Hid (ISide w4.heap.size wr b gd V3 b2 gd2 V2 had (secs cs cs.length))) (fun c _ => cs.length - (intOf c).toNat)
  case atStart => exact ⟨0, Nat.zero_le _, rfl, HP5, HS5, HM5, HH5⟩
  case round =>
    obtain ⟨i, hi, rfl, HPr, HSr, HMr, HHr⟩ := hrel
    clear HP5 HS5 HM5 HH5
    rcases Nat.lt_or_ge i cs.length with hlt | hge
    · obtain ⟨q, rfl, hqM, hcell⟩ := HHr.out.cell i (by rw [hsl]; exact hlt)
      rw [secs_get hlt (Nat.le_refl _)] at hcell
      have hp304 := HFil.out.sec_lt i hlt
      have hi2 : i < (secs cs cs.length).length := by rw [hsl]; exact hlt
      have HSET := rfhid (nmRow_set 304 (secs cs cs.length) i (sec cs[i]) hi2 (secs_get hlt (Nat.le_refl _)) hp304)
      obtain ⟨p, hp⟩ : ∃ p, sec cs[i] = p := ⟨_, rfl⟩
      rw [hp] at hcell hp304 HSET
      have hrow := HSr.out.row
      obtain ⟨ob, hob⟩ : ∃ ob, wr.cell? ⟨w4.heap.size, p, none⟩ = some (.bool ob) := ⟨_, (cell_of_row _ _ _ _ _ _ hrow).trans (nmRow_get _ _ _ _ hp304)⟩
      have hfr := frozen_of_row wr w4.heap.size p _ _ hrow
      have hne : q ≠ w4.heap.size := by omega
      clear hrow hp hi2
      go_wp2_with fail
      refine ⟨⟨i + 1, by omega, by go_num, HPr.out.set HSr.out hBM _ _, ?_, HMr.out.other (Nat.le_refl _) _, HHr.out.other (Nat.le_refl _) _⟩, by simp [intOf]; omega⟩
      have h9 := HSr.out.set p (.bool true)
      rw [HSET.out] at h9
      exact h9
    have e : i = cs.length := by omega
    subst e
    clear hi hge
    obtain ⟨Wa, rfl⟩ : ∃ Wa, Wa = wr := ⟨wr, rfl⟩
    go_wp2_with fail
    go_loopw [11] (fun c wr => ∃ (i : Nat) (D : St) (V' : Nat → Value), 48 ≤ i ∧ i ≤ 304 ∧ c = .int .i64 i ∧ Hid (Pair w.heap.size w wr b gd S V3 b2 gd2 D V') ∧ Hid (Copied S.read cs D i) ∧ Hid (Side wr b gd V3 b2 gd2 V' w4.heap.size (.cells (nmRow 304 (secs cs cs.length) cs.length) 28 (0, 0))) ∧ Hid (ISide w4.heap.size wr b gd V3 b2 gd2 V' mad (lens cs)) ∧ Hid (ISide w4.heap.size wr b gd V3 b2 gd2 V' had (secs cs cs.length))) (fun c _ => 304 - (intOf c).toNat)
    case atStart => exact ⟨48, _, _, Nat.le_refl _, by omega, rfl, HPr, Copied.new, HSr, HMr, HHr⟩
    case round =>
      obtain ⟨i, D, V', h48, hi, rfl, HPq, HC, HSq, HMq, HHq⟩ := hrel
      clear HPr HSr HMr HHr
      rcases Nat.lt_or_ge i 304 with hlt | hge
      · have hlti : (i : Int) < 304 := by omega
        have RD := rfhid (disk_read HPq.out.dx i (by rw [HSN.out]; exact hlt) HSD.out)
        have HT := rfhid (read_size HPq.out.dx i (by rw [HSN.out]; exact hlt))
        have hrow := nmRow_get 304 (secs cs cs.length) cs.length i hlt
        have hte : (secs cs cs.length).take cs.length = secs cs cs.length := by
          have := List.take_length (l := secs cs cs.length)
          rw [hsl] at this
          exact this
        rw [hte] at hrow
        have HRW := rfhid hrow
        obtain ⟨T, hT⟩ : ∃ T, S.read i = T := ⟨_, rfl⟩
        have HTE := rfhid hT
        rw [hT] at RD HT
        clear hrow hte hT
        go_wp2_with fail
        refine RD.out.mono ?_
        rintro e wb ⟨rfl, hb⟩
        have HPb := rfhid (HPq.out.more hb)
        have HSb := rfhid (HSq.out.on hb)
        have HMb := rfhid (HMq.out.on hb)
        have HHb := rfhid (HHq.out.on hb)
        clear hb RD HPq HSq HMq HHq
        by_cases hh : (i : Int) ∈ secs cs cs.length
        · have hc1 : wb.cell? ⟨w4.heap.size, i, none⟩ = some (.bool true) := by
            rw [cell_of_row _ _ _ _ _ _ HSb.out.row, HRW.out, decide_eq_true hh]
          have HN := rfhid (HC.out.skip (isHd_mem.2 hh))
          clear hh HC
          go_wp2_with fail
          refine ⟨⟨i + 1, D, V', by omega, by omega, by go_num, HPb, HN, HSb, HMb, HHb⟩, by simp [intOf]; omega⟩
        · have hc1 : wb.cell? ⟨w4.heap.size, i, none⟩ = some (.bool false) := by
            rw [cell_of_row _ _ _ _ _ _ HSb.out.row, HRW.out, decide_eq_false hh]
          have HN := rfhid (HC.out.write h48 (fun h => hh (isHd_mem.1 h)))
          rw [HTE.out] at HN
          have WRt := rfhid (disk_write HPb.out.dy 3 i T (by decide) (by rw [HC.out.two.n]; exact hlt) HT.out HC.out.two.down (by have := HC.out.two.writes; omega))
          clear hh HC
          go_wp2_with fail
          refine WRt.out.mono ?_
          rintro e wc ⟨rfl, V5, hD5, hs5⟩
          have HPc := rfhid (HPb.out.y hD5 hs5)
          have HSc := rfhid (HSb.out.step hs5)
          have HMc := rfhid (HMb.out.step hs5)
          have HHc := rfhid (HHb.out.step hs5)
          clear hD5 hs5 WRt HPb HSb HMb HHb hc1
          go_wp2_with fail
          refine ⟨⟨i + 1, _, V5, by omega, by omega, by go_num, HPc, HN, HSc, HMc, HHc⟩, by simp [intOf]; omega⟩
      have e : i = 304 := by omega
      subst e
      clear hi hge h48
      have FLs := rfhid (disk_flush HPq.out.dy 3 (by decide) HC.out.two.down)
      have HHD0 := rfhid HC.out.flush
      have hM4 : w4.heap.size < wr.heap.size := HSq.out.lt
      go_wp2_with fail
      refine FLs.out.mono ?_
      rintro e w6 ⟨rfl, V6, hD6, hs6⟩
      have HP6 := rfhid (HPq.out.y hD6 hs6)
      have HM6 := rfhid (HMq.out.step hs6)
      have HH6 := rfhid (HHq.out.step hs6)
      have hM6 : w4.heap.size ≤ w6.heap.size := by have := hs6.keep.size; omega
      obtain ⟨D6, hD6e⟩ : ∃ D6, D.flush 3 = D6 := ⟨_, rfl⟩
      rw [hD6e] at HP6 HHD0
      clear hD6 hs6 hD6e FLs HPq HSq HMq HHq HC hM4
      go_wp2_with fail
      go_loopw [14] (fun c wr => ∃ (j : Nat) (D : St) (V' : Nat → Value), j ≤ cs.length ∧ c = .int .i64 j ∧ w4.heap.size ≤ wr.heap.size ∧ Hid (Pair w.heap.size w wr b gd S V3 b2 gd2 D V') ∧ Hid (Headed S.read cs D j) ∧ Hid (ISide w4.heap.size wr b gd V3 b2 gd2 V' mad (lens cs)) ∧ Hid (ISide w4.heap.size wr b gd V3 b2 gd2 V' had (secs cs cs.length))) (fun c _ => cs.length - (intOf c).toNat)
      case atStart => exact ⟨0, _, _, Nat.zero_le _, rfl, hM6, HP6, HHD0, HM6, HH6⟩
      case round =>
        obtain ⟨j, D, V', hj, rfl, hMr, HPq, HC, HMq, HHq⟩ := hrel
        clear HP6 HHD0 HM6 HH6 hM6
        rcases Nat.lt_or_ge j cs.length with hlt | hge
        · obtain ⟨q, hq, hqM, hcell⟩ := HHq.out.cell j (by rw [hsl]; exact hlt)
          have hp304 := HFil.out.sec_lt j hlt
          have HSE := rfhid (secs_get hlt (Nat.le_refl cs.length))
          have HN := rfhid (HC.out.write hlt)
          obtain ⟨p, hp⟩ : ∃ p, sec cs[j] = p := ⟨_, rfl⟩
          rw [HSE.out] at hcell
          rw [hp] at hcell hp304 HN HSE
          have RD := rfhid (disk_read HPq.out.dx p (by rw [HSN.out]; exact hp304) HSD.out)
          have HT := rfhid (read_size HPq.out.dx p (by rw [HSN.out]; exact hp304))
          obtain ⟨T, hT⟩ : ∃ T, S.read p = T := ⟨_, rfl⟩
          rw [hT] at RD HT HN
          clear hT hp
          subst hq
          go_wp2_with fail
          refine RD.out.mono ?_
          rintro e wb ⟨rfl, hb⟩
          have HPb := rfhid (HPq.out.more hb)
          have HMb := rfhid (HMq.out.on hb)
          have HHb := rfhid (HHq.out.on hb)
          have hMb : w4.heap.size ≤ wb.heap.size := Nat.le_trans hMr hb.size
          obtain ⟨q', hq', -, hcell2⟩ := HHb.out.cell j (by rw [hsl]; exact hlt)
          have hqq : q = q' := by injection hq' with h; injection h
          subst hqq
          rw [HSE.out] at hcell2
          have WRt := rfhid (disk_write HPb.out.dy 3 p T (by decide) (by rw [HC.out.two.n]; exact hp304) HT.out HC.out.two.down (by have := HC.out.two.writes; omega))
          clear hb RD HPq HMq HHq HC hq' hcell HSE
          go_wp2_with fail
          refine WRt.out.mono ?_
          rintro e wc ⟨rfl, V5, hD5, hs5⟩
          have HPc := rfhid (HPb.out.y hD5 hs5)
          have HMc := rfhid (HMb.out.step hs5)
          have HHc := rfhid (HHb.out.step hs5)
          have hMc : w4.heap.size ≤ wc.heap.size := Nat.le_trans hMb hs5.keep.size
          clear hD5 hs5 WRt HPb HMb HHb hcell2
          go_wp2_with fail
          refine ⟨⟨j + 1, _, V5, by omega, by go_num, hMc, HPc, HN, HMc, HHc⟩, by simp [intOf]; omega⟩
        have e : j = cs.length := by omega
        subst e
        clear hj hge HHq
        obtain ⟨Wb, rfl⟩ : ∃ Wb, Wb = wr := ⟨wr, rfl⟩
        go_wp2_with fail
        generalize hX : World.alloc Wb _ = X
        have HP7 : Hid (Pair w.heap.size w X b gd S V3 b2 gd2 D V') := by rw [← hX]; exact HPq.out.more ((Below.refl _ _).alloc (Nat.le_refl _) _)
        have HS7 : Hid (Side X b gd V3 b2 gd2 V' Wb.heap.size (.cells (nmRow 40 kl 0) 33 (0, 0))) := by rw [← hX, nmRow_zero, HZ2.out]; exact Side.new HPq.out _
        have HM7 : Hid (ISide w4.heap.size X b gd V3 b2 gd2 V' mad (lens cs)) := by rw [← hX]; exact HMq.out.on ((Below.refl _ _).alloc (Nat.le_refl _) _)
        have hBT : w.heap.size ≤ Wb.heap.size := HPq.out.bs
        obtain ⟨pb, po, hk⟩ := HK.out
        have HKC := rfhid hk
        clear hX HPq HMq HZ2 hz2 HK hk
        go_loopw [18] (fun c wr => ∃ t : Nat, t ≤ kl.length ∧ c = .int .i64 t ∧ Hid (Pair w.heap.size w wr b gd S V3 b2 gd2 D V') ∧ Hid (Side wr b gd V3 b2 gd2 V' Wb.heap.size (.cells (nmRow 40 kl t) 33 (0, 0))) ∧ Hid (ISide w4.heap.size wr b gd V3 b2 gd2 V' mad (lens cs))) (fun c _ => kl.length - (intOf c).toNat)
        case atStart => exact ⟨0, Nat.zero_le _, rfl, HP7, HS7, HM7⟩
        case round =>
          obtain ⟨t, ht, rfl, HPr, HSr, HMr⟩ := hrel
          clear HP7 HS7 HM7
          rcases Nat.lt_or_ge t kl.length with hlt | hge
          · obtain ⟨hka, hkb, hkc⟩ := HKC.out (by omega)
            have hcell : wr.cell? ⟨pb, po + t, none⟩ = some (.int .i64 kl[t]) := by rw [HPr.out.below.cell hkb]; exact hkc t hlt
            have HSK := rfhid (nmRow_skip 40 kl t hlt)
            have HST := rfhid (fun p => nmRow_set 40 kl t p hlt)
            obtain ⟨x, hx⟩ : ∃ x, kl[t] = x := ⟨_, rfl⟩
            rw [hx] at hcell HSK HST
            subst hka
            clear hkc hx
            rcases Int.lt_or_le x 0 with hx0 | hx0
            · have hg1 : decide ((0 : Int) ≤ x) = false := decide_eq_false (by omega)
              go_wp2_with fail
              refine ⟨⟨t + 1, by omega, by go_num, HPr, ?_, HMr⟩, by simp [intOf]; omega⟩
              rw [HSK.out (.inl hx0)]
              exact HSr
            · have hg1 : decide ((0 : Int) ≤ x) = true := decide_eq_true hx0
              rcases Int.lt_or_le x 40 with hx1 | hx1
              · obtain ⟨p, rfl⟩ := Int.eq_ofNat_of_zero_le hx0
                have hp40 : p < 40 := by omega
                have hg2 : decide ((p : Int) < 40) = true := decide_eq_true hx1
                have hrow := HSr.out.row
                obtain ⟨ob, hob⟩ : ∃ ob, wr.cell? ⟨Wb.heap.size, p, none⟩ = some (.bool ob) := ⟨_, (cell_of_row _ _ _ _ _ _ hrow).trans (nmRow_get _ _ _ _ hp40)⟩
                have hfr := frozen_of_row wr Wb.heap.size p _ _ hrow
                have hne : pb ≠ Wb.heap.size := by omega
                clear hrow
                go_wp2_with fail
                refine ⟨⟨t + 1, by omega, by go_num, HPr.out.set HSr.out hBT _ _, ?_, HMr.out.other hMr _⟩, by simp [intOf]; omega⟩
                have h9 := HSr.out.set p (.bool true)
                rw [HST.out p rfl hp40] at h9
                exact h9
              · have hg2 : decide (x < 40) = false := decide_eq_false (by omega)
                go_wp2_with fail
                refine ⟨⟨t + 1, by omega, by go_num, HPr, ?_, HMr⟩, by simp [intOf]; omega⟩
                rw [HSK.out (.inr hx1)]
                exact HSr
          have e : t = kl.length := by omega
          subst e
          clear ht hge
          obtain ⟨Wc, rfl⟩ : ∃ Wc, Wc = wr := ⟨wr, rfl⟩
          go_wp2_with fail
          generalize hX : World.alloc Wc _ = X
          have hal : Below Wc.heap.size Wc X := by rw [← hX]; exact (Below.refl _ _).alloc (Nat.le_refl _) _
          have HP8 : Hid (Pair w.heap.size w X b gd S V3 b2 gd2 D V') := HPr.out.more hal
          have HS8 : Hid (Side X b gd V3 b2 gd2 V' Wb.heap.size (.cells (nmRow 40 kl kl.length) 33 (0, 0))) := HSr.out.on hal
          have HM8 : Hid (ISide w4.heap.size X b gd V3 b2 gd2 V' mad (lens cs)) := HMr.out.on hal
          have hkr : X.heap[Wc.heap.size]? = some (.cells #[.slice none 0 0, .slice none 0 0, .slice none 0 0, .slice kad kl.length kcap] 22 (0, 0)) := by rw [← hX]; exact heap_alloc_new _ _
          have HKA := rfhid (keepAt4 HKC.out HP8.out.below hkr (by omega))
          have hkl2 : Wc.heap.size < X.heap.size := (Array.getElem?_eq_some_iff.1 hkr).1
          have BK := rfhid (back_walk HSO.out HP8.out.dy [[], [], [], kl] Wc.heap.size 0 4 _ _ _ _ (by show 0 < 4; decide) (by show 4 ≤ 17; decide) (by show 4 ≤ 4; decide) HKA.out hkl2 (by have := HC.out.two.writes; omega))
          clear hX hal hkr HKA hkl2 HPr HSr HMr HSO
          refine BK.out.mono ?_
          rintro e w10 ⟨rfl, L', V10, hperm, -, hD10, hs10⟩
          have HP10 := rfhid (HP8.out.y hD10 hs10)
          have HS10 := rfhid (HS8.out.step hs10)
          have HM10 := rfhid (HM8.out.step hs10)
          have HKE : Hid (Kept S.read (D.back L').read cs (fun i => (i : Int) ∈ kl)) := HFil.out.back HC.out kl hperm
          have hDn : (D.back L').n = 304 := HC.out.two.n
          have HDn := rfhid hDn
          obtain ⟨E, hE⟩ : ∃ E, D.back L' = E := ⟨_, rfl⟩
          have hdn : E.down = false := by rw [← hE]; rfl
          rw [hE] at HP10 HKE HDn
          have HDD := rfhid hdn
          clear hD10 hs10 hperm hDn hE hdn BK HP8 HS8 HM8 HC HKC
          go_upto_block 8 with fail
          go_cut [20] (fun c wc => ∃ n : Nat, n ≤ cs.length ∧ c = .int .i64 n ∧ w10 = wc ∧ Hid (∀ i, i < n → (i : Int) ∈ kl) ∧ Hid (n < cs.length → ¬ (n : Int) ∈ kl))
          case first =>
            go_wp2_with fail
            go_loopw [20] (fun c wr => ∃ n : Nat, n ≤ cs.length ∧ c = .int .i64 n ∧ w10 = wr ∧ Hid (∀ i, i < n → (i : Int) ∈ kl)) (fun c _ => cs.length - (intOf c).toNat)
            case atStart => exact ⟨0, Nat.zero_le _, rfl, rfl, fun i hi => absurd hi (Nat.not_lt_zero _)⟩
            case round =>
              obtain ⟨n, hn, rfl, rfl, HA⟩ := hrel
              rcases Nat.lt_or_ge n cs.length with hlt | hge
              · have hn40 : n < 40 := by omega
                have hrow := nmRow_get 40 kl kl.length n hn40
                rw [List.take_length] at hrow
                by_cases hh : (n : Int) ∈ kl
                · have hc1 : w10.cell? ⟨Wb.heap.size, n, none⟩ = some (.bool true) := by
                    rw [cell_of_row _ _ _ _ _ _ HS10.out.row, hrow, decide_eq_true hh]
                  have HA2 : Hid (∀ i, i < n + 1 → (i : Int) ∈ kl) := fun i hi => by
                    rcases Nat.eq_or_lt_of_le (Nat.le_of_lt_succ hi) with e | e
                    · subst e
                      exact hh
                    · exact HA.out i e
                  clear hrow hh
                  go_wp2_with fail
                  refine ⟨⟨n + 1, by omega, by go_num, (by first | rfl | trivial), HA2⟩, by simp [intOf]; omega⟩
                · have hc1 : w10.cell? ⟨Wb.heap.size, n, none⟩ = some (.bool false) := by
                    rw [cell_of_row _ _ _ _ _ _ HS10.out.row, hrow, decide_eq_false hh]
                  have HE9 : Hid (n < cs.length → ¬ (n : Int) ∈ kl) := fun _ => hh
                  clear hrow hh
                  go_wp2_with fail
                  go_meet
                  case rel => exact ⟨n, by omega, (by first | rfl | trivial), (by first | rfl | trivial), HA, HE9⟩
              · have e : n = cs.length := by omega
                subst e
                go_wp2_with fail
                go_meet
                case rel => exact ⟨cs.length, Nat.le_refl _, (by first | rfl | trivial), (by first | rfl | trivial), HA, fun h => absurd h (Nat.lt_irrefl _)⟩
          case rest =>
            obtain ⟨n, hn, rfl, rfl, HA, HE9⟩ := hcut
            obtain ⟨A, hR, hAs, hAc⟩ := HFil.out.kept HKE.out n hn HA.out HE9.out
            have htl : (cs.take n).length = n := by rw [List.length_take]; omega
            have HR := rfhid hR
            have HAC := rfhid hAc
            clear HA HE9 HKE hR hAc HS10
            go_wp2_with fail
            refine (GE.out _).mono ?_
            rintro e w11 ⟨rfl, hb11⟩
            have HB11 := rfhid hb11
            clear hb11
            go_wp2_with fail
            refine (SG.out _).mono ?_
            rintro e w12 ⟨sad, rfl, hI12, hb12⟩
            have HI12 := rfhid hI12
            have HB12 : Hid (Below w10.heap.size w10 w12) := HB11.out.trans (hb12.mono HB11.out.size)
            clear hb12 hI12 HB11
            go_wp2_with fail
            refine (SL.out _).mono ?_
            rintro e w13 ⟨rfl, hb13⟩
            have HI13 := rfhid (HI12.out.on hb13)
            have HB13 : Hid (Below w10.heap.size w10 w13) := HB12.out.trans (hb13.mono HB12.out.size)
            clear hb13 HI12 HB12
            have FW := rfhid (fw_t b2 gd2 E V10 lgB A _ (seqL 0 8) (cs.take n) w13 HI13.out (by decide) (HP10.out.dy.below HB13.out) HDn.out HDD.out HR.out (by rw [htl]; omega))
            rw [htl] at FW
            go_wp2_with fail
            refine FW.out.mono ?_
            rintro e w14 ⟨lad, lcap, Lv, rfl, hO, hm, hb14⟩
            have HB14 : Hid (Below w10.heap.size w10 w14) := HB13.out.trans (hb14.mono HB13.out.size)
            have HO14 := rfhid hO
            have HM14 := rfhid hm
            have HMM14 := rfhid (HM10.out.on HB14.out)
            have HW14 : Hid (Below w.heap.size w w14) := HP10.out.below.trans (HB14.out.mono HP10.out.bs)
            obtain ⟨ahouse, agen, anum, alife, aclock, aseg, apos, anext, aseq, am0, am1, am2, am3, asb, asn, afl⟩ := A
            dsimp only at hAs
            subst hAs
            have HAC2 : Hid (0 < n → aclock = (n : Int) - 1) := HAC.out
            clear hb14 hO hm FW HB13 HI13 HP10 HR HAC HB14 HM10 HDn HDD GE SG SL
            go_wp2_with fail
            generalize hQ : World.alloc w14 _ = Q
            have hbQ : Below w14.heap.size w14 Q := by rw [← hQ]; exact (Below.refl _ _).alloc (Nat.le_refl _) _
            have hcl2 : Q.cell? ⟨w14.heap.size, 2, none⟩ = some (.int .i64 aclock) := by rw [← hQ]; exact (cell_of_row _ _ _ _ _ _ (heap_alloc_new _ _)).trans rfl
            have hltQ : w14.heap.size < Q.heap.size := by rw [← hQ]; simp
            have HOQ := rfhid (HO14.out.on hbQ)
            have HMQ := rfhid (HMM14.out.on hbQ)
            have HWQ : Hid (Below w.heap.size w Q) := HW14.out.trans (hbQ.mono HW14.out.size)
            have HCK : Hid (∀ wr, Below Q.heap.size Q wr → wr.cell? ⟨w14.heap.size, 2, none⟩ = some (.int .i64 aclock)) := fun wr hb => by rw [hb.cell hltQ]; exact hcl2
            clear hQ hbQ hcl2 hltQ HO14 HMM14 HW14
            go_loopw [23] (fun c wr => ∃ i : Nat, i ≤ n ∧ c = .int .i64 i ∧ Hid (Below Q.heap.size Q wr)) (fun c _ => n - (intOf c).toNat)
            case atStart => exact ⟨0, Nat.zero_le _, rfl, Below.refl _ _⟩
            case round =>
              obtain ⟨i, hi, rfl, HB⟩ := hrel
              rcases Nat.lt_or_ge i n with hlt | hge
              · have hic : i < cs.length := by omega
                obtain ⟨g, hdd, hdc, bad, bcap, rfl, -, -, -, -, -, q5, -, q7, -, -, -, q11, -, hT⟩ := fnd_cells (HOQ.out.on HB.out) HM14.out i (by rw [htl]; exact hlt)
                obtain ⟨k, hk24, hbl, hclk, -, -⟩ := HFil.out.form i hic
                have hseq := (HFil.out.head i hic).2.2.2.1
                have hbk : cs[i].bl.length = k := by rw [hbl, ft_length]
                rw [List.getElem_take] at q5 q7 q11 hT
                rw [hseq] at q5
                rw [hclk] at q7
                rw [hbk] at q11 hT
                rw [hbl] at hT
                obtain ⟨mq, rfl, -, mcell⟩ := (HMQ.out.on HB.out).cell i (by rw [hlen]; exact hic)
                have hmk : (lens cs)[i]'(by rw [hlen]; exact hic) = (k : Int) := by
                  simp only [lens, List.getElem_map]
                  rw [hbk]
                rw [hmk] at mcell
                have HTX := rfhid hT
                have hi40 : i ≤ 40 := by omega
                clear hT hbl hclk hseq hbk hmk
                obtain ⟨Wr, rfl⟩ : ∃ Wr, Wr = wr := ⟨wr, rfl⟩
                go_wp2_with fail
                go_quiet (fail)
                go_wp2_with fail
                go_loopw [24] (fun c wq => ∃ j : Nat, j ≤ k ∧ c = .int .i64 j ∧ Hid (Below Wr.heap.size Wr wq)) (fun c _ => k - (intOf c).toNat)
                case atStart => exact ⟨0, Nat.zero_le _, rfl, ⟨rfl, rfl, rfl, Nat.le_refl _, fun _ _ => rfl⟩⟩
                case round =>
                  obtain ⟨j, hj, rfl, HBq⟩ := hrel
                  have hmc := cell_keep HBq.out mcell
                  rcases Nat.lt_or_ge j k with hlt2 | hge2
                  · have hq11 := cell_keep HBq.out q11
                    obtain ⟨ad, cap, hv, -, -, hc⟩ := HTX.out.on HBq.out
                    rw [ft_length] at hv
                    obtain ⟨tb, to_, ha, -, htc⟩ := hc (by rw [ft_length]; omega)
                    injection hv with hv1 hv2 hv3
                    rw [ha] at hv1
                    subst hv1
                    have htx := htc j (by rw [ft_length]; exact hlt2)
                    rw [ft_get] at htx
                    have FI : Hid (∀ w1, Calls Tryz.prog 16 #[.int .i64 ((i : Int) + (j : Int))] w1 fun e w' => e = .returned (.string (Fill (i + j))) ∧ Below w1.heap.size w1 w') := fun w1 => by
                      have e1 : (i : Int) + (j : Int) = ((i + j : Nat) : Int) := by omega
                      rw [e1]
                      exact filled_t (i + j) w1 (by omega)
                    generalize Fill (i + j) = F at htx FI
                    have hii : (i : Int) < (n : Int) := by omega
                    have hjj : (j : Int) < (k : Int) := by omega
                    have hi0 : (0 : Int) ≤ (i : Int) := by omega
                    have hj0 : (0 : Int) ≤ (j : Int) := by omega
                    have hww : IntKind.i64.wrap ((i : Int) + (j : Int)) = (i : Int) + (j : Int) := lgwrap _ (by omega) (by omega)
                    clear hv2 hv3 ha htc hc
                    go_wp2_with fail
                    go_region_held3 (fun w' => w'.cell? ⟨g, i * 12 + 11, none⟩ = some (.slice (some ⟨tb, to_, none⟩) k bcap) ∧ w'.cell? ⟨tb, to_ + j, none⟩ = some (.string F)) (go_keep)
                    (first
                      | (go_at_call 16
                         refine (FI.out _).mono ?_
                         rintro e y ⟨rfl, hy⟩
                         have HY : Hid (Below wr.heap.size wr y) := by first | exact hy | exact under_drew2 hy
                         have hq12 := cell_keep HY.out hq11
                         have htx2 := cell_keep HY.out htx
                         clear hy))
                    all_goals
                      go_wp2_with fail
                      refine ⟨⟨j + 1, by omega, by go_num, HBq.out.trans (HY.out.mono HBq.out.size)⟩, by simp [intOf]; omega⟩
                  have e : j = k := by omega
                  subst e
                  go_wp2_with fail
                  refine ⟨⟨i + 1, by omega, by go_num, HB.out.trans (HBq.out.mono HB.out.size)⟩, by simp [intOf]; omega⟩
              have e : i = n := by omega
              subst e
              have hck := HCK.out wr HB.out
              have HWB : Hid (Below w.heap.size w wr) := HWQ.out.trans (HB.out.mono HWQ.out.size)
              rcases Nat.eq_zero_or_pos i with h0 | h0
              · have hz : ((i : Int) == 0) = true := by rw [h0]; rfl
                clear hck HB HWQ
                go_wp2_with fail
                refine (AW.out _).mono ?_
                rintro e wz ⟨rfl, hb⟩
                have HZ : Hid (Below w.heap.size w wz) := HWB.out.trans (hb.mono HWB.out.size)
                clear hb HWB
                go_wp2_with fail
                go_ret
                exact ⟨rfl, HZ.out⟩
              · have hz : ((i : Int) == 0) = false := by rw [beq_eq_false_iff_ne]; omega
                rw [HAC2.out h0] at hck
                clear HB HWQ
                go_wp2_with fail
                refine (AW.out _).mono ?_
                rintro e wz ⟨rfl, hb⟩
                have HZ : Hid (Below w.heap.size w wz) := HWB.out.trans (hb.mono HWB.out.size)
                clear hb HWB
                go_wp2_with fail
                go_ret
                exact ⟨rfl, HZ.out⟩

set_option maxRecDepth 20000 in
set_option maxHeartbeats 4000000 in
theorem rollPrefix_many (v kv : Value) (l kl : List Int) (w : World) (hI : Ints w v l) (hK : Ints w kv kl) (h : 40 < l.length ∨ 100 < kl.length) (hl2 : l.length ≤ 9223372036854775807) (hk2 : kl.length ≤ 9223372036854775807) :
    Calls Tryz.prog 3 #[v, kv] w fun e w' => e = .returned (.bool true) ∧ Below w.heap.size w w' := by
  have AW := rfhid awake_t15
  obtain ⟨vad, vcap, rfl, -⟩ := hI
  obtain ⟨kad, kcap, rfl, -⟩ := hK
  rcases Nat.lt_or_ge 40 l.length with h1 | h1
  · have hd1 : decide ((40 : Int) < (l.length : Int)) = true := decide_eq_true (by omega)
    clear h
    go_enter Tryz.func3, Tryz.ntmps3
    go_wp2_with fail
    refine (AW.out _).mono ?_
    rintro e w1 ⟨rfl, hb⟩
    have HB := rfhid hb
    clear hb AW
    go_wp2_with fail
    go_ret
    exact ⟨rfl, HB.out⟩
  · have hd1 : decide ((40 : Int) < (l.length : Int)) = false := decide_eq_false (by omega)
    have hd2 : decide ((100 : Int) < (kl.length : Int)) = true := decide_eq_true (by omega)
    clear h
    go_enter Tryz.func3, Tryz.ntmps3
    go_wp2_with fail
    refine (AW.out _).mono ?_
    rintro e w1 ⟨rfl, hb⟩
    have HB := rfhid hb
    clear hb AW
    go_wp2_with fail
    go_ret
    exact ⟨rfl, HB.out⟩
theorem rollPrefix_t (v kv : Value) (l kl : List Int) (w : World) (hI : Ints w v l) (hK : Ints w kv kl) (hl2 : l.length ≤ 9223372036854775807) (hk2 : kl.length ≤ 9223372036854775807) :
    Calls Tryz.prog 3 #[v, kv] w fun e w' => e = .returned (.bool true) ∧ Below w.heap.size w w' := by
  rcases Nat.lt_or_ge 40 l.length with h | h
  · exact rollPrefix_many v kv l kl w hI hK (.inl h) hl2 hk2
  · rcases Nat.lt_or_ge 100 kl.length with h' | h'
    · exact rollPrefix_many v kv l kl w hI hK (.inr h') hl2 hk2
    · exact rollPrefix_few sort_said v kv l kl w hI hK h h'
end Go.Proofs.YtaiebhkjkeadoaaGreat
