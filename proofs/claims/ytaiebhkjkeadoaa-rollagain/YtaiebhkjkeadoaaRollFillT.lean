/- The laws' own fill walked. -/
import Derived.Test.YtaiebhkjkeadoaaRollFillW
import Derived.Test.YtaiebhkjkeadoaaRollRow
namespace Go.Proofs.Ytaiebhkjkeadoaa
open Go.RowKit Lo Hdp Chk Rec Rol

/-- So many blocks each as the numbers say. -/
def SzAt (l : List Int) (cs : List Fnd) : Prop := ∀ j (h : j < cs.length) (h2 : j < l.length), ((cs[j].bl.length : Nat) : Int) = l[j] % 25
theorem SzAt.more {l : List Int} {cs : List Fnd} {f : Fnd} (h : SzAt l cs) (hx : ∀ h2 : cs.length < l.length, ((f.bl.length : Nat) : Int) = l[cs.length] % 25) : SzAt l (cs ++ [f]) := by
  intro j hj h2
  rw [List.length_append, List.length_singleton] at hj
  rcases Nat.lt_or_ge j cs.length with h1 | h1
  · simp only [List.getElem_append_left h1]
    exact h j h1 h2
  · have e : j = cs.length := by omega
    subst e
    simp only [List.getElem_concat_length rfl]
    exact hx h2
theorem Ints.away {w w' : World} {v : Value} {l : List Int} {P : Nat → Prop} (h : Ints w v l) (hf : Away P v) (hs : w.heap.size ≤ w'.heap.size) (hk : ∀ k, P k → k < w.heap.size → w'.heap[k]? = w.heap[k]?) : Ints w' v l := by
  obtain ⟨ad, cap, rfl, hn, hlc, hc⟩ := h
  refine ⟨ad, cap, rfl, hn, hlc, fun hl => ?_⟩
  obtain ⟨b, off, rfl, hb, hi⟩ := hc hl
  have hm := hf b off _ _ rfl hl
  refine ⟨b, off, rfl, by omega, fun i h => ?_⟩
  have e : ∀ q, w'.cell? ⟨b, q, none⟩ = w.cell? ⟨b, q, none⟩ := fun q => by simp only [World.cell?, hk b hm hb]
  rw [e]
  exact hi i h
theorem Step.after {lb b gd : Nat} {w wr w' : World} {V V1 V2 : Nat → Value} (h : Step b gd w V wr V1) (k : LStep lb b gd wr V1 w' V2) (hlb : w.heap.size ≤ lb) : Step b gd w V w' V2 :=
  ⟨h.keep.trans' k.keep (fun i hi hf => by
      rcases hf with hf | hf
      · rcases h.foot' i hf with h1 | h1
        · exact h1
        · omega
      · omega),
   fun i hi => by
      rcases k.foot' i hi with h1 | h1
      · exact h.foot' i h1
      · right; have := h.keep.size; omega⟩
/-- Beside the disk: a row of one's own that grows. -/
theorem Step.beside {b gd N : Nat} {w wr w' : World} {V V1 : Nat → Value} {F : Nat → Prop} (h : Step b gd w V wr V1) (k : Keep F wr w') (hF : ∀ q, F q → w.heap.size ≤ q) (_hN : N = N) : Step b gd w V w' V1 :=
  ⟨h.keep.trans' k (fun i hi hf => by have := hF i hf; omega), h.foot'⟩
theorem LogAt.beside {lb b gd N : Nat} {wr w' : World} {S : St} {V : Nat → Value} {L : Lg} {vv : Value} {F : Nat → Prop} (h : LogAt wr lb b gd S V 32 L vv) (k : Keep F wr w') (hF : ∀ q, F q → N ≤ q ∧ ¬ foot b gd V q) (hN : lb < N) : LogAt w' lb b gd S V 32 L vv :=
  ⟨(k.block lb h.lt (fun hf => by have := (hF lb hf).1; omega)).trans h.row, h.disk.apart k (fun i hi hf => (hF i hf).2 hi), h.free.keep k (fun q hq hf => by have := (hF q hf).1; omega) (fun q _ hq => hq), h.off⟩

set_option maxRecDepth 20000 in
set_option maxHeartbeats 8000000 in
theorem fill_t (b gd : Nat) (V : Nat → Value) (v : Value) (l : List Int) (w : World) (hD : Disk w b (St.new 304) gd V) (hI : Ints w v l) (hoff : Away (fun q => ¬ foot b gd V q) v) (hl : l.length ≤ 40) :
    Calls Try.prog 9 #[.pointer (some ⟨b, 0, none⟩), .int .i64 3, .int .i64 2, v] w fun e w' => ∃ mv cs S V' L, e = .returned mv ∧ IOwn w' w.heap.size mv (lens cs) ∧ (∀ q, mv.ownBlock = some q → ¬ foot b gd V' q) ∧ Disk w' b S gd V' ∧ Fil S cs L ∧ Step b gd w V w' V' ∧ cs.length ≤ l.length ∧ (0 < l.length → 0 < cs.length) ∧ SzAt l cs := by
  have GE := rfhid (fun (w1 : World) => geom_t 8 w1 (by decide))
  have e304 : (48 : Int) + 32 * ((8 : Nat) : Int) = 304 := by decide
  rw [e304] at GE
  have SL := rfhid (fun (w1 : World) => slot0_t 2 w1)
  have NW := rfhid (fun (w1 : World) (u : Value) (h : Ints w1 u (seqL 2 6)) => new_t14 b 304 32 (lg1 8) u w1 h (by decide))
  have FI := rfhid (fun v w (h : v ≤ 100000) => filled_t v w h)
  have PL := rfhid (fun (x : Int) (w1 : World) => gplace_t x 25 w1 (by decide) (by decide))
  have HDI := rfhid hD
  have HI := rfhid (fun (w' : World) (V' : Nat → Value) (hs : Step b gd w V w' V') => hI.away hoff hs.keep.size fun k hk hl2 => hs.keep.block k hl2 hk)
  obtain ⟨sad, scap, rfl, hin, hic, hcc⟩ := hI
  clear hD hin hic hcc e304 hoff
  go_enter Try.func9, Try.ntmps9
  go_wp2_with fail
  refine (GE.out _).mono ?_
  rintro e w1 ⟨rfl, hb1⟩
  have HB1 := rfhid hb1
  clear hb1 GE
  go_wp2_with fail
  refine (SL.out _).mono ?_
  rintro e w2 ⟨rfl, hb2⟩
  have HB2 : Hid (Below w.heap.size w w2) := HB1.out.trans (hb2.mono HB1.out.size)
  clear hb2 HB1 SL
  go_wp2_with fail
  refine (NW.out _ _ (Ints.block (l := seqL 2 6) (heap_alloc_new w2 _) rfl (by decide))).mono ?_
  rintro e w3 ⟨lb, vv, rfl, hr3, hO3, hne3, hlb3, hb3⟩
  have hba := (Below.refl w2.heap.size w2).alloc (Nat.le_refl _) (.cells (icells (seqL 2 6)).toArray 3)
  have hbw : Below w.heap.size w w3 := HB2.out.trans ((hba.trans (hb3.mono hba.size)).mono HB2.out.size)
  have hsz2 : w.heap.size ≤ (w2.alloc (.cells (icells (seqL 2 6)).toArray 3)).heap.size := Nat.le_trans HB2.out.size hba.size
  have hlw : w.heap.size ≤ lb := Nat.le_trans hsz2 hlb3
  have hlt3 : lb < w3.heap.size := (Array.getElem?_eq_some_iff.1 hr3).1
  have HF3 : Hid (FlAt b gd lb w3.heap.size w w3 V (St.new 304) V (lg1 8) vv (.slice none 0 0) []) := by
    refine ⟨fil_new, ⟨hr3, HDI.out.below hbw, ?_, fun hf => ?_⟩, IOwn.nil _ _, fun q hq => by simp [Value.ownBlock] at hq, hlt3, Nat.le_refl _, Step.below hbw⟩
    · exact hO3.free fun j hj h3 _ => ⟨fun hf => by have := HDI.out.lt hf; omega, by have := HDI.out.hd.lt; omega, hne3 j hj⟩
    · have := HDI.out.lt hf
      omega
  obtain ⟨j0, hj0, hy0, hy1, hy2⟩ := info_parts Try.numInfo3
  clear hbw hsz2 hr3 hO3 hne3 hlb3 hb3 hba HB2 NW
  generalize w3.heap.size = N at *
  go_wp2_with fail
  go_loopw [10, 11] (fun mv c wr => ∃ cs S V1 L vv, cs.length ≤ l.length ∧ c = .int .i64 cs.length ∧ Hid (FlAt b gd lb N w wr V S V1 L vv mv cs) ∧ Hid (SzAt l cs)) (fun _ c _ => l.length - (intOf c).toNat)
  case atStart => exact ⟨[], _, _, _, _, Nat.zero_le _, rfl, HF3, fun j h => absurd h (Nat.not_lt_zero _)⟩
  case round =>
    obtain ⟨cs, S, V1, L, vv1, hcl, rfl, HF, HZ⟩ := hrel
    obtain ⟨wo, rfl⟩ : ∃ wo, wo = wr := ⟨_, rfl⟩
    obtain ⟨mad, mcap, rfl⟩ := HF.out.mo.slice
    by_cases hin : cs.length < l.length
    · obtain ⟨g, off, rfl, hcell⟩ : ∃ g off, sad = some ⟨g, off, none⟩ ∧ wo.cell? ⟨g, off + cs.length, none⟩ = some (.int .i64 l[cs.length]) := by
        obtain ⟨ad, cap, hv, hn, hlc, hc⟩ := HI.out wo V1 HF.out.step
        injection hv with hv1 hv2 hv3
        obtain ⟨g, off, ha, hg, hi⟩ := hc (by omega)
        exact ⟨g, off, hv1.trans ha, hi _ hin⟩
      obtain ⟨x, hx⟩ : ∃ x, l[cs.length] = x := ⟨_, rfl⟩
      rw [hx] at hcell
      have HXX := rfhid hx
      clear hx
      obtain ⟨k, hk, hk2⟩ : ∃ k : Nat, x % 25 = (k : Int) ∧ k ≤ 24 := ⟨(x % 25).toNat, by omega, by omega⟩
      have PLx := rfhid (PL.out x wo)
      rw [hk] at PLx
      have HKX : Hid (∀ h2 : cs.length < l.length, l[cs.length] % 25 = (k : Int)) := fun h2 => by rw [HXX.out]; exact hk
      clear hk HXX
      have hi40 : cs.length ≤ 40 := by omega
      obtain ⟨i, hci⟩ : ∃ i, cs.length = i := ⟨_, rfl⟩
      have HCI := rfhid hci
      rw [hci] at hcell hin hi40 ⊢
      clear hci hcl
      go_wp2_with fail
      refine PLx.out.mono ?_
      rintro e wq ⟨rfl, rfl⟩
      clear PLx hcell
      go_wp2_with fail
      go_loopw [13, 14, 15] (fun lv bv c wr => ∃ j : Nat, j ≤ k ∧ c = .int .i64 j ∧ Hid (KtAt i j lv bv wo.heap.size wo wr)) (fun _ _ c _ => k - (intOf c).toNat)
      case atStart => exact ⟨0, Nat.zero_le _, rfl, EOwn.nil _ _, TOwn.nil _ _, Below.refl _ _⟩
      case round =>
        obtain ⟨j, hj, rfl, HM⟩ := hrel
        obtain ⟨hE, hT, hB⟩ := HM.out
        clear HM
        by_cases hjk : j < k
        · have HE := rfhid hE
          have HT := rfhid hT
          have HB := rfhid hB
          have hbs := hB.size
          have hEl := ek_length j
          have hTl := ft_length i j
          have HES := rfhid (ek_succ j)
          have HTS := rfhid (ft_succ i j)
          clear hE hT hB
          generalize hEk : ek j = Ek at *
          generalize hTk : ft i j = Tk at *
          have hEl2 : Ek.length ≤ 24 := by omega
          have hTl2 : Tk.length ≤ 24 := by omega
          clear hEk hTk hEl hTl
          go_wp2_with (first
            | (refine wpList_append_ent rfl _ _ rfl wo.heap.size _ Ek rfl (HE.out.on ((Below.refl _ _).alloc (Nat.le_refl _) _)) wr.heap.size ⟨3, 1 + (j : Int), 0⟩ rfl 62 (0, 0) (heap_alloc_new _ _) ?c2 ?c3 ?_)
            | fail)
          case c2 => omega
          case c3 => simp; omega
          intro lv2 w4 hE3 hb3 hle3 hg3
          have hap := own_apart HE.out HT.out
          have hgA : wr.grownBy w4 _ := ⟨hg3.os, hg3.tape, hg3.output, Nat.le_trans (by simp) hg3.size, fun q hq hn => (hg3.block q (by simp; omega) hn).trans (Below.heap_alloc _ _ _ hq)⟩
          have HT3 := rfhid (HT.out.kept hgA (own_swap hap))
          have HB3 : Hid (Below wo.heap.size wo w4) := HB.out.grown hgA (by omega) (fun q hq => (HE.out.lt q hq).1)
          have HE3 := rfhid hE3
          have hs3 : wr.heap.size ≤ w4.heap.size := hgA.size
          clear hE3 hb3 hle3 hg3 hap hgA HE HT HB
          go_wp2_with fail
          have e1 : (i : Int) + (j : Int) = ((i + j : Nat) : Int) := by omega
          rw [e1]
          refine (FI.out (i + j) _ (by omega)).mono ?_
          rintro e w5 ⟨rfl, hb5⟩
          have HE5 := rfhid (HE3.out.on hb5)
          have HT5 := rfhid (HT3.out.on hb5)
          have HB5 : Hid (Below wo.heap.size wo w5) := HB3.out.trans (hb5.mono (by omega))
          have hs5 : w4.heap.size ≤ w5.heap.size := hb5.size
          clear hb5 HE3 HT3 HB3 e1
          go_wp2_with (first
            | (refine wpList_append_txt rfl _ _ rfl wo.heap.size _ Tk rfl (HT5.out.on ((Below.refl _ _).alloc (Nat.le_refl _) _)) w5.heap.size 1 [Fill (i + j)] rfl 9 (0, 0) (heap_alloc_new _ _) (by simp) ?c2 ?c3 ?_)
            | fail)
          case c2 => simp; omega
          case c3 => simp; omega
          intro bv6 w6 hT6 hb6 hle6 hg6
          have hap := own_apart HE5.out HT5.out
          have hgA : w5.grownBy w6 _ := ⟨hg6.os, hg6.tape, hg6.output, Nat.le_trans (by simp) hg6.size, fun q hq hn => (hg6.block q (by simp; omega) hn).trans (Below.heap_alloc _ _ _ hq)⟩
          have HM6 : Hid (KtAt i (j + 1) lv2 bv6 wo.heap.size wo w6) := by
            refine ⟨?_, ?_, HB5.out.grown hgA (by omega) (fun q hq => (HT5.out.lt q hq).1)⟩
            · rw [HES.out]
              exact HE5.out.kept hgA hap
            · rw [HTS.out]
              exact hT6
          clear hT6 hb6 hle6 hg6 hap hgA HE5 HT5 HB5
          go_wp2_with fail
          exact ⟨⟨j + 1, hjk, by go_num, HM6⟩, by simp [intOf]; omega⟩
        · have hjk2 : j = k := by omega
          subst hjk2
          obtain ⟨ead, ecap, rfl⟩ := hE.slice
          obtain ⟨tad, tcap, rfl⟩ := hT.slice
          rw [ek_length] at hE ⊢
          rw [ft_length] at hT ⊢
          have HE := rfhid hE.ents
          have HT := rfhid hT.txts
          have HA := rfhid (HF.out.at_.on hB)
          have HMo := rfhid (HF.out.mo.on hB)
          have HSt : Hid (Step b gd w V wr V1) := HF.out.step.trans (Step.below hB)
          have hst := hB.size
          clear hE hT hB
          obtain ⟨n8, hn8⟩ : ∃ n8, (lens cs).length = n8 := ⟨_, rfl⟩
          rw [hn8] at HMo ⊢
          have HN8 := rfhid hn8
          clear hn8
          cases hc : L.canB 32 j
          · have FU := rfhid (kx_full HA.out i j hk2 ead tad ecap tcap HT.out hc)
            have hne : 0 < cs.length := by
              rcases Nat.eq_zero_or_pos cs.length with h0 | h0
              · exfalso
                have h1 := HF.out.fil.first (List.length_eq_zero_iff.1 h0)
                simp [Lg.canB, h1] at hc
                omega
              · exact h0
            clear hc
            go_wp2_with fail
            refine FU.out.mono ?_
            rintro e w5 ⟨rfl, hb5⟩
            have HB5 := rfhid hb5
            clear hb5 FU
            go_wp2_with fail
            go_ret
            have hlcs := HCI.out
            refine ⟨.slice mad n8 mcap, cs, S, V1, L, rfl, ?_, fun q hq => HF.out.off q (by rw [HN8.out]; exact hq), HA.out.disk.below HB5.out, HF.out.fil, HSt.out.trans (Step.below HB5.out), by omega, fun _ => hne, HZ.out⟩
            have h7 := HMo.out.on HB5.out
            have h8 := HF.out.size
            exact h7.low (Nat.le_trans hlw (Nat.le_of_lt HF.out.hN))
          · have AP := rfhid (kx_append HA.out HF.out.fil.ok HF.out.fil.n i j (by omega) hk2 ead tad ecap tcap HE.out HT.out hc (by have := HF.out.fil.writes; have := HCI.out; omega) (took_up HF.out.fil.down HF.out.fil.left j))
            have hFM := HF.out.fil.more j hk2 hc (by have := HCI.out; omega)
            rw [HCI.out] at hFM
            have HFM := rfhid hFM
            clear hFM hc HE HT
            go_wp2_with fail
            refine AP.out.mono ?_
            rintro e w5 ⟨a5, V5, v5, rfl, hL5, hs5⟩
            have hmo5 : IOwn w5 N (.slice mad n8 mcap) (lens cs) := owns_of_block HMo.out fun q hq => hs5.keep.block q (HMo.out.lt q hq).2 (fun hf => by
              rcases hf with hf | hf
              · exact HF.out.off q (by rw [HN8.out]; exact hq) hf
              · have := (HMo.out.lt q hq).1; have := HF.out.hN; omega)
            have hoff5 : ∀ q, (Value.slice mad n8 mcap).ownBlock = some q → ¬ foot b gd V5 q := fun q hq hf => by
              rcases hs5.foot' q hf with h1 | h1
              · exact HF.out.off q (by rw [HN8.out]; exact hq) h1
              · have := (HMo.out.lt q hq).2; omega
            have HS5 : Hid (Step b gd w V w5 V5) := HSt.out.after hs5 hlw
            have HL5 := rfhid hL5
            have HMO5 := rfhid hmo5
            have HOF5 := rfhid hoff5
            have hN5 : N ≤ w5.heap.size := Nat.le_trans (Nat.le_trans HF.out.size hst) hs5.keep.size
            have hlen5 : (lens cs).length ≤ 100000 := by
              have := HCI.out
              have h9 : (lens cs).length = cs.length := by simp [lens]
              omega
            clear hL5 hs5 hmo5 hoff5 AP HA HMo HSt
            have BA : Below w5.heap.size w5 (w5.alloc (.cells (icells [(j : Int)]).toArray 3)) := (Below.refl _ _).alloc (Nat.le_refl _) _
            have OA := HMO5.out.on BA
            unfold IOwn at OA
            rw [HN8.out] at OA
            go_wp2_with (first
              | (refine wpList_append_own_at _ rfl _ _ 22 rfl N 3 j0 _ 1 8 Try.underlying22 hj0 hy0 hy1 hy2 rfl (by decide) (.slice mad n8 mcap) n8 (icells (lens cs)) rfl OA ⟨w5.heap.size, 0, none⟩ 1 1 (icells [(j : Int)]) rfl rfl ?d1 ?d2 ?d3 ?d4 ?d5 ?_)
              | fail)
            case d1 =>
              intro q u hq
              rw [num_addr, cell_of_row _ _ _ _ _ _ (heap_alloc_new w5 _), Nat.zero_add]
              show ([Value.int IntKind.i64 (j : Int)].toArray)[q]? = some u
              rw [List.getElem?_toArray]
              exact hq
            case d2 => exact icells_all _
            case d3 => have := HN8.out; unfold maxLen; omega
            case d4 => have := HN8.out; omega
            case d5 => simp; omega
            intro v6 w6 hown6 hg6 _ hat6
            obtain ⟨f, hf⟩ : ∃ f : Fnd, f = ⟨(L.move 32 j).seg, (L.move 32 j).pos, (L.move 32 j).head (kx i j), ft i j⟩ := ⟨_, rfl⟩
            rw [← hf] at HFM
            have hflen : f.bl.length = j := by rw [hf]; exact ft_length _ _
            clear hf
            have K6 : Keep (fun q => (Value.slice mad n8 mcap).ownBlock = some q) w5 w6 := ⟨hg6.os, hg6.tape, hg6.output, Nat.le_trans BA.size hg6.size, fun q hq hn => (hg6.block q (Nat.lt_of_lt_of_le hq BA.size) (fun e => hn e.symm)).trans (BA.block q hq)⟩
            have hlens : lens (cs ++ [f]) = lens cs ++ [(j : Int)] := by
              unfold lens
              rw [List.map_append]
              show _ ++ [((f.bl.length : Nat) : Int)] = _
              rw [hflen]
            have mo6 : Hid (IOwn w6 N v6 (lens (cs ++ [f]))) := by
              show World.ownsRow _ _ _ _ _ _ _
              rw [hlens, icells_append, List.length_append, HN8.out]
              exact hown6
            have hltN := HF.out.hN
            have HL6 := rfhid (HL5.out.beside K6 (fun q hq => ⟨(HMO5.out.lt q hq).1, HOF5.out q hq⟩) hltN)
            have HS6 := rfhid (HS5.out.beside (N := N) K6 (fun q hq => by have := (HMO5.out.lt q hq).1; omega) rfl)
            have off6 : ∀ q, v6.ownBlock = some q → ¬ foot b gd V5 q := fun q hq => by
              rcases hat6 with h1 | h1
              · exact HOF5.out q (by rw [← h1]; exact hq)
              · rw [h1] at hq
                injection hq with hq
                intro hf9
                have h10 := HL5.out.disk.lt hf9
                have h11 := BA.size
                omega
            have hs6 : N ≤ w6.heap.size := Nat.le_trans hN5 K6.size
            have HFN := rfhid (show FlAt b gd lb N w w6 V _ V5 _ v5 v6 (cs ++ [f]) from ⟨HFM.out, HL6.out, mo6.out, off6, hltN, hs6, HS6.out⟩)
            obtain ⟨md6, mc6, rfl⟩ := mo6.out.slice
            have hlc : (cs ++ [f]).length = i + 1 := by
              rw [List.length_append, HCI.out]
              rfl
            have HLC := rfhid hlc
            have HZN : Hid (SzAt l (cs ++ [f])) := HZ.out.more fun h2 => by rw [hflen]; exact (HKX.out h2).symm
            clear hlc HZ HKX HFM HL6 mo6 HL5 HMO5 HOF5 HS5 HS6 K6 hown6 hg6 hat6 off6 OA BA HF hlens
            go_wp2_with fail
            refine ⟨⟨cs ++ [f], _, _, _, _, by have := HLC.out; omega, ?_, HFN, HZN⟩, by simp [intOf]; omega⟩
            rw [HLC.out]
            go_num
    · have hcl2 : cs.length = l.length := by omega
      have HMo := rfhid HF.out.mo
      go_wp2_with fail
      go_ret
      refine ⟨_, cs, S, V1, L, rfl, ?_, HF.out.off, HF.out.at_.disk, HF.out.fil, HF.out.step, by omega, (fun h => by omega), HZ.out⟩
      exact HMo.out.low (Nat.le_trans hlw (Nat.le_of_lt HF.out.hN))
end Go.Proofs.Ytaiebhkjkeadoaa
