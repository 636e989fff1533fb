/- LogAppends walked. -/
import Derived.Test.YtgbgklnlmgpmjaaLogAppA
import Derived.Test.YtgbgklnlmgpmjaaLogAppB
import Derived.Test.YtgbgklnlmgpmjaaLogAppC
namespace Go.Proofs.Ytgbgklnlmgpmjaa
open Go.RowKit Lo Hdp Chk Rec

set_option maxRecDepth 1000000 in
set_option maxHeartbeats 40000000 in
theorem logAppends_t (segs : Int) (sv gv : Value) (sizes give : List Int) (w : World) (hsz : Ints w sv sizes) (hgv : Ints w gv give) (hl1 : sizes.length ≤ 9223372036854775807) (hl2 : give.length ≤ 9223372036854775807) :
    Calls Try.prog 3 #[.int .i64 segs, sv, gv] w fun e w' => e = .returned (.bool true) ∧ Below w.heap.size w w' := by
  have PLs := lohid (fun w => gplace_t segs 8 w (by decide) (by decide))
  obtain ⟨p, hp, hp2⟩ : ∃ p : Nat, segs % 8 = (p : Int) ∧ p < 8 := ⟨(segs % 8).toNat, by omega, by omega⟩
  rw [hp] at PLs
  clear hp
  obtain ⟨n, hn, hn8, hn15⟩ : ∃ n : Nat, 8 + (p : Int) = (n : Int) ∧ 8 ≤ n ∧ n ≤ 15 := ⟨8 + p, by omega, by omega, by omega⟩
  have NW := lohid (fun w1 => disk_new (48 + 32 * n) w1 (by omega) (by omega))
  rw [show ((48 + 32 * n : Nat) : Int) = 48 + 32 * (n : Int) by omega] at NW
  have MK := lohid (fun (b gd : Nat) (V : Nat → Value) (w1 : World) (h : Disk w1 b (St.new (48 + 32 * n)) gd V) => make1_t n b gd (St.new (48 + 32 * n)) V w1 h (by omega) (by omega) rfl)
  have AW := lohid awake_t
  obtain ⟨m, hm1, hm2⟩ : ∃ m, m + 2 ≤ n ∧ n ≤ m + 2 := ⟨n - 2, by omega, by omega⟩
  have HM := lohid (by omega : n - 2 = m)
  have HSZ := lohid hsz
  have HGV := lohid hgv
  obtain ⟨sad, scap, rfl, -, hslc, hsc⟩ := hsz
  obtain ⟨gad, gcap, rfl, -, hglc, hgc⟩ := hgv
  have HSC := lohid hsc
  have HGC := lohid hgc
  clear hsc hgc
  go_enter Try.func3, Try.ntmps3
  go_wp2_with fail
  refine (PLs.out _).mono ?_
  rintro e wp ⟨rfl, rfl⟩
  go_wp2_with fail
  refine (NW.out _).mono ?_
  rintro e w1 ⟨b, gd, V, rfl, hD1, hb1, hf1⟩
  have HD1 := lohid hD1
  have HB1 := lohid hb1
  have HF1 := lohid hf1
  clear hD1 hb1 hf1 NW PLs
  go_wp2_with fail
  refine (MK.out b gd V w1 HD1.out).mono ?_
  rintro e w2 ⟨lb, vv, rfl, hL2, hlb, hb2⟩
  have HL2 := lohid hL2
  have HB2 : Hid (Below w.heap.size w w2) := HB1.out.trans (hb2.mono HB1.out.size)
  have hlb2 : w.heap.size ≤ lb := Nat.le_trans HB1.out.size hlb
  clear hL2 hb2 MK HB1 HD1 hlb
  by_cases h60 : 60 < sizes.length
  · go_wp2_with fail
    refine (AW.out _).mono ?_
    rintro e w3 ⟨rfl, hb3⟩
    have HB3 : Hid (Below w.heap.size w w3) := HB2.out.trans (hb3.mono HB2.out.size)
    clear hb3 HB2 HL2
    go_wp2_with fail
    go_ret
    exact ⟨rfl, HB3.out⟩
  · have h60i : ¬ (60 : Int) < (sizes.length : Int) := by omega
    go_wp2_with fail
    go_loopw [14, 15] (fun v c wr => ∃ k : Nat, k ≤ m ∧ c = .int .i64 ((k : Int) + 2) ∧ Hid (IOwn wr w2.heap.size v (seqL 2 k) ∧ Below w2.heap.size w2 wr)) (fun _ c _ => n - (intOf c).toNat)
    case atStart => exact ⟨0, Nat.zero_le _, rfl, IOwn.nil _ _, Below.refl _ _⟩
    case round =>
      obtain ⟨k, hk, rfl, HI⟩ := hrel
      obtain ⟨hO, hB⟩ := HI.out
      have HO := lohid hO
      have HB := lohid hB
      clear hO hB HI
      by_cases hkm : k < m
      · have hc : (k : Int) + 2 < (n : Int) := by omega
        have HLs : (seqL 2 k).length ≤ 200 := by rw [seqL_length]; omega
        have HSS := lohid (seqL_succ 2 k)
        generalize seqL 2 k = Lk at *
        have hbs := HB.out.size
        go_wp2_with (first
          | (refine wpList_append_one rfl _ _ rfl w2.heap.size _ Lk rfl (HO.out.on ((Below.refl _ _).alloc (Nat.le_refl _) _)) wr.heap.size 1 [(k : Int) + 2] rfl 3 (0, 0) (heap_alloc_new _ _) (by simp) ?c2 ?c3 ?_)
          | fail)
        case c2 => simp; omega
        case c3 => simp; omega
        intro v2 w3 hO2 hb2 hle2
        have e : (k : Int) + 2 = ((2 : Nat) : Int) + (k : Int) := by omega
        rw [e, ← HSS.out] at hO2
        have HN : Hid (IOwn w3 w2.heap.size v2 (seqL 2 (k + 1)) ∧ Below w2.heap.size w2 w3) := by
          refine ⟨hO2, HB.out.trans ?_⟩
          have h3 := ((Below.refl w2.heap.size wr).alloc hbs (.cells (icells [(k : Int) + 2]).toArray 3)).trans hb2
          exact h3
        clear hO2 hb2 hle2 HO HB HSS e
        go_wp2_with fail
        exact ⟨⟨k + 1, hkm, by go_num, HN⟩, by simp [intOf]; omega⟩
      · have hkk : k = m := by omega
        subst hkk
        have hc : ¬ ((k : Int) + 2 < (n : Int)) := by omega
        obtain ⟨fad, fcap, rfl⟩ := HO.out.slice
        rw [seqL_length] at HO ⊢
        have HA0 : Hid (AppAt n lb b gd w2.heap.size 0 w wr (St.new (48 + 32 * n)) V (lg1 n) vv (.slice fad k fcap)) := by
          refine ⟨LawOk.one (by omega) (by omega), HL2.out.on HB.out, ?_, rfl, rfl, rfl, Nat.zero_le _, fun _ _ => rfl, by show (5 : Int) ≤ _; omega, HL2.out.lt, HB.out.size, HB2.out.trans (HB.out.mono HB2.out.size), HF1.out⟩
          show FreeAt wr _ _ (seqL 2 (n - 2))
          rw [HM.out]
          exact HO.out.free fun q _ h1 _ => ⟨h1, fun hf => by have := HL2.out.disk.lt hf; omega⟩
        have hlen0 : (lg1 n).free.length = k := by show (seqL 2 (n - 2)).length = k; rw [seqL_length, HM.out]
        clear HO HB HL2 HB2 HF1 hc
        go_wp2_with fail
        go_loopw [10, 11, 12, 13, 14, 16] (fun a1 a2 a3 a4 fv q wr => ∃ i : Nat, i ≤ sizes.length ∧ q = .int .i64 i ∧ ∃ S V L vv fad fcap, a1 = .int .i64 L.seg ∧ a2 = .int .i64 L.pos ∧ a3 = .int .i64 L.next ∧ a4 = .int .i64 L.seq ∧ fv = .slice fad L.free.length fcap ∧ Hid (AppAt n lb b gd w2.heap.size i w wr S V L vv (.slice fad L.free.length fcap))) (fun _ _ _ _ _ q _ => sizes.length - (intOf q).toNat)
        case atStart => exact ⟨0, Nat.zero_le _, rfl, _, _, _, _, fad, fcap, rfl, rfl, rfl, rfl, by rw [hlen0], by rw [hlen0]; exact HA0⟩
        case round =>
          obtain ⟨i, hi, rfl, S, V1, L, v1, fad1, fcap1, rfl, rfl, rfl, rfl, rfl, HA⟩ := hrel
          clear HA0 hlen0
          rcases Nat.lt_or_ge i sizes.length with hil | hil
          · obtain ⟨k2, hk2⟩ : ∃ k2 : Nat, (sizes[i] % 1048576) % 25 = (k2 : Int) := ⟨((sizes[i] % 1048576) % 25).toNat, by omega⟩
            have hways : (L.pos + 1 + (k2 : Int) ≤ 32 ∧ L.canB 32 k2 = true) ∨ (¬ L.pos + 1 + (k2 : Int) ≤ 32 ∧ (0 : Int) < (L.free.length : Int) ∧ L.canB 32 k2 = true) ∨ (¬ L.pos + 1 + (k2 : Int) ≤ 32 ∧ ¬ (0 : Int) < (L.free.length : Int) ∧ L.canB 32 k2 = false) := by
              rw [can_is]
              by_cases h1 : L.pos + 1 + (k2 : Int) ≤ 32
              · exact .inl ⟨h1, by simp [h1]⟩
              · by_cases h2 : 0 < L.free.length
                · exact .inr (.inl ⟨h1, by omega, by simp [h2]⟩)
                · exact .inr (.inr ⟨h1, by omega, by simp [h1, h2]⟩)
            rcases hways with ⟨hst, hcb⟩ | ⟨hst, hfl, hcb⟩ | ⟨hst, hfl, hcb⟩
            · exact round_A hl1 hl2 hn8 hn15 hlb2 h60 hil (lohid rfl) HSC HGC HA k2 hk2 hst hcb
            · exact round_B hl1 hl2 hn8 hn15 hlb2 h60 hil (lohid rfl) HSC HGC HA k2 hk2 hst hfl hcb
            · exact round_C hl1 hl2 hn8 hn15 hlb2 h60 hil (lohid rfl) HSC HGC HA k2 hk2 hst hfl hcb
          · have hii : i = sizes.length := by omega
            subst hii
            go_wp2_with fail
            refine (AW.out _).mono ?_
            rintro e wj ⟨rfl, hbj⟩
            have HBj : Hid (Below w.heap.size w wj) := HA.out.below.trans (hbj.mono HA.out.below.size)
            clear hbj HA
            go_wp2_with fail
            go_ret
            exact ⟨rfl, HBj.out⟩
end Go.Proofs.Ytgbgklnlmgpmjaa
