/- A chunk written from a sector on, walked: its blocks, a Flush, its head. -/
import Derived.Test.YtaiebhkjkeadoaaLogGround
namespace Go.Proofs.Ytaiebhkjkeadoaa
open Go.RowKit Lo

/-- How far the writing has come. -/
def Burst (S : St) (j : Nat) : Prop := j = 0 ∨ (S.down = false ∧ (S.left = 0 ∨ j ≤ S.left))
theorem Burst.go {S : St} {o F : Nat} {T : ByteArray} {j : Nat} (h : Burst S j) (hd : (burst S o F T j).down = false) : S.down = false ∧ (S.left = 0 ∨ j < S.left) := by
  rcases h with rfl | ⟨h1, h2⟩
  · have hd' : S.down = false := hd
    exact ⟨hd', by omega⟩
  · refine ⟨h1, ?_⟩
    rcases h2 with h2 | h2
    · exact .inl h2
    · rcases Nat.lt_or_ge j S.left with h3 | h3
      · exact .inr h3
      · rcases Nat.eq_zero_or_pos S.left with h4 | h4
        · exact .inl h4
        · have e : j = S.left := by omega
          rw [e, burst_cut h4] at hd
          cases hd
theorem Burst.stop {S : St} {o F : Nat} {T : ByteArray} {j k : Nat} (h : Burst S j) (hd : (burst S o F T j).down = true) (hj : j ≤ k) : took S k = false ∧ chunk S o F T k = burst S o F T j := by
  cases hs : S.down
  · rcases h with rfl | ⟨_, h2⟩
    · have hd' : S.down = true := hd
      rw [hs] at hd'; cases hd'
    · have h3 : ¬ (S.left = 0 ∨ j < S.left) := fun h4 => by rw [burst_up hs j h4] at hd; cases hd
      have e : S.left = j := by omega
      have ht : took S k = false := by
        cases h5 : took S k
        · rfl
        · have := (took_iff.1 h5).2
          omega
      exact ⟨ht, by rw [chunk_cut ht hs, e]⟩
  · have e : j = 0 := by
      rcases h with e | ⟨h1, _⟩
      · exact e
      · rw [hs] at h1; cases h1
    subst e
    exact ⟨by simp [took, hs], chunk_down hs⟩

theorem Disk.drewn {w : World} {b gd : Nat} {S : St} {V : Nat → Value} (h : Disk w b S gd V) : Disk w.drew b S gd V := h.keep fun _ _ => rfl
theorem Step.of_drew {b gd : Nat} {w w' : World} {V V' : Nat → Value} (h : Step b gd w.drew V w' V') : Step b gd w V w' V' :=
  ⟨⟨h.keep.os, h.keep.tape, h.keep.output, h.keep.size, h.keep.block⟩, h.foot'⟩
theorem Step.row {b gd : Nat} {w w' : World} {V V' : Nat → Value} (h : Step b gd w V w' V') {k : Nat} {o : Obj} (hk : w.heap[k]? = some o) (hf : ¬ foot b gd V k) : w'.heap[k]? = some o :=
  (h.keep.block k (Array.getElem?_eq_some_iff.1 hk).1 hf).trans hk
theorem Step.off {b gd : Nat} {w w' : World} {V V' : Nat → Value} (h : Step b gd w V w' V') {k : Nat} (hk : k < w.heap.size) (hf : ¬ foot b gd V k) : ¬ foot b gd V' k := fun hf' => by
  rcases h.foot' k hf' with h1 | h1
  · exact hf h1
  · omega

theorem burst_more {S : St} {o F : Nat} {T : ByteArray} {J : Nat} (h : 1 ≤ J) : (burst S o F T (J - 1)).write o (F + J) (blkT T J) = burst S o F T J := by
  obtain ⟨j, rfl⟩ : ∃ j, J = j + 1 := ⟨J - 1, by omega⟩
  rfl

set_option maxRecDepth 10000 in
set_option maxHeartbeats 4000000 in
theorem gwrite_t (b gd : Nat) (S : St) (V : Nat → Value) (SS G : Int) (o F k : Nat) (T : ByteArray) (w : World) (hD : Disk w b S gd V) (ho : o < 17) (hF : F + k < S.n) (hT : T.size = 256 * (1 + k)) (hk : k ≤ 1000) (hw : S.writes + 1 + k ≤ 1000000) :
    Calls Try.prog 33 #[grV b SS G, .int .i64 o, .int .i64 F, .string T] w fun e w' => e = .returned (.bool (took S k)) ∧ ∃ V', Disk w' b (chunk S o F T k) gd V' ∧ Step b gd w V w' V' := by
  have BLK := lohid (fun (i : Int) (j : Nat) (w1 : World) hi hj => block_t T k i j w1 hT hi hj (by omega))
  have WY := lohid (fun (j : Nat) (V1 : Nat → Value) (w1 : World) (h : Disk w1 b (burst S o F T (j - 1)) gd V1) (hj1 : 1 ≤ j) (hj : j ≤ k) (hd : (burst S o F T (j - 1)).down = false) =>
    disk_write h o (F + j) (blkT T j) ho (by rw [burst_n]; omega) (blkT_size hT hj) hd (by rw [burst_writes]; omega))
  have WH := lohid (fun (V1 : Nat → Value) (w1 : World) (h : Disk w1 b ((burst S o F T k).flush o) gd V1) (hd : (burst S o F T k).down = false) =>
    disk_write h o F (blkT T 0) ho (by show F < (burst S o F T k).n; rw [burst_n]; omega) (blkT_size hT (Nat.zero_le _)) hd (by show (burst S o F T k).writes < _; rw [burst_writes]; omega))
  have FL := lohid (fun (V1 : Nat → Value) (w1 : World) (h : Disk w1 b (burst S o F T k) gd V1) (hd : (burst S o F T k).down = false) => disk_flush h o ho hd)
  have hn : S.n ≤ 16384 := hD.ok.n2
  have hF2 : F ≤ 16384 := by omega
  have HDI := lohid hD
  obtain ⟨M, hM⟩ : ∃ M : Nat, T.size = M := ⟨_, rfl⟩
  have hM2 : M = 256 * (1 + k) := by omega
  clear hT hD hF hw
  go_enter Try.func33, Try.ntmps33
  go_wp2_with fail
  generalize hW : World.alloc w _ = W
  have R0 : W.heap[w.heap.size]? = some (.cells #[.pointer (some ⟨b, 0, none⟩), .int .i64 SS, .int .i64 G] 75 (0, 0)) := by rw [← hW]; exact heap_alloc_new _ _
  have HB0 : Hid (Below w.heap.size w W) := by rw [← hW]; exact (Below.refl _ w).alloc (Nat.le_refl _) _
  have hlt : w.heap.size < W.heap.size := by rw [← hW]; simp
  have HD0 : Hid (Disk W b S gd V) := HDI.out.below HB0.out
  have HF0 : Hid (¬ foot b gd V w.heap.size) := fun h => by have := HDI.out.lt h; omega
  have HR0 := lohid R0
  clear hW R0 HDI
  go_loopw [9] (fun c wr => ∃ J : Nat, 1 ≤ J ∧ J ≤ k + 1 ∧ c = .int .i64 J ∧ Hid (Burst S (J - 1) ∧ ∃ V1, Disk wr b (burst S o F T (J - 1)) gd V1 ∧ Step b gd W V wr V1)) (fun c _ => k + 2 - (intOf c).toNat)
  case atStart => exact ⟨1, by omega, by omega, rfl, ⟨.inl rfl, V, HD0.out, Step.refl _ _ _ _⟩⟩
  case round =>
    obtain ⟨J, hJ1, hJ2, rfl, HI⟩ := hrel
    obtain ⟨hb1, V1, hD1, hS1⟩ := HI.out
    have hR := hS1.row HR0.out HF0.out
    have HF1 := lohid (hS1.off hlt HF0.out)
    have c0 := (cells3 hR).1
    have HBu := lohid hb1
    have HD1 := lohid hD1
    have HS1 := lohid hS1
    have HR := lohid hR
    clear hb1 hD1 hS1 hR HI
    have hJm : J - 1 ≤ k := by omega
    by_cases hJ : J ≤ k
    · have hg : (J : Int) * 256 < (M : Int) := by omega
      cases hd : (burst S o F T (J - 1)).down
      · have hd1 : S.down = false ∧ (S.left = 0 ∨ J - 1 < S.left) := HBu.out.go hd
        have HD1w := lohid HD1.out.drewn
        have HNX : Hid (Burst S J) := .inr ⟨hd1.1, by omega⟩
        have HDN := lohid hd
        clear hd hd1 HBu
        go_wp2_with fail
        go_region_held3 (fun w' => w'.cell? ⟨w.heap.size, 0, none⟩ = some (.pointer (some ⟨b, 0, none⟩))) (go_keep)
          (first
            | (go_at_call 41; refine (BLK.out _ J _ rfl hJ).mono ?_; rintro e w1 ⟨rfl, rfl⟩)
            | (go_at_call 18; rw [lgwrap ((F : Int) + (J : Int)) (by omega) (by omega)]; refine (WY.out J V1 _ HD1w.out hJ1 hJ HDN.out).mono ?_; rintro e w2 ⟨rfl, V2, hD2, hS2⟩
               have HD2 := lohid hD2
               have HS2 := lohid hS2.of_drew
               have hc2 := (cells3 (HS2.out.row HR.out HF1.out)).1
               clear hD2 hS2))
        go_wp2_with fail
        have e1 : (burst S o F T (J - 1)).write o (F + J) (blkT T J) = burst S o F T J := burst_more hJ1
        have HI2 : Hid (Burst S (J + 1 - 1) ∧ ∃ V1, Disk w2 b (burst S o F T (J + 1 - 1)) gd V1 ∧ Step b gd W V w2 V1) := by
          have h2 := HD2.out
          rw [e1] at h2
          exact ⟨HNX.out, V2, h2, HS1.out.trans HS2.out⟩
        clear e1
        exact ⟨⟨J + 1, by omega, by omega, by go_num, HI2⟩, by simp [intOf]; omega⟩
      · have hst := HBu.out.stop hd hJm
        have HST := lohid hst
        have HC := lohid HD1.out.drewn.hd.c20
        rw [hd] at HC
        clear hd hst HBu
        go_wp2_with fail
        go_region_held3 (fun w' => w'.cell? ⟨w.heap.size, 0, none⟩ = some (.pointer (some ⟨b, 0, none⟩))) (go_keep)
          (first
            | (go_at_call 41; refine (BLK.out _ J _ rfl hJ).mono ?_; rintro e w1 ⟨rfl, rfl⟩)
            | (go_at_call 18; refine (write_down b _ _ _ _ HC.out).mono ?_; rintro e w2 ⟨rfl, rfl⟩))
        go_wp2_with fail
        go_ret
        exact ⟨by rw [HST.out.1]; rfl, V1, by rw [HST.out.2]; exact HD1.out.drewn, (Step.below HB0.out).trans (HS1.out.trans ⟨(Keep.refl _ _).drew, fun _ h => .inl h⟩)⟩
    · have hg : ¬ (J : Int) * 256 < (M : Int) := by omega
      have hJk : J - 1 = k := by omega
      rw [hJk] at HBu HD1
      have BL0 : ∀ w1 : World, Hid (Calls Try.prog 41 #[.string T, .int .i64 0] w1 fun e w' => e = .returned (.string (blkT T 0)) ∧ w1 = w') := fun w1 => BLK.out 0 0 w1 rfl (Nat.zero_le _)
      cases hd : (burst S o F T k).down
      · have hd1 : S.down = false ∧ (S.left = 0 ∨ k < S.left) := HBu.out.go hd
        have htk : took S k = true := took_iff.2 hd1
        have HTK := lohid htk
        have HCY := lohid (chunk_yes (o := o) (F := F) (T := T) htk)
        have HD1w := lohid HD1.out.drewn
        have HDN := lohid hd
        clear hd hd1 HBu htk BLK hJk
        go_wp2_with fail
        go_region_held3 (fun w' => w'.cell? ⟨w.heap.size, 0, none⟩ = some (.pointer (some ⟨b, 0, none⟩))) (go_keep)
          (first
            | (go_at_call 41; refine (BL0 _).out.mono ?_; rintro e w1 ⟨rfl, rfl⟩)
            | (go_at_call 42; refine (FL.out V1 _ HD1w.out HDN.out).mono ?_; rintro e w2 ⟨rfl, V2, hD2, hS2⟩
               have HD2 := lohid hD2
               have HS2 := lohid hS2.of_drew
               have HR2 := lohid (HS2.out.row HR.out HF1.out)
               have HF2 := lohid (HS2.out.off (Array.getElem?_eq_some_iff.1 HR.out).1 HF1.out)
               have hc2 := (cells3 HR2.out).1
               clear hD2 hS2)
            | (go_at_call 18; refine (WH.out V2 _ HD2.out HDN.out).mono ?_; rintro e w3 ⟨rfl, V3, hD3, hS3⟩
               have HD3 := lohid hD3
               have HS3 := lohid hS3
               have hc3 := (cells3 (HS3.out.row HR2.out HF2.out)).1
               clear hD3 hS3))
        go_wp2_with fail
        go_ret
        exact ⟨by rw [HTK.out]; rfl, V3, by rw [HCY.out]; exact HD3.out, (Step.below HB0.out).trans (HS1.out.trans (HS2.out.trans HS3.out))⟩
      · have hst := HBu.out.stop hd (Nat.le_refl _)
        have HST := lohid hst
        have HC := lohid HD1.out.hd.c20
        rw [hd] at HC
        clear hd hst HBu BLK hJk
        go_wp2_with fail
        have HCq : Hid (∀ n, (wr.drewN n).cell? ⟨b, 20, none⟩ = some (.bool true)) := fun n => HC.out
        go_quiet (refine Calls.quiet_of_same ((flush_down b _ _ (HCq.out _)).mono fun _ _ h => ⟨h.1, h.2.symm⟩))
        go_wp2_with fail
        go_ret
        exact ⟨by rw [HST.out.1]; rfl, V1, by rw [HST.out.2]; exact HD1.out.keep (fun _ _ => rfl), (Step.below HB0.out).trans (HS1.out.trans ⟨⟨rfl, rfl, rfl, Nat.le_refl _, fun _ _ _ => rfl⟩, fun _ h => .inl h⟩)⟩
end Go.Proofs.Ytaiebhkjkeadoaa
