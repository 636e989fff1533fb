/- The law LeafAll walked: any places, any bytes, any name: as the document's own answers. -/
import Derived.Test.YtpgbnfolekanmaaDoorLeafAwake
import Derived.Test.YtpgbnfolekanmaaDoorLeafRefGet
import Derived.Test.YtpgbnfolekanmaaDoorLeafRefTrim
namespace Go.Proofs.YtpgbnfolekanmaaDoor
open Go.RowKit Lf

set_option maxRecDepth 10000 in
set_option maxHeartbeats 4000000 in
theorem leafAll_t (v : Value) (l : List Nm) (s nm : ByteArray) (w : World) (hE : Nams w v l) :
    Calls Tryd.prog 3 #[v, .string s, .string nm] w fun e w' => e = .returned (.bool true) ∧ Below w.heap.size w w' := by
  have HE0 := lfhid hE
  have FW := lfhid (few_t v l w hE)
  obtain ⟨ad, cap, rfl⟩ := hE.slice
  have AW := lfhid awake_t
  clear hE
  go_enter Tryd.func3, Tryd.ntmps3
  go_wp2_with fail
  refine FW.out.mono ?_
  rintro e w1 ⟨⟨B, rfl, hB⟩, rfl⟩
  clear FW
  cases B
  · clear hB
    go_wp2_with fail
    refine (AW.out w).mono ?_
    rintro e w2 ⟨rfl, hb2⟩
    go_wp2_with fail
    go_ret
    exact ⟨rfl, hb2⟩
  · obtain ⟨hl, hz⟩ := hB rfl
    clear hB
    by_cases hs1 : 1000 < s.size
    · clear hz
      go_wp2_with fail
      refine (AW.out w).mono ?_
      rintro e w2 ⟨rfl, hb2⟩
      go_wp2_with fail
      go_ret
      exact ⟨rfl, hb2⟩
    · obtain ⟨n, hn⟩ := lst_is l
      have PUT := lfhid (fun v w1 (h : Nams w1 v l) => put_t11 v l w1 h (by omega))
      have RPUT := lfhid (fun v w1 (h : Nams w1 v l) => rput_t v l w1 h (by omega) (fun p hp => by have := hz p hp; omega))
      have GET := lfhid (fun w1 => get_t11 s w1)
      have RGET := lfhid (fun w1 => rget_t s w1)
      have FIND := lfhid (fun v w1 (h : Nams w1 v l) => find_t v l nm w1 h (by omega))
      have RFIND := lfhid (fun v w1 (h : Nams w1 v l) => rfind_t v l nm w1 h (by omega))
      have FREE := lfhid (fun v w1 (h : Nams w1 v l) => free_t v l w1 h (by omega))
      have RFREE := lfhid (fun v w1 (h : Nams w1 v l) => rfree_t v l w1 h (by omega))
      have TRIM := lfhid (fun v w1 (h : Nams w1 v l) => trim_t v l n w1 h (by omega) hn)
      have RTRIM := lfhid (fun v w1 (h : Nams w1 v l) => rtrim_t v l n w1 h (by omega) hn)
      have htl : (trimTo l n).length ≤ 1000 := by rw [trimTo_length hn.le]; have := hn.le; omega
      have hgl : (gotL s.data.toList).length ≤ 1000 := by
        unfold gotL
        split
        · rw [getL_length]; decide
        · simp
      have SAG := lfhid (fun v v' w1 (h : Nams w1 v (gotL s.data.toList)) (k : Nams w1 v' (gotL s.data.toList)) => same_t v v' _ w1 h k hgl)
      have SAT := lfhid (fun v v' w1 (h : Nams w1 v (trimTo l n)) (k : Nams w1 v' (trimTo l n)) => same_t v v' _ w1 h k htl)
      clear hz hn htl hgl
      generalize trimTo l n = TL at *
      generalize gotL s.data.toList = GL at *
      generalize getB s.data.toList = GB at *
      generalize putS l = PS at *
      generalize okB l = OK at *
      generalize findI l nm = FI at *
      generalize findB l nm = FB at *
      generalize freeI l = FR at *
      go_wp2_with (first | (refine wpList_append_nams rfl _ _ rfl w.heap.size _ [] rfl (NOwn.nil _ _) _ l rfl HE0.out ?_ (Nat.le_refl _) ?_) | fail)
      · simp
        omega
      intro v2 w2 HO2 HB2 hs2
      try rw [List.nil_append] at HO2
      have HN2 := lfhid HO2.out.nams
      have HE2 := lfhid (HE0.out.on HB2.out)
      clear HO2
      go_wp2_with fail
      refine (PUT.out _ _ HN2.out).mono ?_
      rintro e w3 ⟨rfl, hb⟩
      have HB3 : Hid (Below w.heap.size w w3) := HB2.out.trans (hb.mono HB2.out.size)
      have HE3 := lfhid (HE2.out.on hb)
      clear hb PUT HN2 HB2 HE2 hs2
      go_wp2_with fail
      refine (RPUT.out _ _ HE3.out).mono ?_
      rintro e w4 ⟨rfl, hb⟩
      have HB4 : Hid (Below w.heap.size w w4) := HB3.out.trans (hb.mono HB3.out.size)
      have HE4 := lfhid (HE3.out.on hb)
      clear hb RPUT HB3 HE3
      go_wp2_with fail
      refine (GET.out _).mono ?_
      rintro e w5 ⟨ad5, cap5, rfl, hx, hb⟩
      have HX5 := lfhid hx
      have HB5 : Hid (Below w.heap.size w w5) := HB4.out.trans (hb.mono HB4.out.size)
      have HE5 := lfhid (HE4.out.on hb)
      clear hx hb GET HB4 HE4
      go_wp2_with fail
      refine (RGET.out _).mono ?_
      rintro e w6 ⟨ad6, cap6, rfl, hy, hb⟩
      have HY6 := lfhid hy
      have HX6 := lfhid (HX5.out.on hb)
      have HB6 : Hid (Below w.heap.size w w6) := HB5.out.trans (hb.mono HB5.out.size)
      have HE6 := lfhid (HE5.out.on hb)
      clear hy hb RGET HB5 HE5 HX5
      go_wp2_with fail
      refine (FIND.out _ _ HE6.out).mono ?_
      rintro e w7 ⟨rfl, hb⟩
      have HY7 := lfhid (HY6.out.on hb)
      have HX7 := lfhid (HX6.out.on hb)
      have HB7 : Hid (Below w.heap.size w w7) := HB6.out.trans (hb.mono HB6.out.size)
      have HE7 := lfhid (HE6.out.on hb)
      clear hb FIND HB6 HE6 HX6 HY6
      go_wp2_with fail
      refine (RFIND.out _ _ HE7.out).mono ?_
      rintro e w8 ⟨rfl, rfl⟩
      clear RFIND
      go_wp2_with fail
      refine (SAG.out _ _ _ HX7.out HY7.out).mono ?_
      rintro e w9 ⟨rfl, hb⟩
      have HB9 : Hid (Below w.heap.size w w9) := HB7.out.trans (hb.mono HB7.out.size)
      have HE9 := lfhid (HE7.out.on hb)
      clear hb SAG HB7 HE7 HX7 HY7
      go_wp2_with fail
      refine (FREE.out _ _ HE9.out).mono ?_
      rintro e w10 ⟨rfl, hb⟩
      have HB10 : Hid (Below w.heap.size w w10) := HB9.out.trans (hb.mono HB9.out.size)
      have HE10 := lfhid (HE9.out.on hb)
      clear hb FREE HB9 HE9
      go_wp2_with fail
      refine (RFREE.out _ _ HE10.out).mono ?_
      rintro e w11 ⟨rfl, hb⟩
      have HB11 : Hid (Below w.heap.size w w11) := HB10.out.trans (hb.mono HB10.out.size)
      have HE11 := lfhid (HE10.out.on hb)
      clear hb RFREE HB10 HE10
      go_wp2_with (first | (refine wpList_append_nams (by rfl) _ _ rfl w.heap.size _ [] rfl (NOwn.nil _ _) _ l rfl HE11.out ?_ HB11.out.size ?_) | fail)
      · simp
        omega
      intro v12 w12 HO12 HBa hs12
      try rw [List.nil_append] at HO12
      have HN12 := lfhid HO12.out.nams
      have HB12 : Hid (Below w.heap.size w w12) := HB11.out.trans HBa.out
      have HE12 := lfhid (HE0.out.on HB12.out)
      clear HO12 HBa HE11 HB11 hs12
      go_wp2_with fail
      refine (TRIM.out _ _ HN12.out).mono ?_
      rintro e w13 ⟨ad13, cap13, rfl, hx, hb⟩
      have HX13 := lfhid hx
      have HB13 : Hid (Below w.heap.size w w13) := HB12.out.trans (hb.mono HB12.out.size)
      have HE13 := lfhid (HE12.out.on hb)
      clear hx hb TRIM HB12 HE12 HN12
      go_wp2_with fail
      refine (RTRIM.out _ _ HE13.out).mono ?_
      rintro e w14 ⟨ad14, cap14, rfl, hy, hb⟩
      have HY14 := lfhid hy
      have HX14 := lfhid (HX13.out.on hb)
      have HB14 : Hid (Below w.heap.size w w14) := HB13.out.trans (hb.mono HB13.out.size)
      clear hy hb RTRIM HB13 HE13 HX13
      go_wp2_with fail
      refine (SAT.out _ _ _ HX14.out HY14.out).mono ?_
      rintro e w15 ⟨rfl, hb⟩
      have HB15 : Hid (Below w.heap.size w w15) := HB14.out.trans (hb.mono HB14.out.size)
      clear hb SAT HB14 HX14 HY14
      go_wp2_with fail
      refine (AW.out _).mono ?_
      rintro e w16 ⟨rfl, hb⟩
      have HB16 : Hid (Below w.heap.size w w16) := HB15.out.trans (hb.mono HB15.out.size)
      clear hb HB15
      go_wp2_with fail
      go_ret
      exact ⟨rfl, HB16.out⟩
end Go.Proofs.YtpgbnfolekanmaaDoor
