/- The law LeafBack walked: what is put is got; what is got is put byte for byte. -/
import Derived.Test.YtpgbnfolekanmaaDoorLeafAwake
import Derived.Test.YtpgbnfolekanmaaDoorLeafRef
namespace Go.Proofs.YtpgbnfolekanmaaDoor
open Go.RowKit Lf

/-- What Get answers of what Put answers. -/
theorem back_got {l : List Nm} (h : okB l = true) : gotL (putS l).data.toList = l ∧ getB (putS l).data.toList = true := by
  have e : getB (bytesL l) = true := getB_put h
  rw [putS_list h]
  exact ⟨by rw [gotL_yes e, get_put h], e⟩
/-- What Put answers of what Get answers. -/
theorem back_put {s : ByteArray} (h : getB s.data.toList = true) : okB (gotL s.data.toList) = true ∧ putS (gotL s.data.toList) = s := by
  obtain ⟨_, h2, h3⟩ := getB_parts h
  rw [gotL_yes h]
  refine ⟨h2, ?_⟩
  rw [putS_yes h2, h3, Lib.mk_data]

set_option maxRecDepth 10000 in
set_option maxHeartbeats 4000000 in
theorem leafBack_t (v : Value) (l : List Nm) (s : ByteArray) (w : World) (hE : Nams w v l) (hs : s.size ≤ 9223372036854775807) :
    Calls Tryd.prog 4 #[v, .string s] w fun e w' => e = .returned (.bool true) ∧ Below w.heap.size w w' := by
  have HE0 := lfhid hE
  have FW := lfhid (few_t v l w hE)
  obtain ⟨ad, cap, rfl⟩ := hE.slice
  have AW := lfhid awake_t
  have GS := lfhid (fun (w1 : World) => get_t11 s w1)
  have HPS : Hid (getB s.data.toList = true → ∀ v w1, Nams w1 v (gotL s.data.toList) → Calls Tryd.prog 9 #[v] w1 fun e w' => e = .returned (.tuple #[.string s, .bool true]) ∧ Below w1.heap.size w1 w') := fun h v w1 hN => by
    have := put_t11 v (gotL s.data.toList) w1 hN (by rw [gotL_yes h, getL_length]; decide)
    rw [(back_put h).1, (back_put h).2] at this
    exact this
  clear hE
  go_enter Tryd.func4, Tryd.ntmps4
  go_wp2_with fail
  refine FW.out.mono ?_
  rintro e w1 ⟨⟨B, rfl, hB⟩, rfl⟩
  clear FW
  cases B
  · clear hB
    go_wp2_with fail
    refine (AW.out w).mono ?_
    rintro e w2 ⟨rfl, hb2⟩
    go_wp2_with fail
    go_ret
    exact ⟨rfl, hb2⟩
  · obtain ⟨hl, _⟩ := hB rfl
    clear hB
    by_cases hs1 : 1000 < s.size
    · go_wp2_with fail
      refine (AW.out w).mono ?_
      rintro e w2 ⟨rfl, hb2⟩
      go_wp2_with fail
      go_ret
      exact ⟨rfl, hb2⟩
    · have HPU := lfhid (put_t11 _ l w HE0.out (by omega))
      cases hok : okB l
      · rw [hok] at HPU
        go_wp2_with fail
        refine HPU.out.mono ?_
        rintro e w2 ⟨rfl, hb2⟩
        have HBW := lfhid hb2
        clear hb2 HPU hok
        generalize putS l = P at *
        go_wp2_with fail
        refine (GS.out w2).mono ?_
        rintro e w8 ⟨ad8, cap8, rfl, hn8, hb8⟩
        have HN8 := lfhid hn8
        have HB8 : Hid (Below w.heap.size w w8) := HBW.out.trans (hb8.mono HBW.out.size)
        clear hn8 hb8 HBW GS
        cases hg : getB s.data.toList
        · have HL := lfhid (gotL_no hg)
          rw [HL.out]
          go_wp2_with fail
          refine (AW.out w8).mono ?_
          rintro e w9 ⟨rfl, hb9⟩
          have HB9 : Hid (Below w.heap.size w w9) := HB8.out.trans (hb9.mono HB8.out.size)
          clear hb9
          go_wp2_with fail
          go_ret
          exact ⟨rfl, HB9.out⟩
        · have HP2 := HPS.out hg
          generalize gotL s.data.toList = G at *
          go_wp2_with fail
          refine (HP2 _ w8 HN8.out).mono ?_
          rintro e w9 ⟨rfl, hb9⟩
          have HB9 : Hid (Below w.heap.size w w9) := HB8.out.trans (hb9.mono HB8.out.size)
          clear hb9 HP2
          go_wp2_with fail
          refine (AW.out w9).mono ?_
          rintro e w10 ⟨rfl, hb10⟩
          have HB10 : Hid (Below w.heap.size w w10) := HB9.out.trans (hb10.mono HB9.out.size)
          clear hb10
          go_wp2_with fail
          go_ret
          exact ⟨rfl, HB10.out⟩
      · have HG := lfhid (fun (w1 : World) => get_t11 (putS l) w1)
        rw [(back_got hok).1, (back_got hok).2] at HG
        have hsz : ((putS l).size : Int) = 256 := by rw [putS_size hok]; rfl
        have SA := lfhid (fun (v v' : Value) (w1 : World) (h : Nams w1 v l) (k : Nams w1 v' l) => same_t v v' l w1 h k (by omega))
        rw [hok] at HPU
        clear hok
        generalize putS l = P at *
        go_wp2_with fail
        refine HPU.out.mono ?_
        rintro e w2 ⟨rfl, hb2⟩
        have HB2 := lfhid hb2
        have HE2 := lfhid (HE0.out.on hb2)
        clear hb2 HPU HE0
        go_wp2_with fail
        refine (HG.out w2).mono ?_
        rintro e w3 ⟨ad3, cap3, rfl, hn3, hb3⟩
        have HN3 := lfhid hn3
        have HE3 := lfhid (HE2.out.on hb3)
        have HB3 : Hid (Below w.heap.size w w3) := HB2.out.trans (hb3.mono HB2.out.size)
        clear hn3 hb3 HE2 HB2 HG
        go_wp2_with fail
        refine (SA.out _ _ w3 HN3.out HE3.out).mono ?_
        rintro e w4 ⟨rfl, hb4⟩
        have HBW : Hid (Below w.heap.size w w4) := HB3.out.trans (hb4.mono HB3.out.size)
        clear hb4 HB3 HE3 HN3 SA
        go_wp2_with fail
        refine (GS.out w4).mono ?_
        rintro e w8 ⟨ad8, cap8, rfl, hn8, hb8⟩
        have HN8 := lfhid hn8
        have HB8 : Hid (Below w.heap.size w w8) := HBW.out.trans (hb8.mono HBW.out.size)
        clear hn8 hb8 HBW GS
        cases hg : getB s.data.toList
        · have HL := lfhid (gotL_no hg)
          rw [HL.out]
          go_wp2_with fail
          refine (AW.out w8).mono ?_
          rintro e w9 ⟨rfl, hb9⟩
          have HB9 : Hid (Below w.heap.size w w9) := HB8.out.trans (hb9.mono HB8.out.size)
          clear hb9
          go_wp2_with fail
          go_ret
          exact ⟨rfl, HB9.out⟩
        · have HP2 := HPS.out hg
          generalize gotL s.data.toList = G at *
          go_wp2_with fail
          refine (HP2 _ w8 HN8.out).mono ?_
          rintro e w9 ⟨rfl, hb9⟩
          have HB9 : Hid (Below w.heap.size w w9) := HB8.out.trans (hb9.mono HB8.out.size)
          clear hb9 HP2
          go_wp2_with fail
          refine (AW.out w9).mono ?_
          rintro e w10 ⟨rfl, hb10⟩
          have HB10 : Hid (Below w.heap.size w w10) := HB9.out.trans (hb10.mono HB9.out.size)
          clear hb10
          go_wp2_with fail
          go_ret
          exact ⟨rfl, HB10.out⟩
end Go.Proofs.YtpgbnfolekanmaaDoor
