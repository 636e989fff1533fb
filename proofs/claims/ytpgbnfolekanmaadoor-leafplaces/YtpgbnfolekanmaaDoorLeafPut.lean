/- A block of places: Put walked. -/
import Derived.Test.YtpgbnfolekanmaaDoorLeafMay
import Derived.Test.YtpgbnfolekanmaaDoorLeafPad
namespace Go.Proofs.YtpgbnfolekanmaaDoor
open Go.RowKit Lf

/-- What Put answers. -/
def putS (l : List Nm) : ByteArray := if okB l then ⟨(bytesL l).toArray⟩ else ⟨#[]⟩
theorem putS_yes {l : List Nm} (h : okB l = true) : putS l = ⟨(bytesL l).toArray⟩ := by rw [putS, if_pos h]
theorem putS_no {l : List Nm} (h : okB l = false) : putS l = ⟨#[]⟩ := by rw [putS, h]; rfl
theorem putS_list {l : List Nm} (h : okB l = true) : (putS l).data.toList = bytesL l := by rw [putS_yes h]
theorem putS_size {l : List Nm} (h : okB l = true) : (putS l).size = 256 := by
  rw [putS_yes h]
  show (bytesL l).toArray.size = 256
  rw [List.size_toArray, put_len h]

theorem pb_parts (n : ByteArray) (nd : Int) : pb ⟨n, nd⟩ = (padN n).data.toList ++ (⟨(Bin.low 1 nd).toArray⟩ : ByteArray).data.toList ++ (zerosS 5).data.toList := by
  rw [padN_list, zerosS_list]
  rfl

set_option maxRecDepth 10000 in
set_option maxHeartbeats 2000000 in
theorem put_no (v : Value) (l : List Nm) (w : World) (hE : Nams w v l) (hl : l.length ≤ 1000) (hn : okB l = false) : Calls Tryd.prog 9 #[v] w fun e w' => e = .returned (.tuple #[.string ⟨#[]⟩, .bool false]) ∧ Below w.heap.size w w' := by
  have MB := lfhid (may_t v l w hE hl)
  rw [hn] at MB
  clear hE hn
  go_enter Tryd.func9, Tryd.ntmps9
  go_wp2_with fail
  refine MB.out.mono ?_
  rintro e w1 ⟨rfl, hb1⟩
  go_wp2_with fail
  go_ret2
  exact ⟨rfl, hb1⟩

set_option maxRecDepth 10000 in
set_option maxHeartbeats 2000000 in
theorem put_yes (v : Value) (l : List Nm) (w : World) (hE : Nams w v l) (hy : okB l = true) : Calls Tryd.prog 9 #[v] w fun e w' => e = .returned (.tuple #[.string ⟨(bytesL l).toArray⟩, .bool true]) ∧ Below w.heap.size w w' := by
  have h8 := okB_len hy
  have MB := lfhid (may_t v l w hE (by omega))
  rw [hy] at MB
  have HE0 := lfhid hE
  have HG : Hid (∀ k, (h : k < l.length) → LGood l[k]) := fun k h => good_all hy _ (List.getElem_mem h)
  have HTL : Hid (∀ k, (bytesL (l.take k)).length ≤ 256) := fun k => by
    show _ ≤ _
    rw [bytesL_length (fun p hp => (good_all hy p (List.mem_of_mem_take hp)).len), List.length_take]
    omega
  have HBS : Hid (∀ k, (h : k < l.length) → bytesL (l.take (k + 1)) = bytesL (l.take k) ++ pb l[k]) := fun k h => bytesL_take_succ h
  have HFU : Hid (bytesL (l.take l.length) = bytesL l) := by show _ = _; rw [List.take_length]
  have hl8 : l.length ≤ 8 := by omega
  obtain ⟨ad, cap, rfl⟩ := hE.slice
  clear hE hy h8
  obtain ⟨F, hF⟩ : ∃ F : Nat → List UInt8, F = fun k => bytesL (l.take k) := ⟨_, rfl⟩
  have HF0 : Hid (F 0 = []) := by show _ = _; rw [hF]; rfl
  have HBS2 : Hid (∀ k, (h : k < l.length) → F (k + 1) = F k ++ pb l[k]) := fun k h => by rw [hF]; exact HBS.out k h
  have HTL2 : Hid (∀ k, (F k).length ≤ 256) := fun k => by rw [hF]; exact HTL.out k
  have HFU2 : Hid (F l.length = bytesL l) := by show _ = _; rw [hF]; exact HFU.out
  clear hF HBS HTL HFU
  generalize bytesL l = BL at *
  go_enter Tryd.func9, Tryd.ntmps9
  go_wp2_with fail
  refine MB.out.mono ?_
  rintro e w1 ⟨rfl, hb1⟩
  clear MB
  go_wp2_with fail
  generalize hW : World.alloc w1 _ = W
  have HW0 : Hid (Bd W w1.heap.size w1.heap.size (F 0)) := by
    show Bd _ _ _ _
    rw [HF0.out, ← hW]
    exact Bd.new w1
  have HBW : Hid (Below w.heap.size w W) := by rw [← hW]; exact hb1.alloc hb1.size _
  have hWs : w1.heap.size < W.heap.size := by rw [← hW]; simp
  have hw01 := hb1.size
  clear hW hb1
  generalize w1.heap.size = B at *
  go_loopw [14] (fun c wr => ∃ k : Nat, k ≤ l.length ∧ c = .int .i64 k ∧ B < wr.heap.size ∧ Hid (Bd wr B B (F k)) ∧ Hid (Below w.heap.size w wr)) (fun c _ => l.length - (intOf c).toNat)
  case atStart => exact ⟨0, by omega, rfl, hWs, HW0, HBW⟩
  case round =>
    obtain ⟨k, hk, rfl, hBs, HD, HB⟩ := hrel
    clear HW0 HBW hWs
    by_cases hlt : k < l.length
    · obtain ⟨b, off, rfl, hb, c0, c1⟩ := (HE0.out.on HB.out).at hlt
      have G := HG.out k hlt
      have HN := lfhid (HBS2.out k hlt)
      generalize l[k] = y at *
      obtain ⟨n, nd⟩ := y
      have g1 : n.size ≤ 26 := by
        have : n.data.toList.length ≤ 26 := G.len
        simpa using this
      have g2 := lfhid (show n.data.toList.contains 0 = false from G.free)
      have g3 : 0 ≤ nd := G.n0
      have g4 : nd ≤ 255 := G.n1
      have HPB := lfhid (pb_parts n nd)
      have hps := padN_size g1
      have hls := lowS_size 1 nd
      have hzs := zerosS_size 5
      have HLen := HTL2.out k
      clear G
      go_wp2_with fail
      generalize hV : World.alloc wr _ = V
      have hx : V.heap[wr.heap.size]? = some (.cells #[.string n, .int .i64 nd] 41 (0, 0)) := by rw [← hV]; exact heap_alloc_new _ _
      have HDV : Hid (Bd V B B (F k)) := by rw [← hV]; exact HD.out.on ((Below.refl _ wr).alloc (Nat.le_refl _) _)
      have HBV : Hid (Below w.heap.size w V) := by rw [← hV]; exact HB.out.alloc HB.out.size _
      have hVs : wr.heap.size < V.heap.size := by rw [← hV]; simp
      clear hV c0 c1 HB HD
      refine (pad_t n V g1 g2.out).mono ?_
      rintro e w2 ⟨rfl, hb2⟩
      have hx2 := (hb2.block _ hVs).trans hx
      have HD2 := lfhid (HDV.out.on hb2)
      have HB2 : Hid (Below w.heap.size w w2) := HBV.out.trans (hb2.mono (by omega))
      have hs2 := hb2.size
      clear hb2 hx HDV HBV
      generalize hpn : padN n = P at *
      go_wp2_with fail
      refine (write_t B B (F k) P w2 HD2.out (by omega) (by omega)).mono ?_
      rintro e w3 ⟨rfl, hd3, hb3, ho3⟩
      have hx3 := ho3.block hx2 (by omega) (by decide)
      have HD3 := lfhid hd3
      have HB3 : Hid (Below w.heap.size w w3) := HB2.out.trans (hb3.mono (by omega))
      have hs3 := hb3.size
      have d1 : w3.cell? ⟨wr.heap.size, 1, none⟩ = some (.int .i64 nd) := (cell_of_row w3 _ _ _ _ _ hx3).trans rfl
      clear hd3 hb3 ho3 hx2 HD2 HB2
      go_wp2_with fail
      refine (putn_t nd 1 w3 (by decide) (by decide) (by omega) (by omega)).mono ?_
      rintro e w4 ⟨rfl, hb4⟩
      have HD4 := lfhid (HD3.out.on hb4)
      have HB4 : Hid (Below w.heap.size w w4) := HB3.out.trans (hb4.mono (by omega))
      have hs4 := hb4.size
      have hlo : (⟨(Bin.low (1 : Int).toNat nd).toArray⟩ : ByteArray) = ⟨(Bin.low 1 nd).toArray⟩ := rfl
      rw [hlo]
      clear hb4 HD3 HB3 d1 hx3 hlo
      generalize hlw : (⟨(Bin.low 1 nd).toArray⟩ : ByteArray) = L1 at *
      have HL1 : Hid (Bin.low 1 nd = L1.data.toList) := by show _ = _; rw [← hlw]
      clear hlw
      go_wp2_with fail
      refine (write_t B B (F k ++ P.data.toList) L1 w4 HD4.out (by rw [List.length_append, ← Lib.size_eq]; omega) (by omega)).mono ?_
      rintro e w5 ⟨rfl, hd5, hb5, _⟩
      have HD5 := lfhid hd5
      have HB5 : Hid (Below w.heap.size w w5) := HB4.out.trans (hb5.mono (by omega))
      have hs5 := hb5.size
      clear hd5 hb5 HD4 HB4
      go_wp2_with fail
      refine (zerosS_t 5 w5 (by decide)).mono ?_
      rintro e w6 ⟨rfl, hb6⟩
      have HD6 := lfhid (HD5.out.on hb6)
      have HB6 : Hid (Below w.heap.size w w6) := HB5.out.trans (hb6.mono (by omega))
      have hs6 := hb6.size
      clear hb6 HD5 HB5
      generalize hzz : zerosS 5 = Z5 at *
      go_wp2_with fail
      refine (write_t B B (F k ++ P.data.toList ++ L1.data.toList) Z5 w6 HD6.out (by rw [List.length_append, List.length_append, ← Lib.size_eq, ← Lib.size_eq]; omega) (by omega)).mono ?_
      rintro e w7 ⟨rfl, hd7, hb7, _⟩
      have HD7 : Hid (Bd w7 B B (F (k + 1))) := by
        show Bd _ _ _ _
        rw [HN.out, HPB.out, ← List.append_assoc, ← List.append_assoc, HL1.out]
        exact hd7
      have HB7 : Hid (Below w.heap.size w w7) := HB6.out.trans (hb7.mono (by omega))
      have hs7 := hb7.size
      clear hd7 hb7 HD6 HB6
      go_wp2_with fail
      exact ⟨⟨k + 1, by omega, by go_num, by omega, HD7, HB7⟩, by simp [intOf]; omega⟩
    · have hkl : k = l.length := by omega
      subst hkl
      rw [HFU2.out] at HD
      clear HBS2 HTL2 HFU2 HF0 HG
      go_wp2_with fail
      refine (text_t B B BL wr HD.out (by omega)).mono ?_
      rintro e w2 ⟨rfl, _, hb2, _⟩
      have HB2 : Hid (Below w.heap.size w w2) := HB.out.trans (hb2.mono (by omega))
      clear hb2 HB HD
      go_wp2_with fail
      go_ret2
      exact ⟨rfl, HB2.out⟩

/-- Put, whatever it is asked. -/
theorem put_t11 (v : Value) (l : List Nm) (w : World) (hE : Nams w v l) (hl : l.length ≤ 1000) : Calls Tryd.prog 9 #[v] w fun e w' => e = .returned (.tuple #[.string (putS l), .bool (okB l)]) ∧ Below w.heap.size w w' := by
  cases h : okB l
  · rw [putS_no h]
    exact put_no v l w hE hl h
  · rw [putS_yes h]
    exact put_yes v l w hE h
end Go.Proofs.YtpgbnfolekanmaaDoor
