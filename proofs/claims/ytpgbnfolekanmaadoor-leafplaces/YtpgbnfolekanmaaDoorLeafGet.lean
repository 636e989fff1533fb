/- The places of a block: Get walked. -/
import Derived.Test.YtpgbnfolekanmaaDoorLeafPut
import Derived.Test.YtpgbnfolekanmaaDoorLeafRow
namespace Go.Proofs.YtpgbnfolekanmaaDoor
open Go.RowKit Lf

/-- Behind k rounds. -/
def gotTo (s : List UInt8) (k : Nat) : List Nm := (List.range 8).map fun i => if i < k then getN s i else z
theorem gotTo_length (s : List UInt8) (k : Nat) : (gotTo s k).length = 8 := by simp [gotTo]
theorem gotTo_get (s : List UInt8) (k i : Nat) (h : i < (gotTo s k).length) : (gotTo s k)[i] = if i < k then getN s i else z := by simp [gotTo]
theorem gotTo_zero (s : List UInt8) : gotTo s 0 = List.replicate 8 z := by
  apply List.ext_getElem
  · rw [gotTo_length, List.length_replicate]
  · intro i h1 h2
    rw [gotTo_get, if_neg (Nat.not_lt_zero _), List.getElem_replicate]
theorem gotTo_full (s : List UInt8) : gotTo s 8 = getL s := by
  apply List.ext_getElem
  · rw [gotTo_length, getL_length]
  · intro i h1 h2
    rw [gotTo_get, getL_get, if_pos (by rw [gotTo_length] at h1; exact h1)]
theorem gotTo_set (s : List UInt8) (k : Nat) : (gotTo s k).set k (getN s k) = gotTo s (k + 1) := by
  apply List.ext_getElem
  · rw [List.length_set, gotTo_length, gotTo_length]
  · intro i h1 h2
    have h3 : i < (gotTo s k).length := by rw [List.length_set] at h1; exact h1
    by_cases e : k = i
    · subst e
      rw [List.getElem_set_self, gotTo_get, if_pos (by omega)]
    · rw [List.getElem_set_ne e, gotTo_get, gotTo_get]
      by_cases h4 : i < k
      · rw [if_pos h4, if_pos (by omega)]
      · rw [if_neg h4, if_neg (by omega)]

/-- What Get answers. -/
def gotL (s : List UInt8) : List Nm := if getB s then getL s else []
theorem gotL_yes {s : List UInt8} (h : getB s = true) : gotL s = getL s := by rw [gotL, if_pos h]
theorem gotL_no {s : List UInt8} (h : getB s = false) : gotL s = [] := by rw [gotL, h]; rfl

theorem name_extract (s : ByteArray) (k : Nat) : (s.extract (k * 32) (k * 32 + 26)).data.toList = nameAt s.data.toList k := by
  rw [ByteArray.data_extract, nameAt]
  simp [Nat.mul_comm]

theorem lfGot {a b : Option Addr} {n m c d : Nat} {p q : Bool} (h : a = b) (k : n = m) (i : c = d) (j : p = q) : Ending.returned (.tuple #[.slice a n c, .bool p]) = .returned (.tuple #[.slice b m d, .bool q]) := by rw [h, k, i, j]

set_option maxRecDepth 10000 in
set_option maxHeartbeats 2000000 in
theorem get_no11 (s : ByteArray) (w : World) (hn : s.size ≠ 256) :
    Calls Tryd.prog 11 #[.string s] w fun e w' => e = .returned (.tuple #[.slice none 0 0, .bool false]) ∧ w = w' := by
  have h1 : ((s.size : Int) == 256) = false := by rw [beq_eq_false_iff_ne]; omega
  have h2 : ((s.size : Int) != 256) = true := by rw [bne, h1]; rfl
  clear hn
  go_enter Tryd.func11, Tryd.ntmps11
  go_wp2_with fail
  go_ret2
  exact ⟨rfl, rfl⟩

set_option maxRecDepth 10000 in
set_option maxHeartbeats 4000000 in
theorem get_row (s : ByteArray) (w : World) (h256 : s.size = 256) :
    Calls Tryd.prog 11 #[.string s] w fun e w' => ∃ ad cap, e = .returned (.tuple #[.slice ad (gotL s.data.toList).length cap, .bool (getB s.data.toList)]) ∧ Nams w' (.slice ad (gotL s.data.toList).length cap) (gotL s.data.toList) ∧ Below w.heap.size w w' := by
  obtain ⟨S, hS⟩ : ∃ S, S = s.data.toList := ⟨_, rfl⟩
  rw [← hS]
  have hSl : S.length = 256 := by rw [hS]; simpa using h256
  have hmk : (Instr.makeSlice 22 (.int .i64 8) (.int .i64 8)).run Tryd.prog w = .ok (.slice (some ⟨w.heap.size, 0, none⟩) 8 8) (w.alloc (.cells (ncells (List.replicate 8 z)).toArray 41)) := nmake 8 (by decide) w
  have HR0 : Hid (NRow (w.alloc (.cells (ncells (List.replicate 8 z)).toArray 41)) w.heap.size (gotTo S 0)) := by
    show NRow _ _ _
    rw [gotTo_zero]
    exact nmake_row 8 w
  generalize (ncells (List.replicate 8 z)).toArray = R at *
  have hlo : s.size ≤ 256 := by omega
  have hhi : 256 ≤ s.size := by omega
  have hz1 : ((s.size : Int) == 256) = true := by simp only [beq_iff_eq]; omega
  have hz2 : ((s.size : Int) != 256) = false := by rw [bne, hz1]; rfl
  have HCU : Hid (∀ k w1, k < 8 → Calls Tryd.prog 33 #[.string (s.extract (k * 32) (k * 32 + 26))] w1 fun e w' => e = .returned (.tuple #[.string (getN S k).name, .bool (cutB (nameAt S k))]) ∧ w1 = w') := fun k w1 hk => by
    have := cut_t (s.extract (k * 32) (k * 32 + 26)) w1 (by rw [ByteArray.size_extract]; omega)
    rw [name_extract, ← hS] at this
    exact this
  have HGE : Hid (∀ (k : Nat) w1, k < 8 → Calls Tryd.prog 34 #[.string s, .int .i64 ((k : Int) * 32 + 26), .int .i64 1] w1 fun e w' => e = .returned (.tuple #[.int .i64 (getN S k).node, .bool true]) ∧ w1 = w') := fun k w1 hk => by
    have := get_t s (k * 32 + 26) 1 w1 (by decide) (by omega) (by omega)
    have e1 : ((k * 32 + 26 : Nat) : Int) = (k : Int) * 32 + 26 := by omega
    have e2 : ((1 : Nat) : Int) = 1 := rfl
    rw [e1, e2, part, ← hS, Nat.mul_comm k 32] at this
    exact this
  have HPU : Hid (∀ v w1, Nams w1 v (getL S) → Calls Tryd.prog 9 #[v] w1 fun e w' => e = .returned (.tuple #[.string (putS (getL S)), .bool (okB (getL S))]) ∧ Below w1.heap.size w1 w') := fun v w1 h => put_t11 v (getL S) w1 h (by rw [getL_length]; decide)
  have HGB : Hid (getB S = (okB (getL S) && ((putS (getL S)).toList == s.toList))) := by
    show _ = _
    rw [getB, decide_eq_true hSl, Bool.true_and]
    cases h : okB (getL S)
    · rfl
    · rw [Lib.toList_data, Lib.toList_data, putS_list h, ← hS]
  have HFU := lfhid (gotTo_full S)
  have HSE := lfhid (gotTo_set S)
  have HLN := lfhid (gotTo_length S)
  have HGY := lfhid (fun h => gotL_yes (s := S) h)
  have HGN := lfhid (fun h => gotL_no (s := S) h)
  have HL8 := lfhid (getL_length S)
  clear hS hSl h256
  go_enter Tryd.func11, Tryd.ntmps11
  go_wp2_with fail
  generalize hW : World.alloc w _ = W
  have HRW : Hid (NRow W w.heap.size (gotTo S 0)) := by rw [← hW]; exact HR0.out
  have HBW : Hid (Below w.heap.size w W) := by rw [← hW]; exact (Below.refl _ w).alloc (Nat.le_refl _) _
  clear hW HR0 hmk
  go_loopw [15] (fun c wr => ∃ k : Nat, k ≤ 8 ∧ c = .int .i64 k ∧ Hid (NRow wr w.heap.size (gotTo S k)) ∧ Hid (Below w.heap.size w wr)) (fun c _ => 8 - (intOf c).toNat)
  case atStart => exact ⟨0, by omega, rfl, HRW, HBW⟩
  case round =>
    obtain ⟨k, hk, rfl, HR, HB⟩ := hrel
    clear HRW HBW
    by_cases hlt : k < 8
    · have hlen : k < (gotTo S k).length := by rw [HLN.out]; exact hlt
      have c0 := HR.out.name k hlen
      have c1 := HR.out.node k hlen
      have f0 := HR.out.frozen (k * 2)
      have f1 := HR.out.frozen (k * 2 + 1)
      have HR2 := lfhid (HR.out.put k (getN S k) hlen)
      rw [HSE.out] at HR2
      have HB2 : Hid (Below w.heap.size w ((wr.setCell ⟨w.heap.size, k * 2, none⟩ (.string (getN S k).name)).setCell ⟨w.heap.size, k * 2 + 1, none⟩ (.int .i64 (getN S k).node))) := (HB.out.setCell (Nat.le_refl _) _).setCell (Nat.le_refl _) _
      have CU := HCU.out k wr hlt
      have GE := lfhid (fun w1 => HGE.out k w1 hlt)
      generalize (gotTo S k)[k] = y at *
      generalize (getN S k).name = gn at *
      generalize (getN S k).node = gd at *
      clear HCU HGE HR HB hlen HPU HGB
      go_wp2_with fail
      refine CU.mono ?_
      rintro e w1 ⟨rfl, rfl⟩
      go_wp2_with fail
      refine (GE.out _).mono ?_
      rintro e w1 ⟨rfl, rfl⟩
      go_wp2_with fail
      exact ⟨⟨k + 1, by omega, by go_num, HR2, HB2⟩, by simp [intOf]; omega⟩
    · have hk8 : k = 8 := by omega
      subst hk8
      rw [HFU.out] at HR
      have HN : Hid (Nams wr (.slice (some ⟨w.heap.size, 0, none⟩) 8 8) (getL S)) := by
        have := HR.out.nams (cap := 8) (by rw [HL8.out]; exact Nat.le_refl _)
        rw [HL8.out] at this
        exact this
      clear HCU HGE HFU HSE HLN
      go_wp2_with fail
      refine (HPU.out _ wr HN.out).mono ?_
      rintro e w1 ⟨rfl, hb1⟩
      have HN1 := lfhid (HN.out.on hb1)
      have HB1 : Hid (Below w.heap.size w w1) := HB.out.trans (hb1.mono HB.out.size)
      clear hb1 HN HB HPU
      cases hok : okB (getL S)
      · rw [hok] at HGB
        have HF : Hid (getB S = false) := HGB.out
        have HL := lfhid (HGN.out HF.out)
        clear HGB HGY HGN
        go_wp2_with fail
        go_ret2
        exact ⟨none, 0, lfGot rfl (by rw [HL.out]; rfl) rfl (by rw [HF.out]), by rw [HL.out]; exact Nams.nil _, HB1.out⟩
      · rw [hok] at HGB
        cases heq : ((putS (getL S)).toList == s.toList)
        · rw [heq] at HGB
          have HF : Hid (getB S = false) := HGB.out
          have HL := lfhid (HGN.out HF.out)
          have hne : ((putS (getL S)).toList != s.toList) = true := by rw [bne, heq]; rfl
          clear HGB HGY HGN
          generalize putS (getL S) = PS at *
          go_wp2_with fail
          go_ret2
          exact ⟨none, 0, lfGot rfl (by rw [HL.out]; rfl) rfl (by rw [HF.out]), by rw [HL.out]; exact Nams.nil _, HB1.out⟩
        · rw [heq] at HGB
          have HF : Hid (getB S = true) := HGB.out
          have HL := lfhid (HGY.out HF.out)
          have hne : ((putS (getL S)).toList != s.toList) = false := by rw [bne, heq]; rfl
          clear HGB HGY HGN
          generalize putS (getL S) = PS at *
          go_wp2_with fail
          go_ret2
          exact ⟨_, _, lfGot rfl (by rw [HL.out, HL8.out]) rfl (by rw [HF.out]), by rw [HL.out, HL8.out]; exact HN1.out, HB1.out⟩

/-- Get, whatever it is asked. -/
theorem get_t11 (s : ByteArray) (w : World) :
    Calls Tryd.prog 11 #[.string s] w fun e w' => ∃ ad cap, e = .returned (.tuple #[.slice ad (gotL s.data.toList).length cap, .bool (getB s.data.toList)]) ∧ Nams w' (.slice ad (gotL s.data.toList).length cap) (gotL s.data.toList) ∧ Below w.heap.size w w' := by
  by_cases h : s.size = 256
  · exact get_row s w h
  · have hF : getB s.data.toList = false := by
      have : decide (s.data.toList.length = 256) = false := by rw [← Lib.size_eq]; exact decide_eq_false h
      rw [getB, this]
      rfl
    have hL := gotL_no hF
    rw [hF, hL]
    refine (get_no11 s w h).mono ?_
    rintro e w' ⟨rfl, rfl⟩
    exact ⟨none, 0, rfl, Nams.nil _, Below.refl _ _⟩
end Go.Proofs.YtpgbnfolekanmaaDoor
