/- The document's own Get and Trim of layer 11 walked. -/
import Derived.Test.YtpgbnfolekanmaaDoorLeafRefPut
import Derived.Test.YtpgbnfolekanmaaDoorLeafGet
namespace Go.Proofs.YtpgbnfolekanmaaDoor
open Go.RowKit Lf

/-- append(row, p): a place behind those of a row of the call's own. -/
theorem wpList_append_nm {w : World} {ops : Array Oper} {rest : List Oper} {o : Oper} {a : Act} {Q : Exit → Act → World → Prop} (hgd : o.guard = none) (s x : Operand)
    (ho : o.op = .call { callee := .builtin .append, args := #[s, x], argTypes := #[22, 22] }) (base : Nat) (w0 : World) (v : Value) (l : List Nm) (p : Nm) (nb : Nat)
    (hs : a.eval s = v) (hx : a.eval x = .slice (some ⟨nb, 0, none⟩) 1 1) (hown : NOwn w base v l) (hnew : w.heap[nb]? = some (.cells #[.string p.name, .int .i64 p.node] 41 (0, 0))) (hl : l.length ≤ 100000) (hbase : base ≤ w.heap.size) (hB : Below base w0 w)
    (h : ∀ g cap w', Hid (NOwn w' base (.slice (some ⟨g, 0, none⟩) (l.length + 1) cap) (l ++ [p])) → Hid (Below base w0 w') → wpList Tryd.prog ops Q rest (a.put o.dst (.slice (some ⟨g, 0, none⟩) (l.length + 1) cap)) w') : wpList Tryd.prog ops Q (o :: rest) a w := by
  obtain ⟨i0, hi0, hz0, hz1, hz2⟩ := info_parts Tryd.infoN
  refine wpList_append_lies _ hgd s x 22 ho base 41 i0 _ 2 24 Tryd.underlying22 hi0 hz0 hz1 hz2 rfl (by decide) v l.length (ncells l) hs hown ⟨nb, 0, none⟩ 1 1 [.string p.name, .int .i64 p.node] hx rfl
    (World.news_of_block (cs := #[.string p.name, .int .i64 p.node]) (t := 41) (fr := (0, 0)) hnew) (by simp [Value.oneCell']) (by decide) (by unfold maxLen; omega) (by omega) hbase w.heap.size rfl ?_
  intro g cap w' hown' hgrow _ _
  refine h g cap w' ?_ ?_
  · show NOwn _ _ _ _
    unfold NOwn
    rw [List.length_append, ncells_append, ncells_one]
    exact hown'
  · exact hB.grown hgrow hbase (fun q hq => (hown.lt q hq).1)

theorem gotTo_take (s : List UInt8) (k : Nat) (hk : k < 8) : (getL s).take k ++ [getN s k] = (getL s).take (k + 1) := by
  rw [List.take_succ_eq_append_getElem (by rw [getL_length]; exact hk), getL_get]

set_option maxRecDepth 10000 in
set_option maxHeartbeats 2000000 in
theorem rget_no (s : ByteArray) (w : World) (hn : s.size ≠ 256) :
    Calls Tryd.prog 12 #[.string s] w fun e w' => e = .returned (.tuple #[.slice none 0 0, .bool false]) ∧ w = w' := by
  have h1 : ((s.size : Int) == 256) = false := by rw [beq_eq_false_iff_ne]; omega
  have h2 : ((s.size : Int) != 256) = true := by rw [bne, h1]; rfl
  clear hn
  go_enter Tryd.func12, Tryd.ntmps12
  go_wp2_with fail
  go_ret2
  exact ⟨rfl, rfl⟩

theorem byte_num (s : ByteArray) (k : Nat) (h : k * 32 + 26 < s.size) : (Bin.num ((s.data.toList.drop (32 * k + 26)).take 1) : Nat) = (s[k * 32 + 26]'h).toNat := by
  have h2 : 32 * k + 26 < s.data.toList.length := by rw [← Lib.size_eq]; omega
  rw [List.drop_eq_getElem_cons h2, List.take_succ_cons, List.take_zero]
  show ((s.data.toList[32 * k + 26]).toNat + 256 * 0 : Nat) = _
  rw [Nat.mul_zero, Nat.add_zero]
  have e : 32 * k + 26 = k * 32 + 26 := by omega
  have : s.data.toList[32 * k + 26] = s[k * 32 + 26] := by
    simp only [e]
    rfl
  rw [this]

set_option maxRecDepth 10000 in
set_option maxHeartbeats 4000000 in
theorem rget_row (s : ByteArray) (w : World) (h256 : s.size = 256) :
    Calls Tryd.prog 12 #[.string s] w fun e w' => ∃ ad cap, e = .returned (.tuple #[.slice ad (gotL s.data.toList).length cap, .bool (getB s.data.toList)]) ∧ Nams w' (.slice ad (gotL s.data.toList).length cap) (gotL s.data.toList) ∧ Below w.heap.size w w' := by
  obtain ⟨S, hS⟩ : ∃ S, S = s.data.toList := ⟨_, rfl⟩
  rw [← hS]
  have hSl : S.length = 256 := by rw [hS]; simpa using h256
  have hlo : s.size ≤ 256 := by omega
  have hhi : 256 ≤ s.size := by omega
  have hz1 : ((s.size : Int) == 256) = true := by simp only [beq_iff_eq]; omega
  have hz2 : ((s.size : Int) != 256) = false := by rw [bne, hz1]; rfl
  have HCU : Hid (∀ k w1, k < 8 → Calls Tryd.prog 35 #[.string (s.extract (k * 32) (k * 32 + 26))] w1 fun e w' => e = .returned (.tuple #[.string (getN S k).name, .bool (cutB (nameAt S k))]) ∧ w1 = w') := fun k w1 hk => by
    have := rcut_t (s.extract (k * 32) (k * 32 + 26)) w1 (by rw [ByteArray.size_extract]; omega)
    rw [name_extract, ← hS] at this
    exact this
  have HND : Hid (∀ k, (h : k * 32 + 26 < s.size) → (getN S k).node = (s[k * 32 + 26].toNat : Int)) := fun k h => by
    have := byte_num s k h
    rw [← hS] at this
    show ((Bin.num _ : Nat) : Int) = _
    rw [this]
  have HPU : Hid (∀ v w1, Nams w1 v (getL S) → (∀ k, k < 8 → (getN S k).name.size ≤ 1000) → Calls Tryd.prog 10 #[v] w1 fun e w' => e = .returned (.tuple #[.string (putS (getL S)), .bool (okB (getL S))]) ∧ Below w1.heap.size w1 w') := fun v w1 h hz => rput_t v (getL S) w1 h (by rw [getL_length]; decide) (fun p hp => by
    obtain ⟨i, hi, rfl⟩ := List.getElem_of_mem hp
    rw [getL_get]
    exact hz i (by rw [getL_length] at hi; exact hi))
  have HNS : Hid (∀ k, k < 8 → (getN S k).name.size ≤ 1000) := fun k _ => by
    show (cutL (nameAt S k)).toArray.size ≤ 1000
    rw [List.size_toArray]
    have h1 : (nameAt S k).length ≤ 26 := List.length_take_le _ _
    have h2 : (trimL (nameAt S k)).length ≤ (nameAt S k).length := by
      unfold trimL Lib.trimRightB
      rw [List.length_reverse]
      have := (List.dropWhile_sublist (fun x : UInt8 => x == 0) (l := (nameAt S k).reverse)).length_le
      rw [List.length_reverse] at this
      exact this
    unfold cutL
    split
    · omega
    · simp
  have HGB : Hid (getB S = (okB (getL S) && ((putS (getL S)).toList == s.toList))) := by
    show _ = _
    rw [getB, decide_eq_true hSl, Bool.true_and]
    cases h : okB (getL S)
    · rfl
    · rw [Lib.toList_data, Lib.toList_data, putS_list h, ← hS]
  have HCT : Hid (∀ k, k < 8 → cutB (nameAt S k) = false → getB S = false) := fun k hk h => by
    cases hg : getB S
    · rfl
    · have := getB_cut hg hk
      rw [h] at this
      cases this
  have HTK := lfhid (gotTo_take S)
  have HLT : Hid (∀ k, k ≤ 8 → ((getL S).take k).length = k) := fun k hk => by
    show _ = _
    rw [List.length_take, getL_length]
    omega
  have HFU : Hid ((getL S).take 8 = getL S) := List.take_of_length_le (by rw [getL_length]; exact Nat.le_refl _)
  have HGY := lfhid (fun h => gotL_yes (s := S) h)
  have HGN := lfhid (fun h => gotL_no (s := S) h)
  have HL8 := lfhid (getL_length S)
  obtain ⟨G, hG⟩ : ∃ G : Nat → List Nm, G = fun k => (getL S).take k := ⟨_, rfl⟩
  have HTK2 : Hid (∀ k, k < 8 → G k ++ [getN S k] = G (k + 1)) := by rw [hG]; exact HTK
  have HLT2 : Hid (∀ k, k ≤ 8 → (G k).length = k) := by rw [hG]; exact HLT
  have HFU2 : Hid (G 8 = getL S) := by rw [hG]; exact HFU
  have HG0 : Hid (G 0 = []) := by rw [hG]; exact List.take_zero
  clear hS hSl h256 hG HTK HLT HFU
  go_enter Tryd.func12, Tryd.ntmps12
  go_wp2_with fail
  go_loopw [4, 5] (fun lv c wr => ∃ (k : Nat) (ad : Option Addr) (cap : Nat), k ≤ 8 ∧ c = .int .i64 k ∧ lv = .slice ad k cap ∧ Hid (NOwn wr w.heap.size (.slice ad k cap) (G k)) ∧ Hid (Below w.heap.size w wr)) (fun _ c _ => 8 - (intOf c).toNat)
  case atStart => exact ⟨0, none, 0, by omega, rfl, rfl, by show NOwn _ _ _ _; rw [HG0.out]; exact NOwn.nil _ _, Below.refl _ _⟩
  case round =>
    obtain ⟨k, ad, cap, hk, rfl, rfl, HO, HB⟩ := hrel
    by_cases hlt : k < 8
    · have hks : k * 32 + 26 < s.size := by omega
      have e32 : (32 : Int) * (k : Int) = (k : Int) * 32 := Int.mul_comm _ _
      have CU := HCU.out k wr hlt
      have ND := lfhid (HND.out k hks)
      have HT := lfhid (HTK2.out k hlt)
      have HLk := lfhid (HLT2.out k (by omega))
      have HCk := lfhid (HCT.out k hlt)
      have HNE : Hid (getN S k = ⟨(getN S k).name, (getN S k).node⟩) := rfl
      generalize (getN S k).name = gn at *
      generalize (getN S k).node = gd at *
      rw [HNE.out] at HT
      obtain ⟨bv, hbv⟩ : ∃ bv : UInt8, bv = s[k * 32 + 26] := ⟨_, rfl⟩
      have hgd : gd = (bv.toNat : Int) := by rw [hbv]; exact ND.out
      subst hgd
      have hsb : s[k * 32 + 26] = bv := hbv.symm
      have hbb : bv.toNat < 256 := bv.toNat_lt
      have hlk : (G k).length ≤ 100000 := by have := HLk.out; omega
      clear HCU HND HPU HGB HTK2 HFU2 HGY ND HNE hbv
      go_wp2_with fail
      refine CU.mono ?_
      rintro e w1 ⟨rfl, rfl⟩
      cases hcb : cutB (nameAt S k)
      · have HF := lfhid (HCk.out hcb)
        have HL := lfhid (HGN.out HF.out)
        clear HT HCk HLk
        go_wp2_with fail
        go_ret2
        exact ⟨none, 0, lfGot rfl (by rw [HL.out]; rfl) rfl (by rw [HF.out]), by rw [HL.out]; exact Nams.nil _, HB.out⟩
      · clear HCk HGN
        go_wp2_with (first | (refine wpList_append_nm rfl _ _ rfl w.heap.size w _ (G k) ⟨gn, (bv.toNat : Int)⟩ wr.heap.size rfl rfl ?_ (heap_alloc_new wr _) hlk ?_ ?_ ?_) | fail)
        · have := HO.out.on ((Below.refl _ wr).alloc (Nat.le_refl _) (.cells #[.string gn, .int .i64 (bv.toNat : Int)] 41))
          exact this
        · have := HB.out.size
          simp
          omega
        · exact HB.out.alloc HB.out.size _
        intro g cap7 w7 HO7 HB7
        have HOk : Hid (NOwn w7 w.heap.size (.slice (some ⟨g, 0, none⟩) (k + 1) cap7) (G (k + 1))) := by
          have := HO7.out
          rw [HT.out, HLk.out] at this
          exact this
        rw [HLk.out]
        clear HO HB HO7 HT HLk
        go_wp2_with fail
        exact ⟨⟨k + 1, some ⟨g, 0, none⟩, cap7, by omega, by go_num, rfl, HOk, HB7⟩, by simp [intOf]; omega⟩
    · have hk8 : k = 8 := by omega
      subst hk8
      rw [HFU2.out] at HO
      have HN : Hid (Nams wr (.slice ad 8 cap) (getL S)) := HO.out.nams
      clear HCU HND HTK2 HFU2 HLT2 HG0 HCT HO
      go_wp2_with fail
      refine (HPU.out _ wr HN.out HNS.out).mono ?_
      rintro e w1 ⟨rfl, hb1⟩
      have HN1 := lfhid (HN.out.on hb1)
      have HB1 : Hid (Below w.heap.size w w1) := HB.out.trans (hb1.mono HB.out.size)
      clear hb1 HN HB HPU
      cases hok : okB (getL S)
      · rw [hok] at HGB
        have HF : Hid (getB S = false) := HGB.out
        have HL := lfhid (HGN.out HF.out)
        clear HGB HGY HGN
        go_wp2_with fail
        go_ret2
        exact ⟨none, 0, lfGot rfl (by rw [HL.out]; rfl) rfl (by rw [HF.out]), by rw [HL.out]; exact Nams.nil _, HB1.out⟩
      · rw [hok] at HGB
        cases heq : ((putS (getL S)).toList == s.toList)
        · rw [heq] at HGB
          have HF : Hid (getB S = false) := HGB.out
          have HL := lfhid (HGN.out HF.out)
          have hne : ((putS (getL S)).toList != s.toList) = true := by rw [bne, heq]; rfl
          clear HGB HGY HGN
          generalize putS (getL S) = PS at *
          go_wp2_with fail
          go_ret2
          exact ⟨none, 0, lfGot rfl (by rw [HL.out]; rfl) rfl (by rw [HF.out]), by rw [HL.out]; exact Nams.nil _, HB1.out⟩
        · rw [heq] at HGB
          have HF : Hid (getB S = true) := HGB.out
          have HL := lfhid (HGY.out HF.out)
          have hne : ((putS (getL S)).toList != s.toList) = false := by rw [bne, heq]; rfl
          clear HGB HGY HGN
          generalize putS (getL S) = PS at *
          go_wp2_with fail
          go_ret2
          exact ⟨_, _, lfGot rfl (by rw [HL.out, HL8.out]) rfl (by rw [HF.out]), by rw [HL.out, HL8.out]; exact HN1.out, HB1.out⟩

/-- The document's Get, whatever it is asked. -/
theorem rget_t (s : ByteArray) (w : World) :
    Calls Tryd.prog 12 #[.string s] w fun e w' => ∃ ad cap, e = .returned (.tuple #[.slice ad (gotL s.data.toList).length cap, .bool (getB s.data.toList)]) ∧ Nams w' (.slice ad (gotL s.data.toList).length cap) (gotL s.data.toList) ∧ Below w.heap.size w w' := by
  by_cases h : s.size = 256
  · exact rget_row s w h
  · have hF : getB s.data.toList = false := by
      have : decide (s.data.toList.length = 256) = false := by rw [← Lib.size_eq]; exact decide_eq_false h
      rw [getB, this]
      rfl
    have hL := gotL_no hF
    rw [hF, hL]
    refine (rget_no s w h).mono ?_
    rintro e w' ⟨rfl, rfl⟩
    exact ⟨none, 0, rfl, Nams.nil _, Below.refl _ _⟩
end Go.Proofs.YtpgbnfolekanmaaDoor
