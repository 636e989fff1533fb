/- The document's own Trim of layer 11 walked. -/
import Derived.Test.YtpgbnfolekanmaaDoorLeafRef
import Derived.Test.YtpgbnfolekanmaaDoorLeafApp
namespace Go.Proofs.YtpgbnfolekanmaaDoor
open Go.RowKit Lf

theorem lfSlr {a b : Option Addr} {n m c d : Nat} (h : a = b) (k : n = m) (i : c = d) : Ending.returned (.slice a n c) = .returned (.slice b m d) := by rw [h, k, i]

/-- A slice's length. -/
def slen : Value → Nat
  | .slice _ n _ => n
  | _ => 0

set_option maxRecDepth 10000 in
set_option maxHeartbeats 4000000 in
theorem rtrim_t (v : Value) (l : List Nm) (n : Nat) (w : World) (hE : Nams w v l) (hl : l.length ≤ 1000) (hL : Lst l n) :
    Calls Tryd.prog 19 #[v] w fun e w' => ∃ ad cap, e = .returned (.slice ad (trimTo l n).length cap) ∧ Nams w' (.slice ad (trimTo l n).length cap) (trimTo l n) ∧ Below w.heap.size w w' := by
  have HE0 := lfhid hE
  have HUN : Hid (∀ m, m ≤ l.length → (∀ i, (h : i < l.length) → m ≤ i → emB l[i] = true) → (0 < m → ∀ (h : m - 1 < l.length), emB l[m - 1] = false) → m = n) := fun m h1 h2 h3 => Lst.unique ⟨h1, h2, h3⟩ hL
  have hnl := hL.le
  have HTT : Hid (∀ j, (n + j) % 8 = 0 → j < 8 → l.take n ++ List.replicate j z = trimTo l n) := fun j h1 h2 => by
    rw [trimTo, show (n + 7) / 8 * 8 - n = j by omega]
  have HRS : Hid (∀ j, l.take n ++ List.replicate j z ++ [z] = l.take n ++ List.replicate (j + 1) z) := fun j => by
    rw [List.append_assoc, List.replicate_succ']
  have HLN : Hid (∀ j, (l.take n ++ List.replicate j z).length = n + j) := fun j => by
    show _ = _
    rw [List.length_append, List.length_take, List.length_replicate]
    omega
  have HTN : Hid (l.take n ++ List.replicate 0 z = l.take n) := by show _ = _; simp
  have HT0 : Hid ((l.take n).length = n) := by show _ = _; rw [List.length_take]; omega
  have CE := lfhid rempty_t
  have hcap0 : ∃ ad cap, v = .slice ad l.length cap ∧ l.length ≤ cap := by
    obtain ⟨ad, cap, hv, _, hcap, _⟩ := hE
    exact ⟨ad, cap, hv, hcap⟩
  obtain ⟨ad, cap, rfl, hcap⟩ := hcap0
  have HTK : Hid (Nams w (.slice ad n cap) (l.take n)) := hE.take hnl
  clear hE hL
  obtain ⟨RF, hRF⟩ : ∃ RF : Nat → List Nm, RF = fun j => l.take n ++ List.replicate j z := ⟨_, rfl⟩
  have JTT : Hid (∀ j, (n + j) % 8 = 0 → j < 8 → RF j = trimTo l n) := by rw [hRF]; exact HTT
  have JRS : Hid (∀ j, RF j ++ [z] = RF (j + 1)) := by rw [hRF]; exact HRS
  have JLN : Hid (∀ j, (RF j).length = n + j) := by rw [hRF]; exact HLN
  have JTN : Hid (RF 0 = l.take n) := by rw [hRF]; exact HTN
  clear hRF HTT HRS HLN HTN
  generalize l.take n = TK at *
  have hn1 : n ≤ 1000 := by omega
  have HNL : Hid (n ≤ l.length) := hnl
  clear hnl
  go_enter Tryd.func19, Tryd.ntmps19
  go_wp2_with fail
  go_loopw [3] (fun c wr => ∃ m : Nat, c = .int .i64 m ∧ m ≤ l.length ∧ Hid (∀ i, (h : i < l.length) → m ≤ i → emB l[i] = true) ∧ Hid (Below w.heap.size w wr)) (fun c _ => (intOf c).toNat)
  case atStart => exact ⟨l.length, rfl, Nat.le_refl _, fun i h h2 => absurd h (by omega), Below.refl _ _⟩
  case round =>
    obtain ⟨m, rfl, hm, HI, HB⟩ := hrel
    by_cases h0 : 0 < m
    · obtain ⟨q, hq⟩ : ∃ q, m = q + 1 := ⟨m - 1, by omega⟩
      subst hq
      have hql : q < l.length := by omega
      obtain ⟨b, off, rfl, hb, c0, c1⟩ := (HE0.out.on HB.out).at hql
      have HY : Hid (∀ B, emB l[q] = B → (B = true → ∀ i, (h : i < l.length) → q ≤ i → emB l[i] = true) ∧ (B = false → q + 1 = n)) := fun B hB => by
        subst hB
        refine ⟨fun hy i h h2 => ?_, fun hn => HUN.out (q + 1) hm HI.out (fun _ _ => hn)⟩
        by_cases e : i = q
        · subst e; exact hy
        · exact HI.out i h (by omega)
      generalize l[q] = y at *
      obtain ⟨nm, nd⟩ := y
      go_wp2_with fail
      refine (CE.out ⟨nm, nd⟩ _).mono ?_
      rintro e w1 ⟨rfl, hb1⟩
      have HB1 : Hid (Below w.heap.size w w1) := HB.out.trans (hb1.mono HB.out.size)
      clear hb1 c0 c1 HB
      cases he : emB ⟨nm, nd⟩
      · have hqn := (HY.out _ he).2 rfl
        clear HY he HI
        subst hqn
        have HBX := HB1
        clear HB1
        go_wp2_with (first | (refine wpList_append_nams rfl _ _ rfl w.heap.size _ [] rfl (NOwn.nil _ _) _ TK rfl (HTK.out.on HBX.out) ?_ HBX.out.size ?_) | fail)
        · have := HT0.out
          simp only [List.length_nil]
          omega
        intro v4 w4 HO4 HB4 hs4
        try rw [List.nil_append] at HO4
        obtain ⟨ad4, cap4, hv4⟩ := HO4.out.slice
        rw [HT0.out] at hv4
        subst hv4
        have HB5 : Hid (Below w.heap.size w w4) := HBX.out.trans HB4.out
        have HO5 : Hid (NOwn w4 w.heap.size (.slice ad4 (q + 1) cap4) (RF 0)) := by
          show NOwn _ _ _ _
          rw [JTN.out]
          exact HO4.out
        clear HO4 HB4 HBX HTK JTN HT0 HUN hs4
        go_wp2_with fail
        go_loopw [4] (fun c wr => ∃ (j K : Nat) (ad : Option Addr) (cap : Nat), c = .slice ad K cap ∧ Hid (K = (q + 1) + j) ∧ K ≤ 1010 ∧ Hid (K ≤ ((q + 1) + 7) / 8 * 8) ∧ Hid (NOwn wr w.heap.size (.slice ad K cap) (RF j)) ∧ Hid (Below w.heap.size w wr)) (fun c _ => 2000 - slen c)
        case atStart => exact ⟨0, q + 1, ad4, cap4, rfl, rfl, by omega, by show q + 1 ≤ _; omega, HO5, HB5⟩
        case round =>
          obtain ⟨j, K, ad6, cap6, rfl, HK, hK, HC, HO, HB⟩ := hrel
          clear HB5 HO5
          by_cases hr : K % 8 = 0
          · have hrem : (((K : Int) % 8) == 0) = true := by simp only [beq_iff_eq]; omega
            have hrem2 : (((K : Int) % 8) != 0) = false := by rw [bne, hrem]; rfl
            have hj8 : j < 8 := by
              have h1 := HK.out
              have h2 := HC.out
              omega
            have HF := lfhid (JTT.out j (by rw [← HK.out]; exact hr) hj8)
            have HLE : Hid (K = (trimTo l (q + 1)).length) := by
              show _ = _
              rw [← HF.out, JLN.out]
              exact HK.out
            rw [HF.out] at HO
            clear JTT JRS JLN HC HK hr HF
            go_wp2_with fail
            go_ret
            exact ⟨ad6, cap6, lfSlr rfl HLE.out rfl, by rw [← HLE.out]; exact HO.out.nams, HB.out⟩
          · have hrem : (((K : Int) % 8) == 0) = false := by rw [beq_eq_false_iff_ne]; omega
            have hrem2 : (((K : Int) % 8) != 0) = true := by rw [bne, hrem]; rfl
            have HLK : Hid ((RF j).length = K) := (JLN.out j).trans HK.out.symm
            have HK2 : Hid (K + 1 = (q + 1) + (j + 1)) := by
              have h1 := HK.out
              show K + 1 = _
              omega
            have HC2 : Hid (K + 1 ≤ ((q + 1) + 7) / 8 * 8) := by
              have h2 := HC.out
              show K + 1 ≤ _
              omega
            have hK2 : K + 1 ≤ 1010 := by
              have h2 := HC2.out
              omega
            have HR := lfhid (JRS.out j)
            generalize RF j = LR at *
            clear JTT HC HK hr
            go_wp2_with (first | (refine wpList_append_nm rfl _ _ rfl w.heap.size w _ LR z wr.heap.size rfl rfl ?_ (heap_alloc_new wr _) ?_ ?_ ?_ ?_) | fail)
            · exact HO.out.on ((Below.refl _ wr).alloc (Nat.le_refl _) _)
            · have := HLK.out
              omega
            · have := HB.out.size
              simp
              omega
            · exact HB.out.alloc HB.out.size _
            intro g7 cap7 w7 HO7 HB7
            rw [HLK.out] at HO7 ⊢
            rw [HR.out] at HO7
            clear HO HB HR HLK
            go_wp2_with fail
            exact ⟨⟨j + 1, K + 1, some ⟨g7, 0, none⟩, cap7, rfl, HK2, hK2, HC2, HO7, HB7⟩, by simp [slen]; omega⟩
      · have HI2 := lfhid ((HY.out _ he).1 rfl)
        clear HY he HI
        go_wp2_with fail
        exact ⟨⟨q, by go_num, by omega, HI2, HB1⟩, by simp [intOf]⟩
    · have hm0 : m = 0 := by omega
      subst hm0
      have hn0 : 0 = n := HUN.out 0 (Nat.zero_le _) HI.out (fun h => absurd h (Nat.lt_irrefl 0))
      subst hn0
      have HBX := HB
      clear HB HI h0
      go_wp2_with (first | (refine wpList_append_nams rfl _ _ rfl w.heap.size _ [] rfl (NOwn.nil _ _) _ TK rfl (HTK.out.on HBX.out) ?_ HBX.out.size ?_) | fail)
      · have := HT0.out
        simp only [List.length_nil]
        omega
      intro v4 w4 HO4 HB4 hs4
      try rw [List.nil_append] at HO4
      obtain ⟨ad4, cap4, hv4⟩ := HO4.out.slice
      rw [HT0.out] at hv4
      subst hv4
      have HB5 : Hid (Below w.heap.size w w4) := HBX.out.trans HB4.out
      have HO5 : Hid (NOwn w4 w.heap.size (.slice ad4 (0) cap4) (RF 0)) := by
        show NOwn _ _ _ _
        rw [JTN.out]
        exact HO4.out
      clear HO4 HB4 HBX HTK JTN HT0 HUN hs4
      go_wp2_with fail
      go_loopw [4] (fun c wr => ∃ (j K : Nat) (ad : Option Addr) (cap : Nat), c = .slice ad K cap ∧ Hid (K = (0) + j) ∧ K ≤ 1010 ∧ Hid (K ≤ ((0) + 7) / 8 * 8) ∧ Hid (NOwn wr w.heap.size (.slice ad K cap) (RF j)) ∧ Hid (Below w.heap.size w wr)) (fun c _ => 2000 - slen c)
      case atStart => exact ⟨0, 0, ad4, cap4, rfl, rfl, by omega, by show 0 ≤ _; omega, HO5, HB5⟩
      case round =>
        obtain ⟨j, K, ad6, cap6, rfl, HK, hK, HC, HO, HB⟩ := hrel
        clear HB5 HO5
        by_cases hr : K % 8 = 0
        · have hrem : (((K : Int) % 8) == 0) = true := by simp only [beq_iff_eq]; omega
          have hrem2 : (((K : Int) % 8) != 0) = false := by rw [bne, hrem]; rfl
          have hj8 : j < 8 := by
            have h1 := HK.out
            have h2 := HC.out
            omega
          have HF := lfhid (JTT.out j (by rw [← HK.out]; exact hr) hj8)
          have HLE : Hid (K = (trimTo l (0)).length) := by
            show _ = _
            rw [← HF.out, JLN.out]
            exact HK.out
          rw [HF.out] at HO
          clear JTT JRS JLN HC HK hr HF
          go_wp2_with fail
          go_ret
          exact ⟨ad6, cap6, lfSlr rfl HLE.out rfl, by rw [← HLE.out]; exact HO.out.nams, HB.out⟩
        · have hrem : (((K : Int) % 8) == 0) = false := by rw [beq_eq_false_iff_ne]; omega
          have hrem2 : (((K : Int) % 8) != 0) = true := by rw [bne, hrem]; rfl
          have HLK : Hid ((RF j).length = K) := (JLN.out j).trans HK.out.symm
          have HK2 : Hid (K + 1 = (0) + (j + 1)) := by
            have h1 := HK.out
            show K + 1 = _
            omega
          have HC2 : Hid (K + 1 ≤ ((0) + 7) / 8 * 8) := by
            have h2 := HC.out
            show K + 1 ≤ _
            omega
          have hK2 : K + 1 ≤ 1010 := by
            have h2 := HC2.out
            omega
          have HR := lfhid (JRS.out j)
          generalize RF j = LR at *
          clear JTT HC HK hr
          go_wp2_with (first | (refine wpList_append_nm rfl _ _ rfl w.heap.size w _ LR z wr.heap.size rfl rfl ?_ (heap_alloc_new wr _) ?_ ?_ ?_ ?_) | fail)
          · exact HO.out.on ((Below.refl _ wr).alloc (Nat.le_refl _) _)
          · have := HLK.out
            omega
          · have := HB.out.size
            simp
            omega
          · exact HB.out.alloc HB.out.size _
          intro g7 cap7 w7 HO7 HB7
          rw [HLK.out] at HO7 ⊢
          rw [HR.out] at HO7
          clear HO HB HR HLK
          go_wp2_with fail
          exact ⟨⟨j + 1, K + 1, some ⟨g7, 0, none⟩, cap7, rfl, HK2, hK2, HC2, HO7, HB7⟩, by simp [slen]; omega⟩
end Go.Proofs.YtpgbnfolekanmaaDoor
