/- May these be a block's places: mayBeBlock walked. -/
import Derived.Test.YtpgbnfolekanmaaDoorLeafCode
namespace Go.Proofs.YtpgbnfolekanmaaDoor
open Go.RowKit Lf

/-- What is known of the places ahead of k. -/
def OkTo (l : List Nm) (k : Nat) : Prop := ∀ j, (h : j < l.length) → j < k → okAt l j l[j] = true
theorem OkTo.next {l : List Nm} {k : Nat} (h : OkTo l k) (hk : k < l.length) (hy : okAt l k l[k] = true) : OkTo l (k + 1) := fun j hj hjk => by
  by_cases e : j = k
  · subst e; exact hy
  · exact h j hj (by omega)
theorem OkTo.all {l : List Nm} (h8 : l.length = 8) (h : OkTo l l.length) : okB l = true := okB_iff.2 ⟨h8, fun i hi => h i hi hi⟩

theorem okAt_em {l : List Nm} {i : Nat} {p : Nm} (h : emB p = true) : okAt l i p = true := by rw [okAt, h]; rfl
theorem okAt_no {l : List Nm} {i : Nat} {p : Nm} (h : emB p = false) (hp : okP p = false) : okAt l i p = false := by rw [okAt, h, hp]; rfl
theorem okAt_fnd {l : List Nm} {i : Nat} {p : Nm} (h : emB p = false) (hp : okP p = true) : okAt l i p = decide (fnd l p.name = i) := by rw [okAt, h, hp]; rfl

set_option maxHeartbeats 2000000 in
theorem may_t (v : Value) (l : List Nm) (w : World) (hE : Nams w v l) (hl : l.length ≤ 1000) : Calls Tryd.prog 23 #[v] w fun e w' => e = .returned (.bool (okB l)) ∧ Below w.heap.size w w' := by
  have HE0 := lfhid hE
  obtain ⟨ad, cap, rfl⟩ := hE.slice
  clear hE
  by_cases h8 : l.length = 8
  · have HALL : Hid (OkTo l l.length → okB l = true) := fun h => h.all h8
    have HNO : Hid (∀ k, (h : k < l.length) → okAt l k l[k] = false → okB l = false) := fun k h hn => okB_no_at h hn
    have CE := lfhid empty_t
    have CC := lfhid check_t
    have CF := lfhid (fun (v : Value) (s : ByteArray) (w1 : World) (h : Nams w1 v l) => find_t v l s w1 h hl)
    generalize okB l = OK at *
    have h8b : ((l.length : Int) == 8) = true := by simp only [beq_iff_eq]; omega
    have h8c : ((l.length : Int) != 8) = false := by rw [bne, h8b]; rfl
    have h8l : l.length ≤ 8 := by omega
    clear h8
    go_enter Tryd.func23, Tryd.ntmps23
    go_wp2_with fail
    go_loopw [12] (fun c wr => ∃ k : Nat, k ≤ l.length ∧ c = .int .i64 k ∧ Hid (OkTo l k) ∧ Hid (Below w.heap.size w wr)) (fun c _ => l.length - (intOf c).toNat)
    case atStart => exact ⟨0, by omega, rfl, fun j _ h => absurd h (Nat.not_lt_zero _), Below.refl _ _⟩
    case round =>
      obtain ⟨k, hk, rfl, HA, HB⟩ := hrel
      by_cases hlt : k < l.length
      · obtain ⟨b, off, rfl, hb, c0, c1⟩ := (HE0.out.on HB.out).at hlt
        have HN := lfhid (fun hy => HA.out.next hlt hy)
        have HNK := lfhid (HNO.out k hlt)
        have HFO := lfhid (fnd_own hlt)
        have hbs := HB.out.size
        generalize l[k] = y at *
        obtain ⟨n, nd⟩ := y
        have HFB : Hid (Word.chk n.data.toList = true → findI l n = fnd l n) := fun hc => by
          refine (findB_at ?_ (Nat.lt_of_le_of_lt HFO.out hlt) rfl).2
          rw [Lib.toList_data]
          exact chk_ne hc
        have hbw : b < wr.heap.size := hb
        go_wp2_with fail
        generalize hW : World.alloc wr _ = W
        have hx : W.heap[wr.heap.size]? = some (.cells #[.string n, .int .i64 nd] 41 (0, 0)) := by rw [← hW]; exact heap_alloc_new _ _
        have HBW : Hid (Below w.heap.size w W) := by rw [← hW]; exact HB.out.alloc hbs _
        have hWs : wr.heap.size < W.heap.size := by rw [← hW]; simp
        clear hW c0 c1 HB
        refine (CE.out ⟨n, nd⟩ _).mono ?_
        rintro e w1 ⟨rfl, hb1⟩
        have hx1 : w1.heap[wr.heap.size]? = some (.cells #[.string n, .int .i64 nd] 41 (0, 0)) := (hb1.block _ hWs).trans hx
        have HB1 : Hid (Below w.heap.size w w1) := HBW.out.trans (hb1.mono (by omega))
        have hw1 : wr.heap.size < w1.heap.size := by have := hb1.size; omega
        clear hb1 hx HBW hWs
        have d0 : w1.cell? ⟨wr.heap.size, 0, none⟩ = some (.string n) := (cell_of_row w1 _ _ _ _ _ hx1).trans rfl
        have d1 : w1.cell? ⟨wr.heap.size, 1, none⟩ = some (.int .i64 nd) := (cell_of_row w1 _ _ _ _ _ hx1).trans rfl
        cases he : emB ⟨n, nd⟩
        · go_wp2_with fail
          refine (CC.out n w1).mono ?_
          rintro e w2 ⟨rfl, hb2⟩
          have HB2 : Hid (Below w.heap.size w w2) := HB1.out.trans (hb2.mono (by omega))
          have hx2 := (hb2.block _ hw1).trans hx1
          have hw2 : wr.heap.size < w2.heap.size := by have := hb2.size; omega
          clear hb2 HB1 hx1 d0 d1 hw1
          have d0 : w2.cell? ⟨wr.heap.size, 0, none⟩ = some (.string n) := (cell_of_row w2 _ _ _ _ _ hx2).trans rfl
          have d1 : w2.cell? ⟨wr.heap.size, 1, none⟩ = some (.int .i64 nd) := (cell_of_row w2 _ _ _ _ _ hx2).trans rfl
          by_cases hok : okP ⟨n, nd⟩ = true
          · obtain ⟨k1, k2, k3⟩ := okP_chk hok
            have k2' : 1 ≤ nd := k2
            have k3' : nd ≤ 255 := k3
            have k1' : Word.chk n.data.toList = true := k1
            have HFI := lfhid (HFB.out k1')
            have HD := lfhid (okAt_fnd (l := l) (i := k) he hok)
            rw [k1']
            have HE2 := lfhid (HE0.out.on HB2.out)
            clear k1 k2 k3 k1' HFB hok he
            go_wp2_with fail
            refine (CF.out _ n w2 HE2.out).mono ?_
            rintro e w3 ⟨rfl, hb3⟩
            rw [HFI.out]
            have HB3 : Hid (Below w.heap.size w w3) := HB2.out.trans (hb3.mono (by omega))
            clear hb3 HB2 hx2 HE2 d0 d1 HFI
            by_cases hf : fnd l n = k
            · have HA2 := lfhid (HN.out (HD.out.trans (decide_eq_true hf)))
              rw [hf]
              clear HD HN HNK HFO HA hf
              go_wp2_with fail
              exact ⟨⟨k + 1, by omega, by go_num, HA2, HB3⟩, by simp [intOf]; omega⟩
            · have HR := lfhid (HNK.out (HD.out.trans (decide_eq_false hf)))
              have hf2 : ((fnd l n : Int) == (k : Int)) = false := by rw [beq_eq_false_iff_ne]; omega
              have hf3 : ((fnd l n : Int) != (k : Int)) = true := by rw [bne, hf2]; rfl
              generalize fnd l n = q at *
              clear HD HN HNK HFO HA hf
              go_wp2_with fail
              go_ret
              exact ⟨lfBool (by rw [HR.out]), HB3.out⟩
          · have HR := lfhid (HNK.out (okAt_no he (by simpa using hok)))
            have hcs : Word.chk n.data.toList = false ∨ (Word.chk n.data.toList = true ∧ (nd < 1 ∨ (1 ≤ nd ∧ 255 < nd))) := by
              cases h1 : Word.chk n.data.toList
              · exact .inl rfl
              · refine .inr ⟨rfl, ?_⟩
                by_cases h2 : nd < 1
                · exact .inl h2
                · refine .inr ⟨by omega, ?_⟩
                  by_cases h3 : 255 < nd
                  · exact h3
                  · exfalso
                    apply hok
                    show (Word.chk n.data.toList && decide (1 ≤ nd ∧ nd ≤ 255)) = true
                    rw [h1, Bool.true_and]
                    exact decide_eq_true ⟨by omega, by omega⟩
            clear hok HN HNK HFO HA HFB he
            rcases hcs with hc | ⟨hc, h2 | ⟨h2, h3⟩⟩
            · rw [hc]
              go_wp2_with fail
              go_ret
              exact ⟨lfBool (by rw [HR.out]), HB2.out⟩
            · rw [hc]
              go_wp2_with fail
              go_ret
              exact ⟨lfBool (by rw [HR.out]), HB2.out⟩
            · rw [hc]
              go_wp2_with fail
              go_ret
              exact ⟨lfBool (by rw [HR.out]), HB2.out⟩
        · have HA2 := lfhid (HN.out (okAt_em he))
          clear HN HNK HFO HA HFB he
          go_wp2_with fail
          exact ⟨⟨k + 1, by omega, by go_num, HA2, HB1⟩, by simp [intOf]; omega⟩
      · have hkl : k = l.length := by omega
        subst hkl
        have HR := lfhid (HALL.out HA.out)
        clear HA HNO HALL
        go_wp2_with fail
        go_ret
        exact ⟨lfBool (by rw [HR.out]), HB.out⟩
  · have HR := lfhid (okB_no_len h8)
    have h8b : ((l.length : Int) == 8) = false := by rw [beq_eq_false_iff_ne]; omega
    have h8c : ((l.length : Int) != 8) = true := by rw [bne, h8b]; rfl
    clear h8
    go_enter Tryd.func23, Tryd.ntmps23
    go_wp2_with fail
    go_ret
    exact ⟨lfBool (by rw [HR.out]), Below.refl _ _⟩
end Go.Proofs.YtpgbnfolekanmaaDoor
