/- The laws' own few, Zero and awake walked. -/
import Derived.Test.YtpgbnfolekanmaaDoorLeafGet
import Derived.Test.YtpgbnfolekanmaaDoorLeafTrim
namespace Go.Proofs.YtpgbnfolekanmaaDoor
open Go.RowKit Lf

set_option maxHeartbeats 1000000 in
theorem zero_t (w : World) : Calls Tryd.prog 22 #[] w fun e w' => e = .returned (.string (zerosS 256)) ∧ Below w.heap.size w w' := by
  have hmk : (Instr.makeSlice 46 (.int .i64 256) (.int .i64 256)).run Tryd.prog w = .ok (.slice (some ⟨w.heap.size, 0, none⟩) 256 256) (w.alloc (.cells (zrow 256) 5)) := zmake 256 (by decide) w
  have hcv : (convert 46 9 (.slice (some ⟨w.heap.size, 0, none⟩) 256 256)).run Tryd.prog (w.alloc (.cells (zrow 256) 5)) = .ok (.string (zerosS 256)) (w.alloc (.cells (zrow 256) 5)) := zconv 256 w.heap.size _ (heap_alloc_new _ _)
  generalize zrow 256 = Z at *
  generalize zerosS 256 = S at *
  go_enter Tryd.func22, Tryd.ntmps22
  go_wp2_with fail
  go_ret
  exact ⟨rfl, (Below.refl _ _).alloc (Nat.le_refl _) _⟩

theorem wake_put : putS eight = zerosS 256 := by
  rw [putS_yes eight_ok, eight_bytes]
  rfl
theorem wake_got : gotL (zerosS 256).data.toList = eight ∧ getB (zerosS 256).data.toList = true := by
  have h : getB (bytesL eight) = true := getB_put eight_ok
  rw [zerosS_list, ← eight_bytes]
  exact ⟨by rw [gotL_yes h, get_put eight_ok], h⟩

set_option maxRecDepth 10000 in
set_option maxHeartbeats 2000000 in
theorem awake_t (w : World) : Calls Tryd.prog 8 #[] w fun e w' => e = .returned (.bool true) ∧ Below w.heap.size w w' := by
  have h8 : eight.length = 8 := rfl
  have hmk : (Instr.makeSlice 22 (.int .i64 8) (.int .i64 8)).run Tryd.prog w = .ok (.slice (some ⟨w.heap.size, 0, none⟩) 8 8) (w.alloc (.cells (ncells (List.replicate 8 z)).toArray 41)) := nmake 8 (by decide) w
  have HN : Hid (Nams (w.alloc (.cells (ncells (List.replicate 8 z)).toArray 41)) (.slice (some ⟨w.heap.size, 0, none⟩) 8 8) eight) := (nmake_row 8 w).nams (Nat.le_refl _)
  have HPU := lfhid (fun (v : Value) (w1 : World) (h : Nams w1 v eight) => put_t11 v eight w1 h (by decide))
  rw [wake_put, eight_ok] at HPU
  have HGE := lfhid (fun (w1 : World) => get_t11 (zerosS 256) w1)
  rw [wake_got.1, wake_got.2] at HGE
  have HFR := lfhid (fun (v : Value) (w1 : World) (h : Nams w1 v eight) => free_t v eight w1 h (by decide))
  rw [eight_free] at HFR
  have HTR := lfhid (fun (v : Value) (w1 : World) (h : Nams w1 v eight) => trim_t v eight 0 w1 h (by decide) eight_lst)
  have htl : (trimTo eight 0).length = 0 := rfl
  rw [htl] at HTR
  rw [h8] at HGE
  have ZE := lfhid zero_t
  clear h8 htl
  generalize zerosS 256 = S at *
  generalize trimTo eight 0 = T0 at *
  generalize eight = E8 at *
  generalize (ncells (List.replicate 8 z)).toArray = R at *
  go_enter Tryd.func8, Tryd.ntmps8
  go_wp2_with fail
  generalize hW : World.alloc w _ = W
  rw [hW] at HN
  have HB0 : Hid (Below w.heap.size w W) := by rw [← hW]; exact (Below.refl _ w).alloc (Nat.le_refl _) _
  clear hmk hW
  refine (HPU.out _ W HN.out).mono ?_
  rintro e w1 ⟨rfl, hb1⟩
  have HB1 : Hid (Below w.heap.size w w1) := HB0.out.trans (hb1.mono HB0.out.size)
  clear hb1 HB0 HN
  go_wp2_with fail
  refine (HGE.out w1).mono ?_
  rintro e w2 ⟨ad, cap, rfl, hn2, hb2⟩
  have HN2 := lfhid hn2
  have HB2 : Hid (Below w.heap.size w w2) := HB1.out.trans (hb2.mono HB1.out.size)
  clear hb2 HB1 hn2
  go_wp2_with fail
  refine (ZE.out w2).mono ?_
  rintro e w3 ⟨rfl, hb3⟩
  have HN3 := lfhid (HN2.out.on hb3)
  have HB3 : Hid (Below w.heap.size w w3) := HB2.out.trans (hb3.mono HB2.out.size)
  clear hb3 HB2 HN2
  go_wp2_with fail
  refine (HFR.out _ w3 HN3.out).mono ?_
  rintro e w4 ⟨rfl, hb4⟩
  have HN4 := lfhid (HN3.out.on hb4)
  have HB4 : Hid (Below w.heap.size w w4) := HB3.out.trans (hb4.mono HB3.out.size)
  clear hb4 HB3 HN3
  go_wp2_with fail
  refine (HTR.out _ w4 HN4.out).mono ?_
  rintro e w5 ⟨ad5, cap5, rfl, _, hb5⟩
  have HB5 : Hid (Below w.heap.size w w5) := HB4.out.trans (hb5.mono HB4.out.size)
  clear hb5 HB4 HN4
  go_wp2_with fail
  go_ret
  exact ⟨rfl, HB5.out⟩

/-- What few says. -/
def FewSaid (l : List Nm) (e : Ending) : Prop := ∃ B, e = .returned (.bool B) ∧ (B = true → l.length ≤ 60 ∧ ∀ p ∈ l, p.name.size ≤ 60)
theorem FewSaid.of {l : List Nm} {e : Ending} (B : Bool) (h : e = .returned (.bool B)) (k : B = true → l.length ≤ 60 ∧ ∀ p ∈ l, p.name.size ≤ 60) : FewSaid l e := ⟨B, h, k⟩

set_option maxHeartbeats 2000000 in
/-- few: told true only of few places of short names. -/
theorem few_t (v : Value) (l : List Nm) (w : World) (hE : Nams w v l) :
    Calls Tryd.prog 7 #[v] w fun e w' => FewSaid l e ∧ w = w' := by
  have HE0 := lfhid hE
  obtain ⟨ad, cap, rfl⟩ := hE.slice
  clear hE
  go_enter Tryd.func7, Tryd.ntmps7
  go_wp2_with fail
  go_loopw [3] (fun c wr => ∃ k : Nat, c = .int .i64 k ∧ k ≤ l.length ∧ k ≤ 60 ∧ Hid (∀ j, (h : j < l.length) → j < k → l[j].name.size ≤ 60) ∧ w = wr) (fun c _ => 60 - (intOf c).toNat)
  case atStart => exact ⟨0, rfl, Nat.zero_le _, Nat.zero_le _, fun j _ h => absurd h (Nat.not_lt_zero _), rfl⟩
  case round =>
    obtain ⟨k, rfl, hk, hk6, HA, rfl⟩ := hrel
    by_cases hlt : k < l.length
    · by_cases h6 : k < 60
      · obtain ⟨b, off, rfl, hb, c0, c1⟩ := HE0.out.at hlt
        have HY : Hid (l[k].name.size ≤ 60 → ∀ j, (h : j < l.length) → j < k + 1 → l[j].name.size ≤ 60) := fun hy j hj hjk => by
          by_cases e : j = k
          · subst e; exact hy
          · exact HA.out j hj (by omega)
        generalize l[k] = y at *
        obtain ⟨n, nd⟩ := y
        by_cases h60 : n.size ≤ 60
        · have HA2 := lfhid (HY.out h60)
          clear HY HA
          go_wp2_with fail
          exact ⟨⟨k + 1, by go_num, by omega, by omega, HA2, trivial⟩, by simp [intOf]; omega⟩
        · have h61 : 60 < n.size := by omega
          clear HY HA h60
          go_wp2_with fail
          go_ret
          exact ⟨.of false rfl (fun h => by cases h), rfl⟩
      · have hlen : 60 < l.length := by omega
        clear HA
        go_wp2_with fail
        go_ret
        exact ⟨.of _ rfl (fun h => by first | (cases h; done) | (exfalso; simp at h; omega)), rfl⟩
    · have hall : Hid (∀ p ∈ l, p.name.size ≤ 60) := fun p hp => by
        obtain ⟨j, hj, rfl⟩ := List.getElem_of_mem hp
        exact HA.out j hj (by omega)
      have hl6 : l.length ≤ 60 := by omega
      clear HA
      go_wp2_with fail
      go_ret
      exact ⟨.of _ rfl (fun _ => ⟨hl6, hall.out⟩), rfl⟩
end Go.Proofs.YtpgbnfolekanmaaDoor
