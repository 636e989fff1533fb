/- Whether houses may be: apart, Check walked. -/
import Derived.Test.YtdhdjnpgebddmaaTabHouse
import Derived.Test.YtdhdjnpgebddmaaTabWrite
import Derived.Laws.AppendOwnNone
namespace Go.Proofs.Ytdhdjnpgebddmaa
open Go.RowKit Tab

theorem Try.tabInfo3 : (Try.prog.info? 3).map (fun i => (i.zero, i.size, i.bytes)) = some (some (.int .i64 0), 1, 8) := by kernel_rfl

/-- Numbers as cells. -/
def icells (l : List Int) : List Value := l.map (Value.int .i64)
theorem icells_length (l : List Int) : (icells l).length = l.length := by simp [icells]
theorem icells_get (l : List Int) (j : Nat) (hj : j < l.length) : (icells l)[j]? = some (.int .i64 l[j]) := by simp [icells, hj]
theorem icells_append (a b : List Int) : icells (a ++ b) = icells a ++ icells b := by simp [icells]
theorem icells_one (l : List Int) : ∀ u ∈ icells l, u.oneCell' = true := by
  intro u hu
  simp only [icells, List.mem_map] at hu
  obtain ⟨x, _, rfl⟩ := hu
  rfl

theorem allSegs_snoc (l : List Ho) (i : Nat) (hi : i < l.length) : allSegs (l.take (i + 1)) = allSegs (l.take i) ++ l[i].segs := by
  rw [List.take_succ_eq_append_getElem hi]
  simp only [allSegs, List.flatMap_append, List.flatMap_cons, List.flatMap_nil, List.append_nil]
theorem allSegs_le (l : List Ho) (hs : ∀ x ∈ l, x.segs.length ≤ 1000) : (allSegs l).length ≤ 1000 * l.length := by
  induction l with
  | nil => simp [allSegs]
  | cons a r ih =>
    have h1 := hs a (by simp)
    have h2 := ih (fun x hx => hs x (by simp [hx]))
    simp only [allSegs, List.flatMap_cons, List.length_append, List.length_cons] at *
    omega

theorem nodup_perm {a b : List Int} (h : a.Perm b) : a.Nodup ↔ b.Nodup := h.nodup_iff

/-- Sorted, no number stands beside itself just if none is there twice. -/
theorem beside {l : List Int} (h : l.Pairwise (· ≤ ·)) : (∀ i (hi : i + 1 < l.length), l[i + 1] ≠ l[i]) ↔ l.Nodup := by
  induction l with
  | nil => simp
  | cons a r ih =>
    rw [List.pairwise_cons] at h
    rw [List.nodup_cons, ← ih h.2]
    constructor
    · intro hb
      refine ⟨fun hm => ?_, fun i hi => hb (i + 1) (by simpa using hi)⟩
      obtain ⟨j, hj, e⟩ := List.getElem_of_mem hm
      cases r with
      | nil => cases hm
      | cons c t =>
        have h0 := hb 0 (by simp)
        simp only [List.getElem_cons_succ, List.getElem_cons_zero] at h0
        have h1 := h.1 c (by simp)
        have h2 : c ≤ (c :: t)[j] := by
          rcases Nat.eq_zero_or_pos j with rfl | hj0
          · simp
          · exact List.pairwise_iff_getElem.1 h.2 0 j (by simp) hj hj0
        omega
    · rintro ⟨h1, h2⟩ i hi
      cases i with
      | zero =>
        simp only [List.getElem_cons_succ, List.getElem_cons_zero]
        intro e
        exact h1 (e ▸ List.getElem_mem _)
      | succ i => exact h2 i (by simpa using hi)

theorem apartB_yes {l : List Ho} (h : ∀ i (hi : i + 1 < (sorted (allSegs l)).length), (sorted (allSegs l))[i + 1] ≠ (sorted (allSegs l))[i]) : apartB l = true :=
  decide_eq_true ((nodup_perm (sorted_perm _)).1 ((beside (sorted_le _)).1 h))
theorem apartB_no {l : List Ho} {i : Nat} (hi : i + 1 < (sorted (allSegs l)).length) (e : (sorted (allSegs l))[i + 1] = (sorted (allSegs l))[i]) : apartB l = false :=
  decide_eq_false (fun hn => (beside (sorted_le _)).2 ((nodup_perm (sorted_perm _)).2 hn) i hi e)

theorem addr_plain (b off j : Nat) : (⟨b, off, none⟩ : Addr).add j = ⟨b, off + j, none⟩ := by unfold Addr.add; split <;> simp_all

theorem ownsRow_on {w w' : World} {base : Nat} {e : TypeId} {size : Nat} {v : Value} {n : Nat} {xs : List Value} (h : w.ownsRow base e size v n xs) (k : Below w.heap.size w w') : w'.ownsRow base e size v n xs := by
  obtain ⟨h1, h2⟩ := h
  refine ⟨h1, ?_⟩
  rcases h2 with h2 | ⟨g, cap, cur, rfl, hg, hh, r⟩
  · exact Or.inl h2
  · exact Or.inr ⟨g, cap, cur, rfl, hg, by rw [k.block g (Array.getElem?_eq_some_iff.1 hh).1]; exact hh, r⟩

set_option maxHeartbeats 2000000 in
theorem apart_t (l : List Ho) (v : Value) (w : World) (hH : Houses w v l) (hl : l.length ≤ 1000) (hs : ∀ x ∈ l, x.segs.length ≤ 1000) :
    Calls Try.prog 38 #[v] w fun e w' => e = .returned (.bool (apartB l)) ∧ Below w.heap.size w w' := by
  obtain ⟨i0, hi0, hz0, hz1, hz2⟩ := info_parts Try.tabInfo3
  obtain ⟨ad, cap, rfl, hc⟩ := hH
  have HC := tabhid hc
  have HL := tabhid (allSegs_le · · : ∀ (l : List Ho), (∀ x ∈ l, x.segs.length ≤ 1000) → (allSegs l).length ≤ 1000 * l.length)
  clear hc
  go_enter Try.func38, Try.ntmps38
  go_wp2
  go_loopw [3, 9] (fun a c wr => ∃ (i : Nat), i ≤ l.length ∧ c = .int .i64 i ∧ Hid (wr.ownsRow w.heap.size 3 1 a (allSegs (l.take i)).length (icells (allSegs (l.take i)))) ∧ Hid (Below w.heap.size w wr)) (fun _ c _ => l.length - (intOf c).toNat)
  case atStart => exact ⟨0, by omega, rfl, ⟨rfl, .inl ⟨rfl, rfl⟩⟩, Below.refl _ _⟩
  case round =>
    obtain ⟨i, hi, rfl, HO, HB⟩ := hrel
    by_cases hlt : i < l.length
    · obtain ⟨b, off, rfl, hb, hcell⟩ := HC.out (by omega)
      obtain ⟨sv, hh⟩ := hcell i hlt
      have hh2 := hh.on hb HB.out
      have hsl := hs l[i] (List.getElem_mem hlt)
      have HS := tabhid (allSegs_snoc l i hlt)
      have hbd := HL.out (l.take i) (fun x hx => hs x (List.mem_of_mem_take hx))
      have hbd2 : (allSegs (l.take i)).length ≤ 1000000 := by
        have : (l.take i).length ≤ 1000 := by rw [List.length_take]; omega
        omega
      clear hbd hcell hh HC
      obtain ⟨c0, c1, c2, c3, c4, c5, c6, c7, c8, c9, hI⟩ := hh2
      have HI := tabhid hI
      obtain ⟨sa, sc, rfl, hsn, hsc⟩ := hI
      have hblt : b < wr.heap.size := Nat.lt_of_lt_of_le hb HB.out.size
      generalize l[i] = x at *
      generalize hps : allSegs (l.take i) = ps at *
      have Fin : Hid (∀ (v1 : Value) (w1 : World), w1.ownsRow w.heap.size 3 1 v1 (ps.length + x.segs.length) (icells ps ++ icells x.segs) → w1.ownsRow w.heap.size 3 1 v1 (allSegs (l.take (i + 1))).length (icells (allSegs (l.take (i + 1))))) := by
        intro v1 w1 ho
        rw [HS.out, List.length_append, icells_append]
        exact ho
      by_cases hsl0 : x.segs.length = 0
      · have hnil := List.length_eq_zero_iff.1 hsl0
        rw [hsl0] at c9
        clear hsc
        cases sa with
        | none =>
          have : sc = 0 := hsn rfl
          subst this
          clear hsn
          go_wp2_with (first | (refine wpList_append_own_none rfl _ _ 36 rfl w.heap.size 3 i0 1 Try.underlying36 hi0 _ ps.length (icells ps) rfl ?_ rfl ?_) | fail)
          · exact ownsRow_on HO.out ((Below.refl _ _).alloc (Nat.le_refl _) _)
          go_wp2_with fail
          refine ⟨⟨i + 1, by omega, by go_num, ?_, ?_⟩, by simp [intOf]; omega⟩
          · apply Fin.out
            rw [hnil]
            simp only [icells, List.map_nil, List.append_nil, List.length_nil, Nat.add_zero]
            exact ownsRow_on HO.out ((Below.refl _ _).alloc (Nat.le_refl _) _)
          · exact HB.out.alloc HB.out.size _
        | some sad =>
          clear hsn
          go_wp2_with (first | (refine wpList_append_own _ rfl _ _ 36 rfl w.heap.size 3 i0 _ 1 8 Try.underlying36 hi0 hz0 hz1 hz2 rfl (by decide) _ ps.length (icells ps) rfl ?_ sad 0 sc [] rfl rfl ?_ (fun u hu => by cases hu) (by unfold maxLen; omega) (by omega) ?_ ?_) | fail)
          · exact ownsRow_on HO.out ((Below.refl _ _).alloc (Nat.le_refl _) _)
          · intro j u hj
            cases hj
          · simp; have := HB.out.size; omega
          intro v1 w1 hown hgr hnil1
          have hB1 : Hid (Below w.heap.size w w1) := (HB.out.alloc HB.out.size _).grown hgr (by simp; have := HB.out.size; omega) (fun k hk => (HO.out.lt k hk).1)
          have hown1 := tabhid hown
          clear hgr hnil1 hown
          go_wp2_with fail
          refine ⟨⟨i + 1, by omega, by go_num, ?_, hB1⟩, by simp [intOf]; omega⟩
          apply Fin.out
          rw [hnil]
          simp only [icells, List.map_nil, List.append_nil, List.length_nil, Nat.add_zero]
          simpa [icells] using hown1.out
      · obtain ⟨sb, so, rfl, hsb, hsi⟩ := hsc (by omega)
        have HSI := tabhid hsi
        clear hsi hsc hsn
        go_wp2_with (first | (refine wpList_append_own _ rfl _ _ 36 rfl w.heap.size 3 i0 _ 1 8 Try.underlying36 hi0 hz0 hz1 hz2 rfl (by decide) _ ps.length (icells ps) rfl ?_ ⟨sb, so, none⟩ x.segs.length sc (icells x.segs) rfl (by rw [icells_length]; omega) ?_ (icells_one _) (by unfold maxLen; omega) (by omega) ?_ ?_) | fail)
        · exact ownsRow_on HO.out ((Below.refl _ _).alloc (Nat.le_refl _) _)
        · intro j u hj
          have hjl : j < x.segs.length := by
            rcases Nat.lt_or_ge j x.segs.length with h | h
            · exact h
            · rw [List.getElem?_eq_none (by rw [icells_length]; exact h)] at hj; cases hj
          rw [icells_get x.segs j hjl] at hj
          rw [← hj, addr_plain, ((Below.refl wr.heap.size wr).alloc (Nat.le_refl _) _).cell hsb]
          exact HSI.out j hjl
        · simp; have := HB.out.size; omega
        intro v1 w1 hown hgr hnil1
        have hB1 : Hid (Below w.heap.size w w1) := (HB.out.alloc HB.out.size _).grown hgr (by simp; have := HB.out.size; omega) (fun k hk => (HO.out.lt k hk).1)
        have hown1 := tabhid hown
        clear hgr hnil1 hown
        go_wp2_with fail
        exact ⟨⟨i + 1, by omega, by go_num, Fin.out _ _ hown1.out, hB1⟩, by simp [intOf]; omega⟩
    · have hil : i = l.length := by omega
      have HO2 := HO
      rw [hil, List.take_length] at HO2
      have hbd := HL.out l hs
      have hbd2 : (allSegs l).length ≤ 1000000 := by omega
      obtain ⟨zs, hzs⟩ : ∃ zs, zs = allSegs l := ⟨_, rfl⟩
      obtain ⟨Z, hZ⟩ : ∃ Z, Z = sorted zs := ⟨_, rfl⟩
      obtain ⟨R, hR⟩ : ∃ R, R = apartB l := ⟨_, rfl⟩
      have YES : Hid ((∀ i (hi : i + 1 < Z.length), Z[i + 1] ≠ Z[i]) → R = true) := by subst hR hZ hzs; exact apartB_yes
      have NO : Hid (∀ (i : Nat) (hi : i + 1 < Z.length), Z[i + 1] = Z[i] → R = false) := by subst hR hZ hzs; exact fun i hi e => apartB_no hi e
      rw [← hzs] at HO2 hbd2
      have SORT : Hid (∀ (g cap : Nat) (w1 : World) (cur : Array Value), w1.heap[g]? = some (.cells cur 3 (0, 0)) → (∀ i (h : i < zs.length), cur[i]? = some (.int .i64 zs[i])) →
          Calls Try.prog 53 #[.slice (some ⟨g, 0, none⟩) zs.length cap] w1 fun e w' => e = .returned (.tuple #[]) ∧ Below g w1 w' ∧ (∀ i (h : i < Z.length), w'.cell? ⟨g, i, none⟩ = some (.int .i64 Z[i])) ∧ w1.heap.size ≤ w'.heap.size) := by
        subst hZ
        exact fun g cap w1 cur hg hc => sort_t g cap zs w1 cur hg hc (by omega)
      have hsl : Z.length = zs.length := by rw [hZ]; exact sorted_length zs
      have SN := tabhid sort_none
      have HR := tabhid hR
      clear HO hil HC HL hbd hZ hzs hR
      obtain ⟨ho1, ho2⟩ := HO2.out
      clear HO2
      rcases ho2 with ⟨rfl, hz⟩ | ⟨g, cap2, cur, rfl, hgb, hg, hle, hmx, hcs, htk⟩
      · have hR : R = true := YES.out (fun i hi => by omega)
        have HR2 : Hid (true = apartB l) := by rw [← hR]; exact HR.out
        clear YES NO SORT HR hR
        go_wp2_with fail
        refine (SN.out _ _ _).mono ?_
        rintro e w1 ⟨rfl, rfl⟩
        go_wp2_with fail
        go_loopw [6] (fun c w2 => c = .int .i64 1 ∧ wr = w2) (fun _ _ => 0)
        case atStart => exact ⟨rfl, rfl⟩
        case round =>
          obtain ⟨rfl, rfl⟩ := hrel
          go_wp2_with fail
          go_ret
          exact ⟨tabBool HR2.out, HB.out⟩
      · have hgl : g < wr.heap.size := (Array.getElem?_eq_some_iff.1 hg).1
        have hcur : ∀ i (h : i < zs.length), cur[i]? = some (.int .i64 zs[i]) := by
          intro i h
          rw [← icells_get zs i h, ← htk, Nat.mul_one, List.getElem?_take_of_lt h, Array.getElem?_toList]
        have CALL := tabhid (SORT.out g cap2 wr cur hg hcur)
        clear SORT SN hg hcur htk hcs hmx hle ho1
        go_wp2_with fail
        refine CALL.out.mono ?_
        rintro e w1 ⟨rfl, hb1, hc1, hs1⟩
        have HB1 : Hid (Below w.heap.size w w1) := HB.out.trans (hb1.mono hgb)
        have HC1 := tabhid hc1
        clear CALL hb1 hc1 HB
        go_wp2_with fail
        go_loopw [6] (fun c w2 => ∃ k : Nat, c = .int .i64 ((k : Int) + 1) ∧ k ≤ 1000000 ∧ Hid (∀ i (hi : i + 1 < Z.length), i < k → Z[i + 1] ≠ Z[i]) ∧ Hid (Below w.heap.size w w2) ∧ Hid (∀ i (h : i < Z.length), w2.cell? ⟨g, i, none⟩ = some (.int .i64 Z[i]))) (fun c _ => Z.length + 1 - (intOf c).toNat)
        case atStart => exact ⟨0, rfl, by omega, fun i hi h => by omega, HB1, HC1⟩
        case round =>
          obtain ⟨k, rfl, hk, HK, HB2, HC2⟩ := hrel
          by_cases hk1 : k + 1 < Z.length
          · have c0 := HC2.out (k + 1) hk1
            have c1 := HC2.out k (by omega)
            have hk2 : (k : Int) + 1 < (zs.length : Int) := by omega
            by_cases he : Z[k + 1] = Z[k]
            · have hR : R = false := NO.out k hk1 he
              have HR2 : Hid (false = apartB l) := by rw [← hR]; exact HR.out
              rw [he] at c0
              clear NO YES HR hR HK HC2
              generalize Z[k] = y at *
              go_wp2_with fail
              go_quiet (fail)
              go_wp2_with fail
              go_ret
              exact ⟨tabBool HR2.out, HB2.out.os, HB2.out.tape, HB2.out.output, HB2.out.size, HB2.out.block⟩
            · have HK2 : Hid (∀ i (hi : i + 1 < Z.length), i < k + 1 → Z[i + 1] ≠ Z[i]) := fun i hi h => by
                rcases Nat.lt_or_ge i k with h' | h'
                · exact HK.out i hi h'
                · have : i = k := by omega
                  subst this
                  exact he
              have hb : (Z[k + 1] == Z[k]) = false := by rw [beq_eq_false_iff_ne]; exact he
              clear he
              generalize hy : Z[k] = y at c1 hb
              generalize hy2 : Z[k + 1] = y2 at c0 hb
              clear hy hy2
              go_wp2_with fail
              go_quiet (fail)
              go_wp2_with fail
              refine ⟨⟨k + 1, by go_num, by omega, HK2, ⟨HB2.out.os, HB2.out.tape, HB2.out.output, HB2.out.size, HB2.out.block⟩, HC2⟩, by simp [intOf]; omega⟩
          · have hR : R = true := YES.out (fun i hi => HK.out i hi (by omega))
            have HR2 : Hid (true = apartB l) := by rw [← hR]; exact HR.out
            have hk2 : ¬ (k : Int) + 1 < (zs.length : Int) := by omega
            clear YES NO HR hR
            go_wp2_with fail
            go_ret
            exact ⟨tabBool HR2.out, HB2.out⟩

set_option maxHeartbeats 1000000 in
theorem check_t (n : Int) (l : List Ho) (v : Value) (w : World) (hH : Houses w v l) (_hl : l.length ≤ 4611686018427387904) (hs : ∀ x ∈ l, x.segs.length ≤ 4611686018427387904) (hn : n ≤ 9223372036854775807) :
    Calls Try.prog 17 #[.int .i64 n, v] w fun e w' => e = .returned (.bool (checkB n l)) ∧ Below w.heap.size w w' := by
  have HH := tabhid hH
  obtain ⟨ad, cap, rfl, hc⟩ := hH
  have HC := tabhid hc
  clear hc
  by_cases h16 : l.length = 16
  · obtain ⟨b, off, rfl, hb, hcell⟩ := HC.out (by omega)
    have CA : Hid (∀ w1, Below w.heap.size w w1 → l.all (houseB n) = true → Calls Try.prog 38 #[.slice (some ⟨b, off, none⟩) 16 cap] w1 fun e w' => e = .returned (.bool (apartB l)) ∧ Below w1.heap.size w1 w') := by
      intro w1 hb1 ha
      have := apart_t l _ w1 (HH.out.on hb1) (by omega) (fun x hx => by have := houseB_segs (List.all_eq_true.1 ha x hx); omega)
      rw [h16] at this
      exact this
    have CH := tabhid checkHouse_t
    have hE : checkB n l = (l.all (houseB n) && apartB l) := by unfold checkB; rw [decide_eq_true h16]; rfl
    rw [hE, h16]
    clear hE HC HH
    go_enter Try.func17, Try.ntmps17
    go_wp2
    go_loopw [12] (fun c wr => ∃ (i : Nat), i ≤ 16 ∧ c = .int .i64 i ∧ Hid ((l.take i).all (houseB n) = true) ∧ Hid (Below w.heap.size w wr)) (fun c _ => 16 - (intOf c).toNat)
    case atStart => exact ⟨0, by omega, rfl, rfl, Below.refl _ _⟩
    case round =>
      obtain ⟨i, hi, rfl, HA, HB⟩ := hrel
      by_cases hlt : i < 16
      · have hil : i < l.length := by omega
        obtain ⟨sv, hh⟩ := hcell i hil
        have hh2 := hh.on hb HB.out
        have hblt : b < wr.heap.size := Nat.lt_of_lt_of_le hb HB.out.size
        have hsl := hs l[i] (List.getElem_mem hil)
        have HT : Hid ((l.take (i + 1)).all (houseB n) = houseB n l[i]) := by
          show _ = _
          rw [List.take_succ_eq_append_getElem hil, List.all_append, HA.out]
          simp
        have HF : Hid (houseB n l[i] = false → l.all (houseB n) = false) := by
          intro hf
          rw [List.all_eq_false]
          exact ⟨l[i], List.getElem_mem hil, by rw [hf]; simp⟩
        clear hh hcell
        obtain ⟨c0, c1, c2, c3, c4, c5, c6, c7, c8, c9, hI⟩ := hh2
        have HI := tabhid hI
        obtain ⟨sa, sc, rfl, hsn, hsc⟩ := hI
        clear hsc hsn
        generalize l[i] = x at *
        go_wp2_with fail
        refine (CH.out n x (.slice sa x.segs.length sc) _ (HI.out.on ((Below.refl _ _).alloc (Nat.le_refl _) _)) hsl hn).mono ?_
        rintro e w1 ⟨rfl, hb1⟩
        have HB1 : Hid (Below w.heap.size w w1) := (HB.out.alloc HB.out.size _).trans (hb1.mono (by simp; have := HB.out.size; omega))
        clear hb1
        cases hB : houseB n x
        · have HF2 := tabhid (HF.out hB)
          go_wp2_with fail
          go_ret
          exact ⟨tabBool (by rw [HF2.out]; rfl), HB1.out⟩
        · go_wp2_with fail
          exact ⟨⟨i + 1, by omega, by go_num, by rw [HT.out]; exact hB, HB1⟩, by simp [intOf]; omega⟩
      · have hi16 : i = 16 := by omega
        have ha : l.all (houseB n) = true := by
          have := HA.out
          rw [hi16, ← h16, List.take_length] at this
          exact this
        have HA2 := tabhid ha
        clear ha
        go_wp2_with fail
        refine (CA.out _ HB.out HA2.out).mono ?_
        rintro e w1 ⟨rfl, hb1⟩
        have HB1 : Hid (Below w.heap.size w w1) := HB.out.trans (hb1.mono HB.out.size)
        go_wp2_with fail
        go_ret
        exact ⟨tabBool (by rw [HA2.out]; rfl), HB1.out⟩
  · have hE : checkB n l = false := by unfold checkB; rw [decide_eq_false h16]; rfl
    have hb : ((l.length : Int) == 16) = false := by rw [beq_eq_false_iff_ne]; omega
    have hb2 : ((l.length : Int) != 16) = true := by rw [bne, hb]; rfl
    rw [hE]
    go_enter Try.func17, Try.ntmps17
    go_wp2_with fail
    go_ret
    exact ⟨rfl, Below.refl _ _⟩
end Go.Proofs.Ytdhdjnpgebddmaa
