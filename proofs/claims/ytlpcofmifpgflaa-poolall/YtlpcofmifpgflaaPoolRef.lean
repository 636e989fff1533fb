/- The document's Free, Take walked. -/
import Derived.Test.YtlpcofmifpgflaaPoolFree
namespace Go.Proofs.Ytlpcofmifpgflaa
open Go.RowKit Pool

theorem tkn_start (l : List Ho) (x : List Int) (s : Int) : tkn l s = (tkn l s || inL (x.take 0) s) := by simp [inL]

set_option maxHeartbeats 4000000 in
theorem rfree_t12 (s : Int) (l : List Ho) (v : Value) (w : World) (hH : Houses w v l) (hl : l.length ≤ 9223372036854775807) (hs : ∀ x ∈ l, x.segs.length ≤ 9223372036854775807) :
    Calls Try.prog 14 #[.int .i64 s, v] w fun e w' => ∃ r, e = .returned r ∧ IOwn w' w.heap.size r (freeL l (cutN s)) ∧ Below w.heap.size w w' := by
  obtain ⟨ad, cap, rfl, -, hc⟩ := hH
  have HC := poolhid hc
  have hcn := cutN_is s
  have hcl := cutN_le s
  generalize cutN s = n at *
  clear hc
  go_enter Try.func14, Try.ntmps14
  go_wp2_with fail
  go_loopw [5, 6] (fun r i wr => ∃ k : Nat, k ≤ n ∧ i = .int .i64 k ∧ Hid (IOwn wr w.heap.size r (freeL l k)) ∧ Hid (Below w.heap.size w wr)) (fun _ i _ => n - (intOf i).toNat)
  case atStart => exact ⟨0, by omega, rfl, IOwn.nil _ _, Below.refl _ _⟩
  case round =>
    obtain ⟨k, hk, rfl, HR, HB⟩ := hrel
    by_cases hlt : k < n
    · have d0 : decide ((k : Int) < s) = true := decide_eq_true (by omega)
      have d1 : decide ((k : Int) < 65536) = true := decide_eq_true (by omega)
      have hfl := freeL_le l k
      have hsz : w.heap.size ≤ wr.heap.size := HB.out.size
      go_wp2_with fail
      go_loopw [7, 8] (fun t c wq => ∃ (i : Nat) (b : Bool), i ≤ l.length ∧ c = .int .i64 i ∧ t = .bool b ∧ Hid (b = tkn (l.take i) k) ∧ wr = wq) (fun _ c _ => l.length - (intOf c).toNat)
      case atStart => exact ⟨0, false, by omega, rfl, rfl, rfl, rfl⟩
      case round =>
        obtain ⟨i, b, hi, rfl, rfl, HT, rfl⟩ := hrel
        by_cases hil : i < l.length
        · obtain ⟨bk, off, rfl, hb, hcell⟩ := HC.out (by omega)
          obtain ⟨sv, hh⟩ := hcell i hil
          have hh2 := hh.on hb HB.out
          have HSL := hs l[i] (List.getElem_mem hil)
          have HE := poolhid (fun y => tkn_take l i hil y)
          clear hcell hh HC
          obtain ⟨-, -, -, -, -, -, -, -, -, c9, hI⟩ := hh2
          obtain ⟨sa, sc, rfl, -, -, hsc⟩ := hI
          have HSC := poolhid hsc
          clear hsc
          generalize l[i] = x at *
          have HT2 : Hid (b = (tkn (l.take i) k || inL (x.segs.take 0) k)) := by show _ = _; rw [← tkn_start]; exact HT.out
          clear HT
          generalize l.take i = ps at *
          go_wp2_with fail
          go_loopw [7, 9] (fun t c wq => ∃ (j : Nat) (b : Bool), j ≤ x.segs.length ∧ c = .int .i64 j ∧ t = .bool b ∧ Hid (b = (tkn ps k || inL (x.segs.take j) k)) ∧ wr = wq) (fun _ c _ => x.segs.length - (intOf c).toNat)
          case atStart => exact ⟨0, b, by omega, rfl, rfl, HT2, rfl⟩
          case round =>
            obtain ⟨j, b2, hj, rfl, rfl, HT3, rfl⟩ := hrel
            by_cases hjl : j < x.segs.length
            · obtain ⟨sb, so, rfl, hsb, hsi⟩ := HSC.out (by omega)
              have hx := hsi j hjl
              have HI := poolhid (inL_take x.segs j hjl k)
              clear hsi HSC HT2
              generalize x.segs[j] = z at *
              cases b2 with
              | true =>
                have HT4 : Hid (true = (tkn ps k || inL (x.segs.take (j + 1)) k)) := by
                  show _ = _
                  rw [HI.out, ← Bool.or_assoc, ← HT3.out]
                  rfl
                clear HI HT3
                go_wp2_with fail
                exact ⟨⟨j + 1, true, by omega, by go_num, rfl, HT4, trivial⟩, by simp [intOf]; omega⟩
              | false =>
                by_cases e : z = (k : Int)
                · have de : (z == (k : Int)) = true := by rw [e]; exact beq_self_eq_true _
                  have HT4 : Hid (true = (tkn ps k || inL (x.segs.take (j + 1)) k)) := by
                    show _ = _
                    rw [HI.out, e, beq_self_eq_true, Bool.or_true, Bool.or_true]
                  clear HI HT3 e
                  go_wp2_with fail
                  exact ⟨⟨j + 1, true, by omega, by go_num, rfl, HT4, trivial⟩, by simp [intOf]; omega⟩
                · have de : (z == (k : Int)) = false := beq_eq_false_iff_ne.2 e
                  have HT4 : Hid (false = (tkn ps k || inL (x.segs.take (j + 1)) k)) := by
                    show _ = _
                    rw [HI.out, beq_eq_false_iff_ne.2 (fun h => e h.symm), Bool.or_false]
                    exact HT3.out
                  clear HI HT3 e
                  go_wp2_with fail
                  exact ⟨⟨j + 1, false, by omega, by go_num, rfl, HT4, trivial⟩, by simp [intOf]; omega⟩
            · have hjn : j = x.segs.length := by omega
              subst hjn
              have HT4 : Hid (b2 = tkn (l.take (i + 1)) k) := by
                have := HT3.out
                rw [List.take_length] at this
                show _ = _
                rw [HE.out, this]
              clear HT3 HE HT2
              go_wp2_with fail
              exact ⟨⟨i + 1, b2, by omega, by go_num, rfl, HT4, trivial⟩, by simp [intOf]; omega⟩
        · have hin : i = l.length := by omega
          subst hin
          have HT2 : Hid (tkn l k = b) := by
            have := HT.out
            rw [List.take_length] at this
            exact this.symm
          clear HT HC
          cases b with
          | true =>
            rw [← freeL_no l k HT2.out] at HR
            go_wp2_with fail
            exact ⟨⟨k + 1, by omega, by go_num, HR, HB⟩, by simp [intOf]; omega⟩
          | false =>
            have HF := poolhid (freeL_yes l k HT2.out)
            clear HT2
            generalize freeL l k = fk at *
            go_wp2_with (first
              | (refine wpList_append_one rfl _ _ rfl w.heap.size _ fk rfl (HR.out.on ((Below.refl _ _).alloc (Nat.le_refl _) _)) wr.heap.size 1 [(k : Int)] rfl 3 (0, 0) (heap_alloc_new _ _) (by simp) (by simp; omega) (by simp; omega) ?_)
              | fail)
            intro v' w' ho hb hle
            rw [← HF.out] at ho
            have HR2 := poolhid ho
            have HB2 : Hid (Below w.heap.size w w') := (HB.out.alloc hsz _).trans hb
            clear ho hb hle HR HB HF
            go_wp2_with fail
            exact ⟨⟨k + 1, by omega, by go_num, HR2, HB2⟩, by simp [intOf]; omega⟩
    · have hkn : k = n := by omega
      subst hkn
      clear HC
      by_cases hks : (k : Int) < s
      · have d0 : decide ((k : Int) < s) = true := decide_eq_true hks
        obtain ⟨z, hz⟩ : ∃ z : Int, z = (k : Int) := ⟨_, rfl⟩
        have d1 : decide (z < 65536) = false := decide_eq_false (by omega)
        rw [← hz] at d0 ⊢
        have HZ := poolhid hz
        clear hz hcn hcl hks hk hlt
        go_wp2_with fail
        go_ret
        exact ⟨_, rfl, HR.out, HB.out⟩
      · have d0 : decide ((k : Int) < s) = false := decide_eq_false hks
        go_wp2_with fail
        go_ret
        exact ⟨_, rfl, HR.out, HB.out⟩

set_option maxHeartbeats 4000000 in
theorem rtake_t12 (s n : Int) (l : List Ho) (v : Value) (w : World) (hH : Houses w v l) (hl : l.length ≤ 9223372036854775807) (hs : ∀ x ∈ l, x.segs.length ≤ 9223372036854775807) :
    Calls Try.prog 11 #[.int .i64 s, v, .int .i64 n] w fun e w' => ∃ r ok m, e = .returned (.tuple #[r, .bool ok]) ∧ TakeIs (freeL l (cutN s)) n ok m ∧ Ints w' r m ∧ (∀ k, r.ownBlock = some k → w.heap.size ≤ k ∧ k < w'.heap.size) ∧ Below w.heap.size w w' := by
  have FT := poolhid (rfree_t12 s l v w hH hl hs)
  have hfl := freeL_le l (cutN s)
  have hcl := cutN_le s
  generalize freeL l (cutN s) = F at *
  clear hH hs
  by_cases h0 : n < 0
  · have d0 : decide (n < 0) = true := decide_eq_true h0
    go_enter Try.func11, Try.ntmps11
    go_wp2_with fail
    refine FT.out.mono ?_
    rintro e w1 ⟨r, rfl, hO, hB⟩
    have HB := poolhid hB
    clear FT hO hB
    go_wp2_with fail
    go_ret2
    exact ⟨_, false, [], rfl, .inr ⟨rfl, .inl h0, rfl⟩, Ints.nil _, (fun k hk => by simp [Value.ownBlock] at hk), HB.out⟩
  · obtain ⟨m, rfl⟩ : ∃ m : Nat, n = (m : Int) := ⟨n.toNat, by omega⟩
    have d0 : decide ((m : Int) < 0) = false := decide_eq_false h0
    go_enter Try.func11, Try.ntmps11
    go_wp2_with fail
    refine FT.out.mono ?_
    rintro e w1 ⟨r, rfl, hO, hB⟩
    have HB := poolhid hB
    have HI := poolhid hO.ints
    have HLT := poolhid hO.lt
    have hsl : ∃ ad cap, r = .slice ad F.length cap ∧ ((ad = none ∧ cap = 0) ∨ ∃ b, ad = some ⟨b, 0, none⟩) := by
      rcases hO.2 with ⟨rfl, h0⟩ | ⟨g, cap, cur, rfl, -⟩
      · exact ⟨none, 0, by rw [h0], .inl ⟨rfl, rfl⟩⟩
      · exact ⟨_, cap, rfl, .inr ⟨g, rfl⟩⟩
    obtain ⟨ad, cap, rfl, hsl⟩ := hsl
    clear FT hO hB
    by_cases h1 : F.length < m
    · have d1 : decide ((F.length : Int) < (m : Int)) = true := decide_eq_true (by omega)
      go_wp2_with fail
      go_ret2
      exact ⟨_, false, [], rfl, .inr ⟨rfl, .inr (by omega), rfl⟩, Ints.nil _, (fun k hk => by simp [Value.ownBlock] at hk), HB.out⟩
    · have d1 : decide ((F.length : Int) < (m : Int)) = false := decide_eq_false (by omega)
      obtain ⟨-, hlc, -, -, hI2⟩ := HI.out.take m (by omega)
      have HI2 := poolhid hI2
      have hmc : m ≤ cap := by omega
      have HT : Hid (TakeIs F m true (F.take m)) := .inl ⟨rfl, by omega, by omega, by simp⟩
      clear HI hI2
      rcases hsl with ⟨rfl, rfl⟩ | ⟨b, rfl⟩
      · have hm0 : m = 0 := by omega
        subst hm0
        go_wp2_with fail
        go_ret2
        exact ⟨_, true, _, rfl, HT.out, HI2.out, HLT.out, HB.out⟩
      · go_wp2_with fail
        go_ret2
        exact ⟨_, true, _, rfl, HT.out, HI2.out, HLT.out, HB.out⟩
end Go.Proofs.Ytlpcofmifpgflaa
