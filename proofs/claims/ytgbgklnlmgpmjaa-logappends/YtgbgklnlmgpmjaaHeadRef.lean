/- The document's own small functions of a head (chapter 8's answer) walked: in, entry, Check, Sum, num. -/
import Derived.Test.YtgbgklnlmgpmjaaHeadCode
import Derived.Test.YtgbgklnlmgpmjaaCrcRef
import Derived.Test.YtgbgklnlmgpmjaaBinRef
namespace Go.Proofs.Ytgbgklnlmgpmjaa
open Go.RowKit Rec Hdp

set_option maxHeartbeats 400000 in
theorem rin_t (v a b : Int) (w : World) : Calls Try.prog 73 #[.int .i64 v, .int .i64 a, .int .i64 b] w fun e w' => e = .returned (.bool (inB v a b)) ∧ w = w' := by
  by_cases h1 : a ≤ v
  · by_cases h2 : v ≤ b
    · have e : Hid (inB v a b = true) := inB_yes h1 h2
      go_enter Try.func73, Try.ntmps73
      go_wp2
      go_ret
      exact ⟨hdBool e.out.symm, rfl⟩
    · have e : Hid (inB v a b = false) := by show _ = _; simp [inB, h2]
      have d : decide (v ≤ b) = false := by simp; omega
      go_enter Try.func73, Try.ntmps73
      go_wp2
      go_ret
      exact ⟨hdBool e.out.symm, rfl⟩
  · have e : Hid (inB v a b = false) := by show _ = _; simp [inB, h1]
    go_enter Try.func73, Try.ntmps73
    go_wp2
    go_ret
    exact ⟨hdBool e.out.symm, rfl⟩

set_option maxHeartbeats 2000000 in
theorem rentry_t (e : En) (w : World) : Calls Try.prog 72 #[enV e] w fun r w' => r = .returned (.bool (enB e)) ∧ Below w.heap.size w w' := by
  obtain ⟨k, n, p⟩ := e
  have HE : Hid (enB ⟨k, n, p⟩ = (inB n 1 255 && partB k n p)) := rfl
  have C := hdhid rin_t
  show Calls _ _ #[.agg #[.int .i64 k, .int .i64 n, .int .i64 p]] _ _
  cases hn : inB n 1 255
  · go_enter Try.func72, Try.ntmps72
    go_wp2_with (first | (refine (C.out _ _ _ _).mono ?_; rintro e w' ⟨rfl, rfl⟩) | fail)
    go_ret
    exact ⟨hdBool (by rw [HE.out, hn]; rfl), (Below.refl _ _).alloc (Nat.le_refl _) _⟩
  · have HP : Hid (enB ⟨k, n, p⟩ = partB k n p) := by show _ = _; rw [HE.out, hn]; rfl
    clear HE
    have hk : k = 1 ∨ k = 2 ∨ k = 4 ∨ k = 3 ∨ k = 5 ∨ (k ≠ 1 ∧ k ≠ 2 ∧ k ≠ 4 ∧ k ≠ 3 ∧ k ≠ 5) := by omega
    rcases hk with rfl | rfl | rfl | rfl | rfl | ⟨h1, h2, h4, h3, h5⟩
    · have HQ : Hid (partB 1 n p = inB p 0 587) := rfl
      go_enter Try.func72, Try.ntmps72
      go_wp2_with (first | (refine (C.out _ _ _ _).mono ?_; rintro e w' ⟨rfl, rfl⟩) | fail)
      go_ret
      exact ⟨hdBool (by rw [HP.out, HQ.out]), (Below.refl _ _).alloc (Nat.le_refl _) _⟩
    · have HQ : Hid (partB 2 n p = inB p 0 9) := rfl
      go_enter Try.func72, Try.ntmps72
      go_wp2_with (first | (refine (C.out _ _ _ _).mono ?_; rintro e w' ⟨rfl, rfl⟩) | fail)
      go_ret
      exact ⟨hdBool (by rw [HP.out, HQ.out]), (Below.refl _ _).alloc (Nat.le_refl _) _⟩
    · have HQ : Hid (partB 4 n p = (inB p 0 3 && decide (n = 1))) := rfl
      cases hp : inB p 0 3
      · go_enter Try.func72, Try.ntmps72
        go_wp2_with (first | (refine (C.out _ _ _ _).mono ?_; rintro e w' ⟨rfl, rfl⟩) | fail)
        go_ret
        exact ⟨hdBool (by rw [HP.out, HQ.out, hp]; rfl), (Below.refl _ _).alloc (Nat.le_refl _) _⟩
      · by_cases h1 : n = 1
        · have hb : (n == 1) = true := by simp [h1]
          have HR : Hid (decide (n = 1) = true) := decide_eq_true h1
          clear h1
          go_enter Try.func72, Try.ntmps72
          go_wp2_with (first | (refine (C.out _ _ _ _).mono ?_; rintro e w' ⟨rfl, rfl⟩) | fail)
          go_ret
          exact ⟨hdBool (by rw [HP.out, HQ.out, hp, HR.out]; rfl), (Below.refl _ _).alloc (Nat.le_refl _) _⟩
        · have hb : (n == 1) = false := by simp [h1]
          have HR : Hid (decide (n = 1) = false) := decide_eq_false h1
          clear h1
          go_enter Try.func72, Try.ntmps72
          go_wp2_with (first | (refine (C.out _ _ _ _).mono ?_; rintro e w' ⟨rfl, rfl⟩) | fail)
          go_ret
          exact ⟨hdBool (by rw [HP.out, HQ.out, hp, HR.out]; rfl), (Below.refl _ _).alloc (Nat.le_refl _) _⟩
    · have HQ : Hid (partB 3 n p = decide (p = 0)) := rfl
      have HS : Hid ((p == 0) = decide (p = 0)) := by show _ = _; by_cases h : p = 0 <;> simp [h]
      go_enter Try.func72, Try.ntmps72
      go_wp2_with (first | (refine (C.out _ _ _ _).mono ?_; rintro e w' ⟨rfl, rfl⟩) | fail)
      go_ret
      exact ⟨hdBool (by rw [HP.out, HQ.out, ← HS.out]), (Below.refl _ _).alloc (Nat.le_refl _) _⟩
    · have HQ : Hid (partB 5 n p = decide (p = 0)) := rfl
      have HS : Hid ((p == 0) = decide (p = 0)) := by show _ = _; by_cases h : p = 0 <;> simp [h]
      go_enter Try.func72, Try.ntmps72
      go_wp2_with (first | (refine (C.out _ _ _ _).mono ?_; rintro e w' ⟨rfl, rfl⟩) | fail)
      go_ret
      exact ⟨hdBool (by rw [HP.out, HQ.out, ← HS.out]), (Below.refl _ _).alloc (Nat.le_refl _) _⟩
    · have HQ : Hid (partB k n p = false) := by
        show _ = _
        unfold partB
        rw [if_neg h1, if_neg h2, if_neg h4, if_neg (by omega)]
      have b1 : (k == 1) = false := by simp [h1]
      have b2 : (k == 2) = false := by simp [h2]
      have b3 : (k == 3) = false := by simp [h3]
      have b4 : (k == 4) = false := by simp [h4]
      have b5 : (k == 5) = false := by simp [h5]
      clear h1 h2 h3 h4 h5
      go_enter Try.func72, Try.ntmps72
      go_wp2_with (first | (refine (C.out _ _ _ _).mono ?_; rintro e w' ⟨rfl, rfl⟩) | fail)
      go_ret
      exact ⟨hdBool (by rw [HP.out, HQ.out]), (Below.refl _ _).alloc (Nat.le_refl _) _⟩


set_option maxRecDepth 10000 in
set_option maxHeartbeats 4000000 in
theorem rcheck_t (x : Hd) (v : Value) (w : World) (hE : Ents w v x.list) : Calls Try.prog 57 #[headV x v] w fun e w' => e = .returned (.bool (okB x)) ∧ Below w.heap.size w w' := by
  obtain ⟨house, gen, life, seq, next, clock, sb, sn, l⟩ := x
  have HE0 := hdhid hE
  obtain ⟨ad, cap, rfl, _, hc⟩ := hE
  clear hc
  have HOK : Hid (okB ⟨house, gen, life, seq, next, clock, sb, sn, l⟩ = (decide (l.length ≤ 24) && (l.all enB && (inB house 1 16 && inB gen 1 65535 && inB life 1 1048575 && inB seq 1 1099511627776 && inB next 0 65535 && inB clock 0 1099511627776 && inB sb 0 1099511627777 && inB sn 0 1099511627777)))) := rfl
  have C := hdhid rin_t
  have CE := hdhid rentry_t
  show Calls _ _ #[.agg #[.int .i64 house, .int .i64 gen, .int .i64 life, .int .i64 seq, .int .i64 next, .int .i64 clock, .int .i64 sb, .int .i64 sn, .slice ad l.length cap]] _ _
  go_enter Try.func57, Try.ntmps57
  go_wp2_with fail
  generalize hW : w.alloc _ = W
  have HX : Hid (W.heap[w.heap.size]? = some (.cells (headC ⟨house, gen, life, seq, next, clock, sb, sn, l⟩ (.slice ad l.length cap)) 37 (0, 0))) := by rw [← hW]; exact heap_alloc_new _ _
  have HB : Hid (Below w.heap.size w W) := by rw [← hW]; exact (Below.refl _ w).alloc (Nat.le_refl _) _
  have hw0 : w.heap.size < W.heap.size := by rw [← hW]; simp
  clear hW
  go_loopw [3] (fun c wr => ∃ k : Nat, k ≤ l.length ∧ k ≤ 25 ∧ c = .int .i64 k ∧ Hid ((l.take k).all enB = true) ∧ Hid (Below W.heap.size W wr)) (fun c _ => 25 - (intOf c).toNat)
  case atStart => exact ⟨0, by omega, by omega, rfl, by show _ = _; simp, Below.refl _ _⟩
  case round =>
    obtain ⟨k, hk, hk25, rfl, HA, HBk⟩ := hrel
    obtain ⟨x0, x1, x2, x3, x4, x5, x6, x7, x8⟩ := cells9 (show wr.heap[w.heap.size]? = _ from (HBk.out.block _ hw0).trans HX.out)
    by_cases hlt : k < l.length
    · by_cases h24 : k ≤ 24
      · obtain ⟨ad', cap', hv, _, hc⟩ := (HE0.out.on HB.out).on HBk.out
        cases hv
        obtain ⟨b, off, rfl, hb, hcell⟩ := hc (by show 0 < l.length; omega)
        obtain ⟨c0, c1, c2⟩ := hcell k hlt
        clear hcell hc x0 x1 x2 x3 x4 x5 x6 x7
        have HT := hdhid (all_take_succ hlt HA.out)
        generalize l[k] = y at *
        obtain ⟨kind, node, part⟩ := y
        go_wp2_with fail
        refine (CE.out ⟨kind, node, part⟩ _).mono ?_
        rintro e w1 ⟨rfl, hb1⟩
        have HB1 : Hid (Below W.heap.size W w1) := HBk.out.trans (hb1.mono HBk.out.size)
        clear hb1 c0 c1 c2 x8
        cases he : enB ⟨kind, node, part⟩
        · have HN : Hid (l.all enB = false) := all_take_no (i := k + 1) (by rw [HT.out, he])
          go_wp2_with fail
          go_ret
          exact ⟨hdBool (by rw [HOK.out, HN.out, Bool.false_and, Bool.and_false]), HB.out.trans (HB1.out.mono (by omega))⟩
        · rw [he] at HT
          go_wp2_with fail
          exact ⟨⟨k + 1, by omega, by omega, by go_num, HT, HB1⟩, by simp [intOf]; omega⟩
      · have h24' : decide (k ≤ 24) = false := decide_eq_false h24
        have hl25 : ¬ (l.length ≤ 24) := by omega
        have HBW : Hid (Below w.heap.size w wr) := HB.out.trans (HBk.out.mono (by omega))
        have HN : Hid (okB ⟨house, gen, life, seq, next, clock, sb, sn, l⟩ = false) := by show _ = _; rw [HOK.out, decide_eq_false hl25]; rfl
        clear HE0 HX HB HOK
        go_wp2_with (first | (refine (C.out _ _ _ _).mono ?_; rintro e w' ⟨rfl, rfl⟩) | fail)
        go_ret
        exact ⟨hdBool (by rw [HN.out]), HBW.out⟩
    · have hkl : l.take k = l := List.take_of_length_le (by omega)
      rw [hkl] at HA
      have HBW : Hid (Below w.heap.size w wr) := HB.out.trans (HBk.out.mono (by omega))
      clear HE0 HX HB hkl
      by_cases hl24 : l.length ≤ 24
      · have HOK2 : Hid (okB ⟨house, gen, life, seq, next, clock, sb, sn, l⟩ = (inB house 1 16 && inB gen 1 65535 && inB life 1 1048575 && inB seq 1 1099511627776 && inB next 0 65535 && inB clock 0 1099511627776 && inB sb 0 1099511627777 && inB sn 0 1099511627777)) := by
          show _ = _
          rw [HOK.out, decide_eq_true hl24, Bool.true_and, HA.out, Bool.true_and]
        clear HOK
        go_wp2_with (first | (refine (C.out _ _ _ _).mono ?_; rintro e w' ⟨rfl, rfl⟩) | fail)
        all_goals
          go_ret
          refine ⟨hdBool ?_, HBW.out⟩
          rw [HOK2.out]
          clear HOK2 C CE
          simp only [*, Bool.and_true, Bool.true_and, Bool.and_false, Bool.false_and]
      · have HN : Hid (okB ⟨house, gen, life, seq, next, clock, sb, sn, l⟩ = false) := by show _ = _; rw [HOK.out, decide_eq_false hl24]; rfl
        clear HOK
        go_wp2_with (first | (refine (C.out _ _ _ _).mono ?_; rintro e w' ⟨rfl, rfl⟩) | fail)
        go_ret
        exact ⟨hdBool (by rw [HN.out]), HBW.out⟩

set_option maxHeartbeats 1000000 in
/-- The document's sum. -/
theorem rsum_t (s b : ByteArray) (w : World) (hs : s.size ≤ 100000) (hb : b.size ≤ 100000) :
    Calls Try.prog 41 #[.string s, .string b] w fun e w' => e = .returned (.int .i64 (sumL s.data.toList b.data.toList : Nat)) ∧ w = w' := by
  by_cases h : s.size ≤ 252
  · have hm : min (s.size : Int) 252 = s.size := by omega
    have hx : s.extract 0 s.size = s := by simp
    have h9 : s.size + b.size ≤ 9223372036854775806 := by omega
    have OF := hdhid (refOf (s ++ b) w (by rw [ByteArray.size_append]; omega))
    have HR : Hid (sumL s.data.toList b.data.toList = Sum.crc (s ++ b).data.toList) := by
      show _ = _
      rw [ByteArray.data_append, Array.toList_append, sumL, List.take_of_length_le (by simpa using h)]
    have hc := Sum.crc_lt (s ++ b).data.toList
    generalize Sum.crc (s ++ b).data.toList = c at *
    go_enter Try.func41, Try.ntmps41
    go_wp2_with fail
    refine OF.out.mono ?_
    rintro e w' ⟨rfl, rfl⟩
    go_wp2_with fail
    go_ret
    exact ⟨hdInt (by rw [HR.out]), rfl⟩
  · have hm : min (s.size : Int) 252 = 252 := by omega
    have hxs : (s.extract 0 252).size = 252 := by rw [ByteArray.size_extract]; omega
    have h9 : (s.extract 0 252).size + b.size ≤ 9223372036854775806 := by omega
    have OF := hdhid (refOf (s.extract 0 252 ++ b) w (by rw [ByteArray.size_append]; rw [ByteArray.size_extract]; omega))
    have HR : Hid (sumL s.data.toList b.data.toList = Sum.crc (s.extract 0 252 ++ b).data.toList) := by
      show _ = _
      rw [ByteArray.data_append, Array.toList_append, take_extract, sumL]
    have hc := Sum.crc_lt (s.extract 0 252 ++ b).data.toList
    generalize Sum.crc (s.extract 0 252 ++ b).data.toList = c at *
    go_enter Try.func41, Try.ntmps41
    go_wp2_with fail
    refine OF.out.mono ?_
    rintro e w' ⟨rfl, rfl⟩
    go_wp2_with fail
    go_ret
    exact ⟨hdInt (by rw [HR.out]), rfl⟩

set_option maxHeartbeats 400000 in
/-- A number that is there. -/
theorem rnum_t (s : ByteArray) (a n : Nat) (w : World) (hn : n ≤ 7) (ha : a + n ≤ s.size) (hl : s.size ≤ 9223372036854775807) :
    Calls Try.prog 56 #[.string s, .int .i64 a, .int .i64 n] w fun e w' => e = .returned (.int .i64 (numAt s.data.toList a n)) ∧ w = w' := by
  have G : Hid (Calls Try.prog 71 #[.string s, .int .i64 a, .int .i64 n] w fun e w' => e = .returned (.tuple #[.int .i64 (numAt s.data.toList a n), .bool true]) ∧ w = w') := refGet_t s a n w hn ha hl
  generalize numAt s.data.toList a n = V at *
  go_enter Try.func56, Try.ntmps56
  go_wp2_with fail
  refine G.out.mono ?_
  rintro e w' ⟨rfl, rfl⟩
  go_wp2_with fail
  go_ret
  exact ⟨rfl, rfl⟩
end Go.Proofs.Ytgbgklnlmgpmjaa
