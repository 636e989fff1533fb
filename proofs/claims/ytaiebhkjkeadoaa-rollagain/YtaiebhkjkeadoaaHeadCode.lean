/- A head's small functions walked: within, checkEntry, Check, Sum; how entries lie in memory. -/
import Derived.Test.YtaiebhkjkeadoaaHeadPlain
import Derived.Test.YtaiebhkjkeadoaaCrcCode
import Derived.WalkSpells
import Derived.WalkLawsBesides
import Derived.Below
import Derived.Deep.QuietTactic
import Derived.BigQuiet
namespace Go.Proofs.Ytaiebhkjkeadoaa
open Go.RowKit Rec Hdp

theorem hdhid {P : Prop} (h : P) : Hid P := h
theorem hdBool {a b : Bool} (h : a = b) : Ending.returned (.bool a) = .returned (.bool b) := by rw [h]
theorem hdInt {a b : Int} (h : a = b) : Ending.returned (.int .i64 a) = .returned (.int .i64 b) := by rw [h]

set_option maxHeartbeats 400000 in
theorem within_t (v a b : Int) (w : World) : Calls Try.prog 60 #[.int .i64 v, .int .i64 a, .int .i64 b] w fun e w' => e = .returned (.bool (inB v a b)) ∧ w = w' := by
  by_cases h1 : a ≤ v
  · by_cases h2 : v ≤ b
    · have e : Hid (inB v a b = true) := inB_yes h1 h2
      go_enter Try.func60, Try.ntmps60
      go_wp2
      go_ret
      exact ⟨hdBool e.out.symm, rfl⟩
    · have e : Hid (inB v a b = false) := by show _ = _; simp [inB, h2]
      have d : decide (v ≤ b) = false := by simp; omega
      go_enter Try.func60, Try.ntmps60
      go_wp2
      go_ret
      exact ⟨hdBool e.out.symm, rfl⟩
  · have e : Hid (inB v a b = false) := by show _ = _; simp [inB, h1]
    go_enter Try.func60, Try.ntmps60
    go_wp2
    go_ret
    exact ⟨hdBool e.out.symm, rfl⟩

/-- An entry as a value. -/
abbrev enV (e : En) : Value := .agg #[.int .i64 e.kind, .int .i64 e.node, .int .i64 e.part]
/-- A head as a value, its list's slice v; its cells. -/
abbrev headV (x : Hd) (v : Value) : Value := .agg #[.int .i64 x.house, .int .i64 x.gen, .int .i64 x.life, .int .i64 x.seq, .int .i64 x.next, .int .i64 x.clock, .int .i64 x.sb, .int .i64 x.sn, v]
abbrev headC (x : Hd) (v : Value) : Array Value := #[.int .i64 x.house, .int .i64 x.gen, .int .i64 x.life, .int .i64 x.seq, .int .i64 x.next, .int .i64 x.clock, .int .i64 x.sb, .int .i64 x.sn, v]

set_option maxHeartbeats 2000000 in
theorem entry_t (e : En) (w : World) : Calls Try.prog 59 #[enV e] w fun r w' => r = .returned (.bool (enB e)) ∧ Below w.heap.size w w' := by
  obtain ⟨k, n, p⟩ := e
  have HE : Hid (enB ⟨k, n, p⟩ = (inB n 1 255 && partB k n p)) := rfl
  have C := hdhid within_t
  show Calls _ _ #[.agg #[.int .i64 k, .int .i64 n, .int .i64 p]] _ _
  cases hn : inB n 1 255
  · go_enter Try.func59, Try.ntmps59
    go_wp2_with (first | (refine (C.out _ _ _ _).mono ?_; rintro e w' ⟨rfl, rfl⟩) | fail)
    go_ret
    exact ⟨hdBool (by rw [HE.out, hn]; rfl), (Below.refl _ _).alloc (Nat.le_refl _) _⟩
  · have HP : Hid (enB ⟨k, n, p⟩ = partB k n p) := by show _ = _; rw [HE.out, hn]; rfl
    clear HE
    have hk : k = 1 ∨ k = 2 ∨ k = 4 ∨ k = 3 ∨ k = 5 ∨ (k ≠ 1 ∧ k ≠ 2 ∧ k ≠ 4 ∧ k ≠ 3 ∧ k ≠ 5) := by omega
    rcases hk with rfl | rfl | rfl | rfl | rfl | ⟨h1, h2, h4, h3, h5⟩
    · have HQ : Hid (partB 1 n p = inB p 0 587) := rfl
      go_enter Try.func59, Try.ntmps59
      go_wp2_with (first | (refine (C.out _ _ _ _).mono ?_; rintro e w' ⟨rfl, rfl⟩) | fail)
      go_ret
      exact ⟨hdBool (by rw [HP.out, HQ.out]), (Below.refl _ _).alloc (Nat.le_refl _) _⟩
    · have HQ : Hid (partB 2 n p = inB p 0 9) := rfl
      go_enter Try.func59, Try.ntmps59
      go_wp2_with (first | (refine (C.out _ _ _ _).mono ?_; rintro e w' ⟨rfl, rfl⟩) | fail)
      go_ret
      exact ⟨hdBool (by rw [HP.out, HQ.out]), (Below.refl _ _).alloc (Nat.le_refl _) _⟩
    · have HQ : Hid (partB 4 n p = (inB p 0 3 && decide (n = 1))) := rfl
      cases hp : inB p 0 3
      · go_enter Try.func59, Try.ntmps59
        go_wp2_with (first | (refine (C.out _ _ _ _).mono ?_; rintro e w' ⟨rfl, rfl⟩) | fail)
        go_ret
        exact ⟨hdBool (by rw [HP.out, HQ.out, hp]; rfl), (Below.refl _ _).alloc (Nat.le_refl _) _⟩
      · by_cases h1 : n = 1
        · have hb : (n == 1) = true := by simp [h1]
          have HR : Hid (decide (n = 1) = true) := decide_eq_true h1
          clear h1
          go_enter Try.func59, Try.ntmps59
          go_wp2_with (first | (refine (C.out _ _ _ _).mono ?_; rintro e w' ⟨rfl, rfl⟩) | fail)
          go_ret
          exact ⟨hdBool (by rw [HP.out, HQ.out, hp, HR.out]; rfl), (Below.refl _ _).alloc (Nat.le_refl _) _⟩
        · have hb : (n == 1) = false := by simp [h1]
          have HR : Hid (decide (n = 1) = false) := decide_eq_false h1
          clear h1
          go_enter Try.func59, Try.ntmps59
          go_wp2_with (first | (refine (C.out _ _ _ _).mono ?_; rintro e w' ⟨rfl, rfl⟩) | fail)
          go_ret
          exact ⟨hdBool (by rw [HP.out, HQ.out, hp, HR.out]; rfl), (Below.refl _ _).alloc (Nat.le_refl _) _⟩
    · have HQ : Hid (partB 3 n p = decide (p = 0)) := rfl
      have HS : Hid ((p == 0) = decide (p = 0)) := by show _ = _; by_cases h : p = 0 <;> simp [h]
      go_enter Try.func59, Try.ntmps59
      go_wp2_with (first | (refine (C.out _ _ _ _).mono ?_; rintro e w' ⟨rfl, rfl⟩) | fail)
      go_ret
      exact ⟨hdBool (by rw [HP.out, HQ.out, ← HS.out]), (Below.refl _ _).alloc (Nat.le_refl _) _⟩
    · have HQ : Hid (partB 5 n p = decide (p = 0)) := rfl
      have HS : Hid ((p == 0) = decide (p = 0)) := by show _ = _; by_cases h : p = 0 <;> simp [h]
      go_enter Try.func59, Try.ntmps59
      go_wp2_with (first | (refine (C.out _ _ _ _).mono ?_; rintro e w' ⟨rfl, rfl⟩) | fail)
      go_ret
      exact ⟨hdBool (by rw [HP.out, HQ.out, ← HS.out]), (Below.refl _ _).alloc (Nat.le_refl _) _⟩
    · have HQ : Hid (partB k n p = false) := by
        show _ = _
        unfold partB
        rw [if_neg h1, if_neg h2, if_neg h4, if_neg (by omega)]
      have b1 : (k == 1) = false := by simp [h1]
      have b2 : (k == 2) = false := by simp [h2]
      have b3 : (k == 3) = false := by simp [h3]
      have b4 : (k == 4) = false := by simp [h4]
      have b5 : (k == 5) = false := by simp [h5]
      clear h1 h2 h3 h4 h5
      go_enter Try.func59, Try.ntmps59
      go_wp2_with (first | (refine (C.out _ _ _ _).mono ?_; rintro e w' ⟨rfl, rfl⟩) | fail)
      go_ret
      exact ⟨hdBool (by rw [HP.out, HQ.out]), (Below.refl _ _).alloc (Nat.le_refl _) _⟩

/-- Entries that lie as a slice. -/
def Ents (w : World) (v : Value) (l : List En) : Prop :=
  ∃ ad cap, v = .slice ad l.length cap ∧ (ad = none → cap = 0) ∧ (0 < l.length → ∃ b off, ad = some ⟨b, off, none⟩ ∧ b < w.heap.size ∧ ∀ i (h : i < l.length), w.cell? ⟨b, off + i * 3, none⟩ = some (.int .i64 l[i].kind) ∧ w.cell? ⟨b, off + i * 3 + 1, none⟩ = some (.int .i64 l[i].node) ∧ w.cell? ⟨b, off + i * 3 + 2, none⟩ = some (.int .i64 l[i].part))

theorem Ents.nil (w : World) : Ents w (.slice none 0 0) [] := ⟨none, 0, rfl, fun _ => rfl, fun h => absurd h (by simp)⟩
theorem Ents.on {w w' : World} {v : Value} {l : List En} (h : Ents w v l) (k : Below w.heap.size w w') : Ents w' v l := by
  obtain ⟨ad, cap, hv, hn, hc⟩ := h
  refine ⟨ad, cap, hv, hn, fun hl => ?_⟩
  obtain ⟨b, off, ha, hb, hi⟩ := hc hl
  refine ⟨b, off, ha, Nat.lt_of_lt_of_le hb k.size, fun i h => ?_⟩
  obtain ⟨h0, h1, h2⟩ := hi i h
  exact ⟨by rw [k.cell hb]; exact h0, by rw [k.cell hb]; exact h1, by rw [k.cell hb]; exact h2⟩

/-- A head's cells, one by one. -/
theorem cells9 {w : World} {b : Nat} {house gen life seq next clock sb sn : Int} {v : Value} {l : List En} {t : TypeId} (h : w.heap[b]? = some (.cells (headC ⟨house, gen, life, seq, next, clock, sb, sn, l⟩ v) t (0, 0))) :
    w.cell? ⟨b, 0, none⟩ = some (.int .i64 house) ∧ w.cell? ⟨b, 1, none⟩ = some (.int .i64 gen) ∧ w.cell? ⟨b, 2, none⟩ = some (.int .i64 life) ∧ w.cell? ⟨b, 3, none⟩ = some (.int .i64 seq) ∧ w.cell? ⟨b, 4, none⟩ = some (.int .i64 next) ∧ w.cell? ⟨b, 5, none⟩ = some (.int .i64 clock) ∧ w.cell? ⟨b, 6, none⟩ = some (.int .i64 sb) ∧ w.cell? ⟨b, 7, none⟩ = some (.int .i64 sn) ∧ w.cell? ⟨b, 8, none⟩ = some v :=
  ⟨(cell_of_row w _ _ _ _ _ h).trans rfl, (cell_of_row w _ _ _ _ _ h).trans rfl, (cell_of_row w _ _ _ _ _ h).trans rfl, (cell_of_row w _ _ _ _ _ h).trans rfl, (cell_of_row w _ _ _ _ _ h).trans rfl, (cell_of_row w _ _ _ _ _ h).trans rfl, (cell_of_row w _ _ _ _ _ h).trans rfl, (cell_of_row w _ _ _ _ _ h).trans rfl, (cell_of_row w _ _ _ _ _ h).trans rfl⟩

theorem all_take_succ {l : List En} {i : Nat} (hi : i < l.length) (h : (l.take i).all enB = true) : (l.take (i + 1)).all enB = enB l[i] := by
  rw [List.take_succ_eq_append_getElem hi, List.all_append, h]
  simp
theorem all_take_no {l : List En} {i : Nat} (h : (l.take i).all enB = false) : l.all enB = false := by
  rw [List.all_eq_false] at h ⊢
  obtain ⟨x, hx, hn⟩ := h
  exact ⟨x, List.mem_of_mem_take hx, hn⟩

set_option maxRecDepth 10000 in
set_option maxHeartbeats 2000000 in
theorem hcheck_t (x : Hd) (v : Value) (w : World) (hE : Ents w v x.list) : Calls Try.prog 47 #[headV x v] w fun e w' => e = .returned (.bool (okB x)) ∧ Below w.heap.size w w' := by
  obtain ⟨house, gen, life, seq, next, clock, sb, sn, l⟩ := x
  have HE0 := hdhid hE
  obtain ⟨ad, cap, rfl, _, hc⟩ := hE
  clear hc
  have HOK : Hid (okB ⟨house, gen, life, seq, next, clock, sb, sn, l⟩ = (decide (l.length ≤ 24) && (l.all enB && (inB house 1 16 && inB gen 1 65535 && inB life 1 1048575 && inB seq 1 1099511627776 && inB next 0 65535 && inB clock 0 1099511627776 && inB sb 0 1099511627777 && inB sn 0 1099511627777)))) := rfl
  have C := hdhid within_t
  have CE := hdhid entry_t
  show Calls _ _ #[.agg #[.int .i64 house, .int .i64 gen, .int .i64 life, .int .i64 seq, .int .i64 next, .int .i64 clock, .int .i64 sb, .int .i64 sn, .slice ad l.length cap]] _ _
  by_cases hlen : 24 < l.length
  · go_enter Try.func47, Try.ntmps47
    go_wp2_with fail
    go_ret
    exact ⟨hdBool (by rw [HOK.out, decide_eq_false (by omega)]; rfl), (Below.refl _ _).alloc (Nat.le_refl _) _⟩
  have hlen2 : l.length ≤ 24 := by omega
  have HOK2 : Hid (okB ⟨house, gen, life, seq, next, clock, sb, sn, l⟩ = (l.all enB && (inB house 1 16 && inB gen 1 65535 && inB life 1 1048575 && inB seq 1 1099511627776 && inB next 0 65535 && inB clock 0 1099511627776 && inB sb 0 1099511627777 && inB sn 0 1099511627777))) := by
    show _ = _
    rw [HOK.out, decide_eq_true hlen2, Bool.true_and]
  clear HOK
  go_enter Try.func47, Try.ntmps47
  go_wp2_with fail
  generalize hW : w.alloc _ = W
  have HX : Hid (W.heap[w.heap.size]? = some (.cells (headC ⟨house, gen, life, seq, next, clock, sb, sn, l⟩ (.slice ad l.length cap)) 43 (0, 0))) := by rw [← hW]; exact heap_alloc_new _ _
  have HB : Hid (Below w.heap.size w W) := by rw [← hW]; exact (Below.refl _ w).alloc (Nat.le_refl _) _
  have hw0 : w.heap.size < W.heap.size := by rw [← hW]; simp
  clear hW
  go_loopw [12] (fun c wr => ∃ k : Nat, k ≤ l.length ∧ c = .int .i64 k ∧ Hid ((l.take k).all enB = true) ∧ Hid (Below W.heap.size W wr)) (fun c _ => l.length - (intOf c).toNat)
  case atStart => exact ⟨0, by omega, rfl, by show _ = _; simp, Below.refl _ _⟩
  case round =>
    obtain ⟨k, hk, rfl, HA, HBk⟩ := hrel
    by_cases hlt : k < l.length
    · obtain ⟨ad', cap', hv, _, hc⟩ := (HE0.out.on HB.out).on HBk.out
      cases hv
      obtain ⟨b, off, rfl, hb, hcell⟩ := hc (by omega)
      obtain ⟨c0, c1, c2⟩ := hcell k hlt
      clear hcell hc
      have HT := hdhid (all_take_succ hlt HA.out)
      generalize l[k] = y at *
      obtain ⟨kind, node, part⟩ := y
      go_wp2_with fail
      refine (CE.out ⟨kind, node, part⟩ _).mono ?_
      rintro e w1 ⟨rfl, hb1⟩
      have HB1 : Hid (Below W.heap.size W w1) := (HBk.out.alloc HBk.out.size _).trans (hb1.mono (by have := HBk.out.size; simp; omega))
      clear hb1 c0 c1 c2
      cases he : enB ⟨kind, node, part⟩
      · have HN : Hid (l.all enB = false) := all_take_no (i := k + 1) (by rw [HT.out, he])
        go_wp2_with fail
        go_ret
        exact ⟨hdBool (by rw [HOK2.out, HN.out]; rfl), HB.out.trans (HB1.out.mono (by omega))⟩
      · rw [he] at HT
        go_wp2_with fail
        exact ⟨⟨k + 1, by omega, by go_num, HT, HB1⟩, by simp [intOf]; omega⟩
    · have hkl : l.take k = l := List.take_of_length_le (by omega)
      rw [hkl] at HA
      have HBW : Hid (Below w.heap.size w wr) := HB.out.trans (HBk.out.mono (by omega))
      obtain ⟨x0, x1, x2, x3, x4, x5, x6, x7, x8⟩ := cells9 (show wr.heap[w.heap.size]? = _ from (HBk.out.block _ hw0).trans HX.out)
      clear HE0 HX HB hkl
      go_wp2_with (first | (refine (C.out _ _ _ _).mono ?_; rintro e w' ⟨rfl, rfl⟩) | fail)
      all_goals
        go_ret
        refine ⟨hdBool ?_, HBW.out⟩
        rw [HOK2.out, HA.out]
        clear HOK2 C CE
        simp only [*, Bool.and_true, Bool.true_and, Bool.and_false, Bool.false_and]

theorem take_extract (s : ByteArray) (k : Nat) : (s.extract 0 k).data.toList = s.data.toList.take k := by
  simp [ByteArray.data_extract]

set_option maxHeartbeats 1000000 in
/-- The sum of a block's beginning and what stands behind. -/
theorem hsum_t (s b : ByteArray) (w : World) (hs : s.size ≤ 1125899906842624) (hb : b.size ≤ 1125899906842624) :
    Calls Try.prog 50 #[.string s, .string b] w fun e w' => e = .returned (.int .i64 (sumL s.data.toList b.data.toList : Nat)) ∧ w = w' := by
  by_cases h : s.size ≤ 252
  · have hm : min (s.size : Int) 252 = s.size := by omega
    have hx : s.extract 0 s.size = s := by simp
    have HR : Hid (sumL s.data.toList b.data.toList = Sum.more (Sum.crc s.data.toList) b.data.toList) := by
      show _ = _
      rw [Sum.more_crc, sumL, List.take_of_length_le (by simpa using h)]
    have hc := Sum.crc_lt s.data.toList
    have hc2 := Sum.more_lt hc b.data.toList
    have OF := hdhid (of_t s w hs)
    have MO := hdhid (more_t _ b w hc hb)
    generalize Sum.more (Sum.crc s.data.toList) b.data.toList = m at *
    generalize Sum.crc s.data.toList = c at *
    go_enter Try.func50, Try.ntmps50
    go_wp2_with fail
    refine OF.out.mono ?_
    rintro e w' ⟨rfl, rfl⟩
    go_wp2_with fail
    refine MO.out.mono ?_
    rintro e w' ⟨rfl, rfl⟩
    go_wp2_with fail
    go_ret
    exact ⟨hdInt (by rw [HR.out]), rfl⟩
  · have hm : min (s.size : Int) 252 = 252 := by omega
    obtain ⟨S, hS⟩ : ∃ S, S = s.extract 0 252 := ⟨_, rfl⟩
    have hS2 : S.data.toList = s.data.toList.take 252 := by rw [hS, take_extract]
    have HR : Hid (sumL s.data.toList b.data.toList = Sum.more (Sum.crc S.data.toList) b.data.toList) := by
      show _ = _
      rw [Sum.more_crc, sumL, hS2]
    have hSs : S.size ≤ 1125899906842624 := by rw [hS, ByteArray.size_extract]; omega
    have hc := Sum.crc_lt S.data.toList
    have hc2 := Sum.more_lt hc b.data.toList
    have OF := hdhid (of_t S w hSs)
    have MO := hdhid (more_t _ b w hc hb)
    generalize Sum.more (Sum.crc S.data.toList) b.data.toList = m at *
    generalize Sum.crc S.data.toList = c at *
    rw [hS] at OF
    clear hS2 hS hSs
    go_enter Try.func50, Try.ntmps50
    go_wp2_with fail
    refine OF.out.mono ?_
    rintro e w' ⟨rfl, rfl⟩
    go_wp2_with fail
    refine MO.out.mono ?_
    rintro e w' ⟨rfl, rfl⟩
    go_wp2_with fail
    go_ret
    exact ⟨hdInt (by rw [HR.out]), rfl⟩
end Go.Proofs.Ytaiebhkjkeadoaa
