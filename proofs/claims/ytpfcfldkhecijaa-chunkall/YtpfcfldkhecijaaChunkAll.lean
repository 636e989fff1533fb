/- ChunkAll walked: any head, any blocks, any bytes: the program's answers are the document's. -/
import Derived.Test.YtpfcfldkhecijaaChunkRef
import Derived.Test.YtpfcfldkhecijaaChunkAwake
import Derived.Test.YtpfcfldkhecijaaChunkSame
import Derived.Test.YtpfcfldkhecijaaHeadSame
import Derived.Deep.RegionLaw
namespace Go.Proofs.Ytpfcfldkhecijaa
open Go.RowKit Rec Hdp Chk

/-- What few's answer says. -/
def FewAns (n : Nat) (l : List ByteArray) (e : Ending) : Prop := ∃ B, e = .returned (.bool B) ∧ (B = true → n ≤ 30 ∧ l.length ≤ 30 ∧ ∀ b ∈ l, b.size ≤ 300)
theorem FewAns.no (n : Nat) (l : List ByteArray) : FewAns n l (.returned (.bool false)) := ⟨false, rfl, fun h => by cases h⟩
theorem FewAns.yes {n : Nat} {l : List ByteArray} (h : n ≤ 30 ∧ l.length ≤ 30 ∧ ∀ b ∈ l, b.size ≤ 300) : FewAns n l (.returned (.bool true)) := ⟨true, rfl, fun _ => h⟩

set_option maxRecDepth 10000 in
set_option maxHeartbeats 2000000 in
theorem few_t13 (x : Hd) (ad : Option Addr) (n cap : Nat) (bv : Value) (l : List ByteArray) (w : World) (hT : Txts w bv l) (hl : l.length ≤ 9223372036854775807) (hn : n ≤ 9223372036854775807) :
    Calls Try.prog 7 #[headV x (.slice ad n cap), bv] w fun e w' => FewAns n l e ∧ Below w.heap.size w w' := by
  obtain ⟨bad, bcap, rfl, _, _, hT2⟩ := hT
  have HT2 := hdhid hT2
  clear hT2
  obtain ⟨house, gen, life, seq, next, clock, sb, sn, el⟩ := x
  show Calls _ _ #[.agg #[.int .i64 house, .int .i64 gen, .int .i64 life, .int .i64 seq, .int .i64 next, .int .i64 clock, .int .i64 sb, .int .i64 sn, .slice ad n cap], _] _ _
  go_enter Try.func7, Try.ntmps7
  go_wp2_with fail
  generalize hW : World.alloc w _ = w0
  have HX0 : Hid (w0.heap[w.heap.size]? = some (.cells (headC ⟨house, gen, life, seq, next, clock, sb, sn, el⟩ (.slice ad n cap)) 24 (0, 0))) := by rw [← hW]; exact heap_alloc_new _ _
  have HB0 : Hid (Below w.heap.size w w0) := by rw [← hW]; exact (Below.refl _ w).alloc (Nat.le_refl _) _
  clear hW
  go_loopw [5] (fun c wr => ∃ i : Nat, i ≤ l.length ∧ i ≤ 30 ∧ c = .int .i64 i ∧ Hid (∀ j (h : j < l.length), j < i → l[j].size ≤ 300) ∧ w0 = wr) (fun c _ => 30 - (intOf c).toNat)
  case atStart => exact ⟨0, by omega, by omega, rfl, (fun j _ h => absurd h (by omega)), rfl⟩
  case round =>
    obtain ⟨i, hi, hi30, rfl, HA, rfl⟩ := hrel
    by_cases h1 : i < l.length
    · by_cases h2 : i < 30
      · obtain ⟨b, off, rfl, hb, hcell⟩ := HT2.out (by omega)
        have hx := hcell i h1
        rw [← HB0.out.cell hb] at hx
        have hb0 : b < w0.heap.size := Nat.lt_of_lt_of_le hb HB0.out.size
        have HY : Hid (l[i].size ≤ 300 → ∀ j (h : j < l.length), j < i + 1 → l[j].size ≤ 300) := fun h j hj hji => by
          by_cases e : j = i
          · subst e
            exact h
          · exact HA.out j hj (by omega)
        clear hcell HA
        generalize l[i] = X at *
        by_cases h3 : X.size ≤ 300
        · have HA2 := hdhid (HY.out h3)
          have hn1 : ¬ (300 : Int) < (X.size : Int) := by omega
          clear HY HT2 HX0 h3
          go_wp2_with fail
          exact ⟨⟨i + 1, by omega, by omega, by go_num, HA2, trivial⟩, by simp [intOf]; omega⟩
        · have hn1 : (300 : Int) < (X.size : Int) := by omega
          clear HY HT2 HX0 h3
          go_wp2_with fail
          go_ret
          exact ⟨FewAns.no _ _, HB0.out⟩
      · obtain ⟨x0, x1, x2, x3, x4, x5, x6, x7, x8⟩ := cells9 HX0.out
        have hd1 : decide ((i : Int) < 30) = false := decide_eq_false (by omega)
        have hl30 : ¬ (l.length : Int) ≤ 30 := by omega
        clear HT2 HA
        by_cases hn30 : n ≤ 30
        · have hn1 : (n : Int) ≤ 30 := by omega
          go_wp2_with fail
          go_ret
          exact ⟨FewAns.no _ _, HB0.out⟩
        · have hn1 : ¬ (n : Int) ≤ 30 := by omega
          go_wp2_with fail
          go_ret
          exact ⟨FewAns.no _ _, HB0.out⟩
    · obtain ⟨x0, x1, x2, x3, x4, x5, x6, x7, x8⟩ := cells9 HX0.out
      have hil : i = l.length := by omega
      have hd1 : decide ((i : Int) < (l.length : Int)) = false := decide_eq_false (by omega)
      have hl30 : (l.length : Int) ≤ 30 := by omega
      have HF : Hid (n ≤ 30 → n ≤ 30 ∧ l.length ≤ 30 ∧ ∀ b ∈ l, b.size ≤ 300) := fun hn30 => ⟨hn30, by omega, fun b hb => by
        obtain ⟨j, hj, rfl⟩ := List.mem_iff_getElem.1 hb
        exact HA.out j hj (by omega)⟩
      clear HT2 HA
      by_cases hn30 : n ≤ 30
      · have hn1 : (n : Int) ≤ 30 := by omega
        go_wp2_with fail
        go_ret
        exact ⟨FewAns.yes (HF.out hn30), HB0.out⟩
      · have hn1 : ¬ (n : Int) ≤ 30 := by omega
        go_wp2_with fail
        go_ret
        exact ⟨FewAns.no _ _, HB0.out⟩

/-- append(nil, texts...) in a region that draws its order. -/
theorem step_append_txts {ops : Array Oper} {o : Oper} {a : Act} {w : World} {K : Act → World → Prop} {Q : Exit → Act → World → Prop} {E : Prop} (hgd : o.guard = none) (s x : Operand)
    (ho : o.op = .call { callee := .builtin .append, args := #[s, x], argTypes := #[25, 25] })
    (y : Value) (l : List ByteArray) (hs : a.eval s = .slice none 0 0) (hx : a.eval x = y) (hl : Txts w y l) (hb : l.length ≤ 200000)
    (h : ∀ v' w', TOwn w' w.heap.size v' l → Below w.heap.size w w' → K (a.put o.dst v') w') :
    if Region.wanted o (yielded ops a.tmps) = true then Oper.wp Try.prog o a w K Q else E := by
  have hw : Region.wanted o (yielded ops a.tmps) = true := by simp [Region.wanted, hgd]
  rw [if_pos hw]
  obtain ⟨j0, hj0, hy0, hy1, hy2⟩ := info_parts Try.tinfo9
  obtain ⟨ad, cap, rfl, hn, _, hc⟩ := hl
  cases ad with
  | none =>
    have h0 : cap = 0 := hn rfl
    subst h0
    have hl0 : l.length = 0 := by
      rcases Nat.eq_zero_or_pos l.length with h | h
      · exact h
      · obtain ⟨b, off, ha, _⟩ := hc h
        cases ha
    have hnil : l = [] := List.length_eq_zero_iff.1 hl0
    subst hnil
    have hrun := run_append_owned_none (P := Try.prog) (w := w) w.heap.size 25 o.type 9 j0 1 Try.underlying25 hj0 (.slice none 0 0) 0 [] (TOwn.nil w w.heap.size)
    unfold Oper.wp execOp
    simp only [ho, resolve, invoke, builtin, Sem.run_bind, Sem.run_pure, Result.andThen_ok, List.map_toArray, List.map_cons, List.map_nil, hs, hx, List.length_nil, hrun]
    exact h _ w (TOwn.nil _ _) (Below.refl _ _)
  | some sad =>
    refine wp_append_own w s x 25 ho w.heap.size 9 j0 _ 1 16 Try.underlying25 hj0 hy0 hy1 hy2 rfl (by decide) (.slice none 0 0) 0 [] hs (TOwn.nil w w.heap.size) sad l.length cap (tcells l) hx (by rw [tcells_length]; omega) ?_ (tcells_all l) (by unfold maxLen; omega) (by omega) (Nat.le_refl _) ?_
    · intro j u hj
      have hjl : j < l.length := by
        rw [← tcells_length]
        exact (List.getElem?_eq_some_iff.1 hj).1
      obtain ⟨b, off, ha, hb, hi⟩ := hc (by omega)
      cases ha
      rw [tcells_get l j hjl] at hj
      rw [← hj, tx_addr]
      exact hi j hjl
    · intro v' w' h2 h3 _
      refine h v' w' ?_ ((Below.refl _ w).grown h3 (Nat.le_refl _) (fun k hk => by simp [Value.ownBlock] at hk))
      rw [Nat.zero_add, List.nil_append] at h2
      exact h2

set_option maxRecDepth 20000 in
set_option maxHeartbeats 8000000 in
theorem chunkAll_t (x : Hd) (vl bv : Value) (l : List ByteArray) (s : ByteArray) (w : World) (hE : Ents w vl x.list) (hT : Txts w bv l) (hxl : x.list.length ≤ 9223372036854775807) (hl : l.length ≤ 9223372036854775807) (hs : s.size ≤ 9223372036854775807) :
    Calls Try.prog 3 #[headV x vl, bv, .string s] w fun e w' => e = .returned (.bool true) ∧ Below w.heap.size w w' := by
  have HEI := hdhid hE
  have HTI := hdhid hT
  obtain ⟨ad, cap, rfl, _, hc⟩ := hE
  clear hc
  have FEW := hdhid (fun w1 (h : Txts w1 bv l) => few_t13 x ad x.list.length cap bv l w1 h hl hxl)
  have AW := hdhid awake_t
  have MK := hdhid (fun v u w1 (h : Ents w1 v x.list) (h' : Txts w1 u l) (hl : l.length ≤ 30) => make_t x v u l w1 h h' (by omega))
  have RM := hdhid (fun v u w1 (h : Ents w1 v x.list) (h' : Txts w1 u l) (hl : l.length ≤ 30) => rmake_t x v u l w1 h h' (by omega))
  have PA := hdhid (fun w1 (h : s.size ≤ 10000) => parse_t s w1 (by omega))
  have RP := hdhid (fun w1 (h : s.size ≤ 10000) => rparse_t s w1 (by omega))
  have hXl := parX_len s
  have SA := hdhid (fun v v' w1 (h : Ents w1 v (parX s).list) (h' : Ents w1 v' (parX s).list) => same_t (parX s) v v' w1 h h' (by omega))
  have HPL : Hid ((parL s).length ≤ 24) := by
    show _ ≤ _
    cases h : parB s
    · rw [parL_no h]
      exact Nat.zero_le _
    · rw [parL_yes h, cutL_length]
      exact getX_len _
  have SS := hdhid (fun v u w1 h h' => sameTxts_yes v u (parL s) w1 (by have := HPL.out; omega) h h')
  clear HPL
  generalize parX s = X at *
  generalize parL s = PL at *
  generalize parB s = pb at *
  generalize makeS x l = MS at *
  generalize makeB x l = MB at *
  obtain ⟨house, gen, life, seq, next, clock, sb, sn, el⟩ := x
  obtain ⟨u0, u1, u2, u3, u4, u5, u6, u7, k⟩ := X
  obtain ⟨bad, bcap, rfl, -, -, -⟩ := hT
  clear hXl
  show Calls _ _ #[.agg #[.int .i64 house, .int .i64 gen, .int .i64 life, .int .i64 seq, .int .i64 next, .int .i64 clock, .int .i64 sb, .int .i64 sn, .slice ad el.length cap], _, _] _ _
  go_enter Try.func3, Try.ntmps3
  go_wp2_with fail
  generalize hW : World.alloc w _ = w0
  have HX0 : Hid (w0.heap[w.heap.size]? = some (.cells (headC ⟨house, gen, life, seq, next, clock, sb, sn, el⟩ (.slice ad el.length cap)) 24 (0, 0))) := by rw [← hW]; exact heap_alloc_new _ _
  have HB0 : Hid (Below w.heap.size w w0) := by rw [← hW]; exact (Below.refl _ w).alloc (Nat.le_refl _) _
  have hw0 : w.heap.size < w0.heap.size := by rw [← hW]; simp
  have HE0 := hdhid (HEI.out.on HB0.out)
  have HT0 := hdhid (HTI.out.on HB0.out)
  clear hW HEI HTI
  refine (FEW.out _ HT0.out).mono ?_
  rintro e w1 ⟨⟨B, rfl, hB⟩, hb⟩
  have HFB := hdhid hB
  have HX1 : Hid (w1.heap[w.heap.size]? = some (.cells (headC ⟨house, gen, life, seq, next, clock, sb, sn, el⟩ (.slice ad el.length cap)) 24 (0, 0))) := (hb.block _ hw0).trans HX0.out
  have HB1 : Hid (Below w.heap.size w w1) := HB0.out.trans (hb.mono (by omega))
  have HE1 := hdhid (HE0.out.on hb)
  have HT1 := hdhid (HT0.out.on hb)
  have hw1 : w.heap.size < w1.heap.size := by have := hb.size; omega
  clear hB hb HX0 HB0 HE0 HT0 FEW hw0
  by_cases hgo : B = true ∧ s.size ≤ 10000
  · obtain ⟨hBt, hs4⟩ := hgo
    subst hBt
    obtain ⟨hel, hl30, -⟩ := HFB.out rfl
    have hs5 : ¬ (10000 : Int) < (s.size : Int) := by omega
    have hs6 : decide ((10000 : Int) < (s.size : Int)) = false := decide_eq_false hs5
    clear HFB hs hl hxl
    obtain ⟨x0, x1, x2, x3, x4, x5, x6, x7, x8⟩ := cells9 HX1.out
    go_wp2_with fail
    have hp : Below w1.heap.size w1 w1 := Below.refl _ _
    go_region_law ((first
      | (go_simp; refine (MK.out (.slice ad el.length cap) _ _ (HE1.out.on ⟨hp.os, hp.tape, hp.output, hp.size, hp.block⟩) hT2.out hl30).mono ?_; rintro e y1 ⟨rfl, qb⟩; have hp := hp.trans (Below.mono (show Below _ _ y1 from ⟨qb.os, qb.tape, qb.output, qb.size, qb.block⟩) hp.size); dsimp only)
      | (refine step_append_txts (by rfl) _ _ (by rfl) _ l (by rfl) (by rfl) (by exact HT1.out) (by omega) ?_; intro bv2 y2 hTT qb; have hT2 := hdhid hTT.txts; have hp := hp.trans (Below.mono (show Below _ _ y2 from ⟨qb.os, qb.tape, qb.output, qb.size, qb.block⟩) hp.size); obtain ⟨x0, x1, x2, x3, x4, x5, x6, x7, x8⟩ := cells9 ((hp.block _ hw1).trans HX1.out))))
    all_goals
      have HX2 : Hid (y1.heap[w.heap.size]? = some (.cells (headC ⟨house, gen, life, seq, next, clock, sb, sn, el⟩ (.slice ad el.length cap)) 24 (0, 0))) := (hp.block _ hw1).trans HX1.out
      have HB2 : Hid (Below w.heap.size w y1) := HB1.out.trans (hp.mono (by omega))
      have HE2 : Hid (Ents y1 (.slice ad el.length cap) el) := HE1.out.on hp
      have HT2 : Hid (Txts y1 (.slice bad l.length bcap) l) := HT1.out.on hp
      have hw2 : w.heap.size < y1.heap.size := by have := hp.size; omega
      clear HX1 HB1 HE1 HT1 hw1 hp qb MK hT2 hTT
      obtain ⟨x0, x1, x2, x3, x4, x5, x6, x7, x8⟩ := cells9 HX2.out
      go_wp2_with fail
      refine (RM.out (.slice ad el.length cap) _ _ HE2.out HT2.out hl30).mono ?_
      rintro e w3 ⟨rfl, hb⟩
      have HB3 : Hid (Below w.heap.size w w3) := HB2.out.trans (hb.mono (by omega))
      clear hb HX2 HB2 HE2 HT2 RM x0 x1 x2 x3 x4 x5 x6 x7 x8 hw2
      go_wp2_with fail
      refine (PA.out _ hs4).mono ?_
      rintro e w4 ⟨pv, pw, rfl, hEp, hTp, hb⟩
      have HPE := hdhid hEp
      have HPT := hdhid hTp.txts
      obtain ⟨adp, capp, rfl, -, -⟩ := hEp
      obtain ⟨badp, bcapp, rfl⟩ := hTp.slice
      have HB4 : Hid (Below w.heap.size w w4) := HB3.out.trans (hb.mono HB3.out.size)
      clear hTp hb HB3 PA
      go_wp2_with fail
      generalize hV : World.alloc w4 _ = V4
      have HP4 : Hid (V4.heap[w4.heap.size]? = some (.cells (headC ⟨u0, u1, u2, u3, u4, u5, u6, u7, k⟩ (.slice adp k.length capp)) 24 (0, 0))) := by rw [← hV]; exact heap_alloc_new _ _
      have hb4 : Below w4.heap.size w4 V4 := by rw [← hV]; exact (Below.refl _ w4).alloc (Nat.le_refl _) _
      have hv4 : w4.heap.size < V4.heap.size := by rw [← hV]; simp
      have HPE4 := hdhid (HPE.out.on hb4)
      have HPT4 := hdhid (HPT.out.on hb4)
      have HB5 : Hid (Below w.heap.size w V4) := HB4.out.trans (hb4.mono HB4.out.size)
      clear hV hb4 HPE HPT HB4
      refine (RP.out _ hs4).mono ?_
      rintro e w5 ⟨qv, qw, rfl, hEq, hTq, hb⟩
      have HQE := hdhid hEq
      have HQT := hdhid hTq.txts
      obtain ⟨adq, capq, rfl, -, -⟩ := hEq
      obtain ⟨badq, bcapq, rfl⟩ := hTq.slice
      have HP5 : Hid (w5.heap[w4.heap.size]? = some (.cells (headC ⟨u0, u1, u2, u3, u4, u5, u6, u7, k⟩ (.slice adp k.length capp)) 24 (0, 0))) := (hb.block _ hv4).trans HP4.out
      have HPE5 := hdhid (HPE4.out.on hb)
      have HPT5 := hdhid (HPT4.out.on hb)
      have HB6 : Hid (Below w.heap.size w w5) := HB5.out.trans (hb.mono HB5.out.size)
      have hv5 : w4.heap.size < w5.heap.size := by have := hb.size; omega
      clear hTq hb HB5 RP HP4 HPE4 HPT4 hv4
      have HZ : Hid (∀ V5, V5 = w5.alloc (.cells (headC ⟨u0, u1, u2, u3, u4, u5, u6, u7, k⟩ (.slice adq k.length capq)) 24) → V5.heap[w5.heap.size]? = some (.cells (headC ⟨u0, u1, u2, u3, u4, u5, u6, u7, k⟩ (.slice adq k.length capq)) 24 (0, 0)) ∧ V5.heap[w4.heap.size]? = some (.cells (headC ⟨u0, u1, u2, u3, u4, u5, u6, u7, k⟩ (.slice adp k.length capp)) 24 (0, 0))) := fun V5 h => by
        rw [h]
        exact ⟨heap_alloc_new _ _, (heap_alloc_old _ _ hv5).trans HP5.out⟩
      obtain ⟨hz1, hz2⟩ := HZ.out _ rfl
      obtain ⟨z0, z1, z2, z3, z4, z5, z6, z7, z8⟩ := cells9 hz1
      obtain ⟨p0, p1, p2, p3, p4, p5, p6, p7, p8⟩ := cells9 hz2
      have HV5 : Hid (Below w5.heap.size w5 (w5.alloc (.cells (headC ⟨u0, u1, u2, u3, u4, u5, u6, u7, k⟩ (.slice adq k.length capq)) 24))) := (Below.refl _ w5).alloc (Nat.le_refl _) _
      clear hz1 hz2 HZ HP5
      go_wp2_with fail
      refine (SA.out _ _ _ (HPE5.out.on HV5.out) (HQE.out.on HV5.out)).mono ?_
      rintro e w6 ⟨rfl, hb⟩
      have HB7 : Hid (Below w5.heap.size w5 w6) := HV5.out.trans (hb.mono HV5.out.size)
      clear hb HV5 z0 z1 z2 z3 z4 z5 z6 z7 z8 p0 p1 p2 p3 p4 p5 p6 p7 p8 SA HPE5 HQE
      go_wp2_with fail
      refine (SS.out _ _ _ (HPT5.out.on HB7.out) (HQT.out.on HB7.out)).mono ?_
      rintro e w7 ⟨rfl, hb⟩
      have HB8 : Hid (Below w.heap.size w w7) := HB6.out.trans ((HB7.out.trans (hb.mono HB7.out.size)).mono HB6.out.size)
      clear hb HB6 HB7 HPT5 HQT SS
      go_wp2_with fail
      refine (AW.out _).mono ?_
      rintro e w8 ⟨rfl, hb⟩
      have HB9 : Hid (Below w.heap.size w w8) := HB8.out.trans (hb.mono HB8.out.size)
      clear hb HB8 AW
      go_wp2_with fail
      go_ret
      exact ⟨rfl, HB9.out⟩
  · clear MK RM PA RP SA SS HFB
    cases B with
    | false =>
      obtain ⟨x0, x1, x2, x3, x4, x5, x6, x7, x8⟩ := cells9 HX1.out
      go_wp2_with fail
      refine (AW.out _).mono ?_
      rintro e w2 ⟨rfl, hb⟩
      have HB2 : Hid (Below w.heap.size w w2) := HB1.out.trans (hb.mono (by omega))
      clear hb HB1 AW
      go_wp2_with fail
      go_ret
      exact ⟨rfl, HB2.out⟩
    | true =>
      have hs5 : (10000 : Int) < (s.size : Int) := by
        have : ¬ s.size ≤ 10000 := fun h => hgo ⟨rfl, h⟩
        omega
      have hs6 : decide ((10000 : Int) < (s.size : Int)) = true := decide_eq_true hs5
      clear hgo
      obtain ⟨x0, x1, x2, x3, x4, x5, x6, x7, x8⟩ := cells9 HX1.out
      go_wp2_with fail
      refine (AW.out _).mono ?_
      rintro e w2 ⟨rfl, hb⟩
      have HB2 : Hid (Below w.heap.size w w2) := HB1.out.trans (hb.mono (by omega))
      clear hb HB1 AW
      go_wp2_with fail
      go_ret
      exact ⟨rfl, HB2.out⟩
end Go.Proofs.Ytpfcfldkhecijaa
