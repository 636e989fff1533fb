/- The laws' own made walked: a head and blocks by numbers. -/
import Derived.Test.YtpfcfldkhecijaaChunkAwake
import Derived.Test.YtpfcfldkhecijaaHeadRow
import Derived.Test.YtpfcfldkhecijaaFilled
namespace Go.Proofs.Ytpfcfldkhecijaa
open Go.RowKit Rec Hdp Chk

/-- Numbers that lie as a slice. -/
def Ints (w : World) (v : Value) (l : List Int) : Prop :=
  ∃ ad cap, v = .slice ad l.length cap ∧ (ad = none → cap = 0) ∧ l.length ≤ cap ∧ (0 < l.length → ∃ b off, ad = some ⟨b, off, none⟩ ∧ b < w.heap.size ∧ ∀ i (h : i < l.length), w.cell? ⟨b, off + i, none⟩ = some (.int .i64 l[i]))
theorem Ints.on {w w' : World} {v : Value} {l : List Int} (h : Ints w v l) (k : Below w.heap.size w w') : Ints w' v l := by
  obtain ⟨ad, cap, hv, hn, hlc, hc⟩ := h
  refine ⟨ad, cap, hv, hn, hlc, fun hl => ?_⟩
  obtain ⟨b, off, ha, hb, hi⟩ := hc hl
  exact ⟨b, off, ha, Nat.lt_of_lt_of_le hb k.size, fun i h => by rw [k.cell hb]; exact hi i h⟩

/-- append(one's own, entry): an entry more, that the walk has laid into a block of its own. -/
theorem wpList_append_ent {ops : Array Oper} {rest : List Oper} {o : Oper} {a : Act} {Q : Exit → Act → World → Prop} {w : World} (hw : Region.wanted o (yielded ops a.tmps) = true) (s x : Operand)
    (ho : o.op = .call { callee := .builtin .append, args := #[s, x], argTypes := #[22, 22] })
    (base : Nat) (v : Value) (xs : List En) (hs : a.eval s = v) (hown : EOwn w base v xs) (g : Nat) (e : En) (hx : a.eval x = .slice (some ⟨g, 0, none⟩) 1 1) (t : TypeId) (fr : Nat × Nat) (hg : w.heap[g]? = some (.cells #[.int .i64 e.kind, .int .i64 e.node, .int .i64 e.part] t fr))
    (hb : xs.length ≤ 100000) (hbase : base ≤ w.heap.size)
    (h : ∀ v' w', EOwn w' base v' (xs ++ [e]) → Below base w w' → w.heap.size ≤ w'.heap.size → w.grownBy w' v.ownBlock → wpList Try.prog ops Q rest (a.put o.dst v') w') : wpList Try.prog ops Q (o :: rest) a w := by
  obtain ⟨j0, hj0, hy0, hy1, hy2⟩ := info_parts Try.infoE
  have hgrow : ∀ w', w.grownBy w' v.ownBlock → Below base w w' := fun w' hg => (Below.refl _ w).grown hg hbase (fun k hk => (hown.lt k hk).1)
  refine wpList_step fun K hK => ?_
  rw [if_pos hw]
  refine wp_append_own w s x 22 ho base 43 j0 _ 3 24 Try.underlying22 hj0 hy0 hy1 hy2 rfl (by decide) v xs.length (ecells xs) hs hown ⟨g, 0, none⟩ 1 1 (ecells [e]) hx (by rw [ecells_length]; rfl) ?_ (ecells_all [e]) (by unfold maxLen; omega) (by omega) hbase ?_
  · intro j u hj
    rw [ecells_one] at hj
    have hj3 : j < 3 := (List.getElem?_eq_some_iff.1 hj).1
    rw [tx_addr, Nat.zero_add, cell_of_row w g _ _ t fr hg, ← hj]
    have hcs : j = 0 ∨ j = 1 ∨ j = 2 := by omega
    rcases hcs with rfl | rfl | rfl <;> rfl
  · intro v' w' h2 h3 _
    refine hK _ _ (h v' w' ?_ (hgrow w' h3) h3.size h3)
    show World.ownsRow _ _ _ _ _ _ _
    rw [ecells_append, List.length_append]
    exact h2

/-- A row of entries and a row of texts are two rows. -/
theorem own_apart {w : World} {b1 b2 : Nat} {v u : Value} {xs : List En} {ts : List ByteArray} (h : EOwn w b1 v xs) (k : TOwn w b2 u ts) : v.ownBlock = none ∨ v.ownBlock ≠ u.ownBlock := by
  rcases h.2 with ⟨rfl, _⟩ | ⟨g, cap, cur, rfl, _, hg, _⟩
  · exact .inl rfl
  · refine .inr fun e => ?_
    rcases k.2 with ⟨rfl, _⟩ | ⟨g2, cap2, cur2, rfl, _, hg2, _⟩
    · simp [Value.ownBlock] at e
    · simp [Value.ownBlock] at e
      subst e
      rw [hg] at hg2
      simp only [Option.some.injEq, Obj.cells.injEq] at hg2
      exact absurd hg2.2.1 (by decide)
theorem EOwn.kept {w w' : World} {base : Nat} {v : Value} {l : List En} {row : Option Nat} (h : EOwn w base v l) (hg : w.grownBy w' row) (hne : v.ownBlock = none ∨ v.ownBlock ≠ row) : EOwn w' base v l := World.ownsRow.kept h hg hne
theorem TOwn.kept {w w' : World} {base : Nat} {v : Value} {l : List ByteArray} {row : Option Nat} (h : TOwn w base v l) (hg : w.grownBy w' row) (hne : v.ownBlock = none ∨ v.ownBlock ≠ row) : TOwn w' base v l := World.ownsRow.kept h hg hne
theorem own_swap {a b : Option Nat} (h : a = none ∨ a ≠ b) : b = none ∨ b ≠ a := by
  rcases h with rfl | h
  · cases b with
    | none => exact .inl rfl
    | some k => exact .inr (by simp)
  · exact .inr (Ne.symm h)

/-! ### By numbers -/

def plN (v : Int) : Nat := (v % 1048576).toNat
theorem plN_is (v : Int) : v % 1048576 = (plN v : Int) := by unfold plN; omega
theorem plN_lt (v : Int) : plN v < 1048576 := by unfold plN; omega
def madeEn (v : Int) : En := ⟨1, 1 + (plN v : Int) % 255, (plN v : Int) / 255 % 588⟩
def madeE (l : List Int) : List En := l.map madeEn
def madeK (l : List Int) : List ByteArray := l.map fun v => Fill (plN v % 1000)
def madeX (l : List Int) : Hd := ⟨1, 2, 3, 4, 5, 6, 0, 0, madeE l⟩
theorem madeE_length (l : List Int) : (madeE l).length = l.length := by simp [madeE]
theorem madeK_length (l : List Int) : (madeK l).length = l.length := by simp [madeK]
theorem madeE_take {l : List Int} {i : Nat} (hi : i < l.length) : madeE (l.take (i + 1)) = madeE (l.take i) ++ [madeEn l[i]] := by
  unfold madeE
  rw [List.take_succ_eq_append_getElem hi, List.map_append]
  rfl
theorem madeK_take {l : List Int} {i : Nat} (hi : i < l.length) : madeK (l.take (i + 1)) = madeK (l.take i) ++ [Fill (plN l[i] % 1000)] := by
  unfold madeK
  rw [List.take_succ_eq_append_getElem hi, List.map_append]
  rfl
theorem madeK_all (l : List Int) : allB (madeK l) = true := by
  rw [allB_iff]
  intro b hb
  obtain ⟨v, _, rfl⟩ := List.mem_map.1 hb
  exact Fill_size _
theorem madeE_ok (l : List Int) : (madeE l).all enB = true := by
  rw [List.all_eq_true]
  intro e he
  obtain ⟨v, _, rfl⟩ := List.mem_map.1 he
  unfold madeEn enB partB
  simp only [if_true, Bool.and_eq_true, inB_iff]
  omega
theorem madeX_ok {l : List Int} (h : l.length ≤ 24) : okB (madeX l) = true := by
  unfold okB
  rw [show (madeX l).list = madeE l from rfl, madeE_ok, madeE_length, decide_eq_true h]
  rfl
theorem made_yes {l : List Int} (h : l.length ≤ 24) : makeB (madeX l) (madeK l) = true := by
  rw [makeB_is (madeK_all l) (madeX_ok h), madeK_length]
  show decide (l.length = (madeE l).length) = true
  rw [madeE_length]
  simp

/-- Behind k rounds. -/
def MadeAt (l : List Int) (k : Nat) (bv : Value) (w wr : World) : Prop :=
  ∃ v, wr.heap[w.heap.size]? = some (.cells (headC Hd.z (.slice none 0 0)) 24 (0, 0)) ∧ wr.heap[w.heap.size + 1]? = some (.cells (headC ⟨1, 2, 3, 4, 5, 6, 0, 0, []⟩ v) 24 (0, 0)) ∧ EOwn wr (w.heap.size + 2) v (madeE (l.take k)) ∧ TOwn wr (w.heap.size + 2) bv (madeK (l.take k)) ∧ Below w.heap.size w wr

set_option maxRecDepth 10000 in
set_option maxHeartbeats 8000000 in
theorem made_t (l : List Int) (v : Value) (w : World) (hI : Ints w v l) (hl : l.length ≤ 9223372036854775807) :
    Calls Try.prog 15 #[v] w fun e w' => ∃ ad cap bad bcap, e = .returned (.tuple #[headV (madeX (l.take 24)) (.slice ad (l.take 24).length cap), .slice bad (l.take 24).length bcap]) ∧ Ents w' (.slice ad (l.take 24).length cap) (madeE (l.take 24)) ∧ TOwn w' w.heap.size (.slice bad (l.take 24).length bcap) (madeK (l.take 24)) ∧ Below w.heap.size w w' := by
  have PL := hdhid (fun v w => gplace_t v 1048576 w (by decide) (by decide))
  have FI := hdhid (fun v w (h : v ≤ 100000) => filled_t v w h)
  obtain ⟨ad, cap, rfl, -, hlc, hc⟩ := hI
  have HC := hdhid hc
  clear hc hlc
  generalize hL : l.take 24 = L
  have HL := hdhid hL
  clear hL
  go_enter Try.func15, Try.ntmps15
  go_wp2_with fail
  go_loopw [5, 6] (fun bv c wr => ∃ k : Nat, k ≤ l.length ∧ k ≤ 24 ∧ c = .int .i64 k ∧ Hid (MadeAt l k bv w wr)) (fun _ c _ => 24 - (intOf c).toNat)
  case atStart =>
    refine ⟨0, by omega, by omega, rfl, .slice none 0 0, ?_, ?_, EOwn.nil _ _, TOwn.nil _ _, ((Below.refl _ w).alloc (Nat.le_refl _) _).alloc (by simp) _⟩
    · rw [Below.heap_alloc _ _ _ (by simp)]
      exact heap_alloc_new _ _
    · have e : ∀ o, w.heap.size + 1 = (w.alloc o).heap.size := fun o => by simp
      rw [e]
      exact heap_alloc_new _ _
  case round =>
    obtain ⟨k, hk, hk24, rfl, HM⟩ := hrel
    by_cases h1 : k < l.length
    · by_cases h2 : k < 24
      · obtain ⟨lv, hA, hX, hE, hT, hB⟩ := HM.out
        obtain ⟨b, off, rfl, hb, hcell⟩ := HC.out (by omega)
        have hx := hcell k h1
        rw [← hB.cell hb] at hx
        have HA := hdhid hA
        have HX := hdhid hX
        have HE := hdhid hE
        have HT := hdhid hT
        have HB := hdhid hB
        have hlt1 : w.heap.size + 1 < wr.heap.size := (Array.getElem?_eq_some_iff.1 hX).1
        have hbs := hB.size
        have hEl : (madeE (l.take k)).length = k := by rw [madeE_length, List.length_take]; omega
        have hKl : (madeK (l.take k)).length = k := by rw [madeK_length, List.length_take]; omega
        have HES := hdhid (madeE_take h1)
        have HKS := hdhid (madeK_take h1)
        clear hX hA hE hT hB HM hcell
        have hpl := plN_is l[k]
        have hpl2 := plN_lt l[k]
        have HEn : Hid (madeEn l[k] = ⟨1, 1 + (plN l[k] : Int) % 255, (plN l[k] : Int) / 255 % 588⟩) := rfl
        generalize madeEn l[k] = En1 at *
        generalize plN l[k] = p at *
        generalize l[k] = z at *
        generalize madeE (l.take k) = Ek at *
        generalize madeK (l.take k) = Kk at *
        go_wp2_with fail
        refine (PL.out z _).mono ?_
        rintro e w2 ⟨rfl, rfl⟩
        rw [hpl]
        have dV : wr.cell? ⟨w.heap.size + 1, 8, none⟩ = some lv := (cells9 HX.out).2.2.2.2.2.2.2.2
        have dV' : ∀ o1, (wr.alloc o1).cell? ⟨w.heap.size + 1, 8, none⟩ = some lv := fun o1 => by rw [World.cell?_alloc_lt _ _ _ (by show w.heap.size + 1 < wr.heap.size; omega)]; exact dV
        have hap := own_apart HE.out HT.out
        have hv1 : lv.ownBlock ≠ some (w.heap.size + 1) := HE.out.block _ (by omega)
        have hv0 : lv.ownBlock ≠ some w.heap.size := HE.out.block _ (by omega)
        go_wp2_with (first
          | (refine wpList_append_ent rfl _ _ rfl (w.heap.size + 2) _ Ek rfl (HE.out.on ((Below.refl _ _).alloc (by simp) _)) wr.heap.size ⟨1, 1 + (p : Int) % 255, (p : Int) / 255 % 588⟩ rfl 43 (0, 0) (heap_alloc_new _ _) ?c2 ?c3 ?_)
          | fail)
        case c2 => omega
        case c3 => simp; omega
        intro lv2 w3 hE3 hb3 hle3 hg3
        have hgA : wr.grownBy w3 lv.ownBlock := ⟨hg3.os, hg3.tape, hg3.output, Nat.le_trans (by simp) hg3.size, fun q hq hn => (hg3.block q (by simp; omega) hn).trans (heap_alloc_old _ _ hq)⟩
        have HA3 : Hid (w3.heap[w.heap.size]? = some (.cells (headC Hd.z (.slice none 0 0)) 24 (0, 0))) := (hgA.block _ (by omega) (Ne.symm hv0)).trans HA.out
        have HX3 : Hid (w3.heap[w.heap.size + 1]? = some (.cells (headC ⟨1, 2, 3, 4, 5, 6, 0, 0, []⟩ lv) 24 (0, 0))) := (hgA.block _ hlt1 (Ne.symm hv1)).trans HX.out
        have HT3 := hdhid (HT.out.kept hgA (own_swap hap))
        have HB3 : Hid (Below w.heap.size w w3) := HB.out.grown hgA (by omega) (fun q hq => by have := (HE.out.lt q hq).1; omega)
        have e1 : Ek ++ [⟨1, 1 + (p : Int) % 255, (p : Int) / 255 % 588⟩] = madeE (l.take (k + 1)) := by rw [HES.out, HEn.out]
        rw [e1] at hE3
        obtain ⟨ad2, cap2, rfl⟩ := hE3.slice
        have e2 : (madeE (l.take (k + 1))).length = k + 1 := by rw [madeE_length, List.length_take]; omega
        rw [e2] at hE3 ⊢
        have HE3 := hdhid hE3
        have aV : w3.cell? ⟨w.heap.size + 1, 8, none⟩ = some lv := (cells9 HX3.out).2.2.2.2.2.2.2.2
        have bV : w3.frozen? ⟨w.heap.size + 1, 8, none⟩ = false := frozen_of_row w3 _ _ _ _ HX3.out
        have hlt3 : w.heap.size + 1 < w3.heap.size := by have := hgA.size; omega
        clear hE3 hb3 hle3 hg3 hgA HA HX HE HT HB dV dV' hap hv0 hv1 e1 e2 HES HEn
        go_wp2_with fail
        generalize hW4 : w3.setCell _ _ = w4
        have HA4 : Hid (w4.heap[w.heap.size]? = some (.cells (headC Hd.z (.slice none 0 0)) 24 (0, 0))) := by rw [← hW4]; exact (heap_setCell_other _ _ _ _ (by simp)).trans HA3.out
        have HX4 : Hid (w4.heap[w.heap.size + 1]? = some (.cells (headC ⟨1, 2, 3, 4, 5, 6, 0, 0, []⟩ (.slice ad2 (k + 1) cap2)) 24 (0, 0))) := by rw [← hW4]; exact heap_setCell_same _ _ 8 _ _ _ HX3.out
        have HE4 : Hid (EOwn w4 (w.heap.size + 2) (.slice ad2 (k + 1) cap2) (madeE (l.take (k + 1)))) := by rw [← hW4]; exact HE3.out.other (by dsimp only; omega) _
        have HT4 : Hid (TOwn w4 (w.heap.size + 2) u5 Kk) := by rw [← hW4]; exact HT3.out.other (by dsimp only; omega) _
        have HB4 : Hid (Below w.heap.size w w4) := by rw [← hW4]; exact HB3.out.setCell (by dsimp only; omega) _
        have hlt4 : w.heap.size + 1 < w4.heap.size := by rw [← hW4]; simpa using hlt3
        clear hW4 HA3 HX3 HE3 HT3 HB3 aV bV hlt3
        have ep : (p : Int) % 1000 = ((p % 1000 : Nat) : Int) := by omega
        rw [ep]
        refine (FI.out (p % 1000) _ (by omega)).mono ?_
        rintro e w5 ⟨rfl, hb5⟩
        have HA5 : Hid (w5.heap[w.heap.size]? = some (.cells (headC Hd.z (.slice none 0 0)) 24 (0, 0))) := (hb5.block _ (by omega)).trans HA4.out
        have HX5 : Hid (w5.heap[w.heap.size + 1]? = some (.cells (headC ⟨1, 2, 3, 4, 5, 6, 0, 0, []⟩ (.slice ad2 (k + 1) cap2)) 24 (0, 0))) := (hb5.block _ (by omega)).trans HX4.out
        have HE5 := hdhid (HE4.out.on hb5)
        have HT5 := hdhid (HT4.out.on hb5)
        have HB5 : Hid (Below w.heap.size w w5) := HB4.out.trans (hb5.mono (by omega))
        have hlt5 : w.heap.size + 1 < w5.heap.size := by have := hb5.size; omega
        have hap := own_swap (own_apart HE5.out HT5.out)
        have hu1 : some (w.heap.size + 1) ≠ u5.ownBlock := fun e => by have := (HT5.out.lt _ e.symm).1; omega
        have hu0 : some w.heap.size ≠ u5.ownBlock := fun e => by have := (HT5.out.lt _ e.symm).1; omega
        clear hb5 HA4 HX4 HE4 HT4 HB4 hlt4 ep
        go_wp2_with (first
          | (refine wpList_append_txt rfl _ _ rfl (w.heap.size + 2) _ Kk rfl (HT5.out.on ((Below.refl _ _).alloc (by simp) _)) w5.heap.size 1 [Fill (p % 1000)] rfl 9 (0, 0) (heap_alloc_new _ _) (by simp) ?c2 ?c3 ?_)
          | fail)
        case c2 => rw [hKl]; simp; omega
        case c3 => simp; omega
        intro bv6 w6 hT6 hb6 hle6 hg6
        have hgA : w5.grownBy w6 u5.ownBlock := ⟨hg6.os, hg6.tape, hg6.output, Nat.le_trans (by simp) hg6.size, fun q hq hn => (hg6.block q (by simp; omega) hn).trans (heap_alloc_old _ _ hq)⟩
        rw [← HKS.out] at hT6
        have HM6 : Hid (MadeAt l (k + 1) bv6 w w6) := ⟨.slice ad2 (k + 1) cap2, (hgA.block _ (by omega) hu0).trans HA5.out, (hgA.block _ hlt5 hu1).trans HX5.out, HE5.out.kept hgA (own_swap hap), hT6, HB5.out.grown hgA (by omega) (fun q hq => by have := (HT5.out.lt q hq).1; omega)⟩
        clear hT6 hb6 hle6 hg6 hgA HA5 HX5 HE5 HT5 HB5 hap hu0 hu1 HKS
        go_wp2_with fail
        exact ⟨⟨k + 1, by omega, by omega, by go_num, HM6⟩, by simp [intOf]; omega⟩
      · have HKT : Hid (l.take k = L) := by
          show _ = _
          rw [← HL.out, show k = 24 by omega]
        have hd2 : decide ((k : Int) < 24) = false := decide_eq_false (by omega)
        obtain ⟨lv, hA, hX, hE, hT, hB⟩ := HM.out
        rw [HKT.out] at hE hT
        obtain ⟨ad2, cap2, rfl⟩ := hE.slice
        obtain ⟨bad2, bcap2, rfl⟩ := hT.slice
        rw [madeE_length] at hE hX
        rw [madeK_length] at hT
        have HA := hdhid hA
        have HX := hdhid hX
        have HE := hdhid hE
        have HT := hdhid hT
        have HB := hdhid hB
        clear hA hX hE hT hB HM HC PL FI HL HKT
        rw [madeK_length]
        go_wp2_with (first
          | (refine wpList_load_row rfl 24 (.tmp 4) rfl (w.heap.size + 1) rfl 24 _ (0, 0) _ HX.out Try.underlying24 rfl Try.headSize ?_)
          | (refine wpList_store_row rfl 24 (.tmp 2) (.tmp 42) rfl w.heap.size (headC ⟨1, 2, 3, 4, 5, 6, 0, 0, []⟩ (.slice ad2 L.length cap2)) rfl rfl 24 _ HA.out Try.headSize rfl (headC_one _ _ _ _) ?_)
          | fail)
        refine bodyPost_ret (v := .tuple #[headV (madeX L) (.slice ad2 L.length cap2), .slice bad2 L.length bcap2]) (results_ct_row Try.results15 _ _ w.heap.size 24 (headC (madeX L) (.slice ad2 L.length cap2)) (0, 0) _ rfl (setRow_heap _ _ _ _ _ _ HA.out) Try.underlying24 rfl Try.headSize) rfl ⟨_, _, _, _, rfl, ?_, ?_, ?_⟩
        · have := (HE.out.kept (grown_setRow wr w.heap.size (headC ⟨1, 2, 3, 4, 5, 6, 0, 0, []⟩ (.slice ad2 L.length cap2))) (.inr (HE.out.block _ (by omega)))).ents
          exact this
        · exact (HT.out.kept (grown_setRow wr w.heap.size (headC ⟨1, 2, 3, 4, 5, 6, 0, 0, []⟩ (.slice ad2 L.length cap2))) (.inr (fun e => by have := (HT.out.lt _ e).1; omega))).low (by omega)
        · exact below_setRow HB.out (Nat.le_refl _) _
    · have HKT : Hid (l.take k = L) := by
        show _ = _
        rw [← HL.out, List.take_of_length_le (by omega), List.take_of_length_le (by omega)]
      have hd2 : decide ((k : Int) < (l.length : Int)) = false := decide_eq_false (by omega)
      obtain ⟨lv, hA, hX, hE, hT, hB⟩ := HM.out
      rw [HKT.out] at hE hT
      obtain ⟨ad2, cap2, rfl⟩ := hE.slice
      obtain ⟨bad2, bcap2, rfl⟩ := hT.slice
      rw [madeE_length] at hE hX
      rw [madeK_length] at hT
      have HA := hdhid hA
      have HX := hdhid hX
      have HE := hdhid hE
      have HT := hdhid hT
      have HB := hdhid hB
      clear hA hX hE hT hB HM HC PL FI HL HKT
      rw [madeK_length]
      go_wp2_with (first
        | (refine wpList_load_row rfl 24 (.tmp 4) rfl (w.heap.size + 1) rfl 24 _ (0, 0) _ HX.out Try.underlying24 rfl Try.headSize ?_)
        | (refine wpList_store_row rfl 24 (.tmp 2) (.tmp 42) rfl w.heap.size (headC ⟨1, 2, 3, 4, 5, 6, 0, 0, []⟩ (.slice ad2 L.length cap2)) rfl rfl 24 _ HA.out Try.headSize rfl (headC_one _ _ _ _) ?_)
        | fail)
      refine bodyPost_ret (v := .tuple #[headV (madeX L) (.slice ad2 L.length cap2), .slice bad2 L.length bcap2]) (results_ct_row Try.results15 _ _ w.heap.size 24 (headC (madeX L) (.slice ad2 L.length cap2)) (0, 0) _ rfl (setRow_heap _ _ _ _ _ _ HA.out) Try.underlying24 rfl Try.headSize) rfl ⟨_, _, _, _, rfl, ?_, ?_, ?_⟩
      · have := (HE.out.kept (grown_setRow wr w.heap.size (headC ⟨1, 2, 3, 4, 5, 6, 0, 0, []⟩ (.slice ad2 L.length cap2))) (.inr (HE.out.block _ (by omega)))).ents
        exact this
      · exact (HT.out.kept (grown_setRow wr w.heap.size (headC ⟨1, 2, 3, 4, 5, 6, 0, 0, []⟩ (.slice ad2 L.length cap2))) (.inr (fun e => by have := (HT.out.lt _ e).1; omega))).low (by omega)
      · exact below_setRow HB.out (Nat.le_refl _) _
end Go.Proofs.Ytpfcfldkhecijaa
