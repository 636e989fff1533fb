/- PoolOrder: what is nobody's, rising, with gaps where houses are. -/
import Derived.Test.YtlpcofmifpgflaaPoolAwake
import Derived.Test.YtlpcofmifpgflaaPoolEvery
import Derived.Test.YtlpcofmifpgflaaPoolSame
import Derived.Test.YtlpcofmifpgflaaPlace
namespace Go.Proofs.Ytlpcofmifpgflaa
open Go.RowKit Pool

theorem ordL_segs {a : List Int} (ha : a.length ≤ 9223372036854775807) : ∀ x ∈ ordL a, x.segs.length ≤ 9223372036854775807 := by
  intro x hx
  simp only [ordL, List.mem_cons, List.not_mem_nil, or_false] at hx
  rcases hx with rfl | rfl | rfl
  · exact Nat.zero_le _
  · exact ha
  · decide
/-- The three houses, as the law lays them. -/
theorem ord_lies {w : World} {base : Nat} {a : List Int} {ad : Option Addr} {n ca : Nat} (h : IOwn w base (.slice ad n ca) a) (_hb : base ≤ w.heap.size) :
    Houses ((w.alloc (.cells #[.int .i64 500, .int .i64 (-7)] 3)).alloc (.cells #[.int .i64 0, .int .i64 0, .int .i64 0, .int .i64 0, .int .i64 0, .int .i64 0, .int .i64 0, .int .i64 0, .int .i64 0, .slice none 0 0,
      .int .i64 1, .int .i64 0, .int .i64 0, .int .i64 0, .int .i64 0, .int .i64 0, .int .i64 0, .int .i64 0, .int .i64 0, .slice ad n ca,
      .int .i64 2, .int .i64 0, .int .i64 0, .int .i64 0, .int .i64 0, .int .i64 0, .int .i64 0, .int .i64 0, .int .i64 0, .slice (some ⟨w.heap.size, 0, none⟩) 2 2] 36)) (.slice (some ⟨w.heap.size + 1, 0, none⟩) 3 3) (ordL a) := by
  generalize hW1 : w.alloc (.cells #[.int .i64 500, .int .i64 (-7)] 3) = W1
  generalize hcs : (#[Value.int .i64 0, .int .i64 0, .int .i64 0, .int .i64 0, .int .i64 0, .int .i64 0, .int .i64 0, .int .i64 0, .int .i64 0, .slice none 0 0,
      .int .i64 1, .int .i64 0, .int .i64 0, .int .i64 0, .int .i64 0, .int .i64 0, .int .i64 0, .int .i64 0, .int .i64 0, .slice ad n ca,
      .int .i64 2, .int .i64 0, .int .i64 0, .int .i64 0, .int .i64 0, .int .i64 0, .int .i64 0, .int .i64 0, .int .i64 0, .slice (some ⟨w.heap.size, 0, none⟩) 2 2] : Array Value) = cs
  have h1 : W1.heap.size = w.heap.size + 1 := by rw [← hW1]; simp
  have g1 : W1.heap[w.heap.size]? = some (.cells (icells [500, -7]).toArray 3 (0, 0)) := by rw [← hW1]; exact heap_alloc_new _ _
  have k1 : Below w.heap.size w W1 := by rw [← hW1]; exact (Below.refl _ w).alloc (Nat.le_refl _) _
  have k2 : Below W1.heap.size W1 (W1.alloc (.cells cs 36)) := (Below.refl _ W1).alloc (Nat.le_refl _) _
  have g2 : (W1.alloc (.cells cs 36)).heap[w.heap.size + 1]? = some (.cells cs 36 (0, 0)) := by rw [← h1]; exact heap_alloc_new _ _
  have hs2 : (W1.alloc (.cells cs 36)).heap.size = w.heap.size + 2 := by simp [h1]
  have hh := houses_of (w := W1.alloc (.cells cs 36)) (b := w.heap.size + 1) (off := 0) (cap := 3) (l := [(Ho.z, .slice none 0 0), (⟨1, 0, Lm.z, a⟩, .slice ad n ca), (⟨2, 0, Lm.z, [500, -7]⟩, .slice (some ⟨w.heap.size, 0, none⟩) 2 2)])
    (by rw [hs2]; omega) (Nat.le_refl 3) (fun j u hj => by
      rw [cell_of_row _ _ _ _ _ _ g2, Nat.zero_add, ← hcs, ← hj, ← Array.getElem?_toList]
      rfl) (fun p hp => by
      simp only [List.mem_cons, List.not_mem_nil, or_false] at hp
      rcases hp with rfl | rfl | rfl
      · exact Ints.nil _
      · exact (h.ints.on k1).on k2
      · exact (Ints.block (l := [500, -7]) g1 rfl (by decide)).on k2)
  exact hh

set_option maxHeartbeats 8000000 in
theorem poolOrder_t (s ev n : Int) (w : World) :
    Calls Try.prog 5 #[.int .i64 s, .int .i64 ev, .int .i64 n] w fun e w' => e = .returned (.bool true) ∧ Below w.heap.size w w' := by
  have AW := poolhid awake_t12
  have PS := poolhid (fun W => gplace_t s 150 W (by decide) (by decide))
  have PE := poolhid (fun W => gplace_t ev 10 W (by decide) (by decide))
  have PN := poolhid (fun W => gplace_t n 200 W (by decide) (by decide))
  have FR := poolhid free_t12
  have TK := poolhid take_t12
  have SM := poolhid same_yes
  obtain ⟨k, hk⟩ : ∃ k : Nat, s % 150 = (k : Int) := ⟨(s % 150).toNat, by omega⟩
  obtain ⟨e, hev⟩ : ∃ e : Nat, 2 + ev % 10 = (e : Int) := ⟨(2 + ev % 10).toNat, by omega⟩
  obtain ⟨m, hm⟩ : ∃ m : Nat, n % 200 = (m : Int) := ⟨(n % 200).toNat, by omega⟩
  have hk5 : k < 150 := by omega
  have he2 : 2 ≤ e := by omega
  have he12 : e < 12 := by omega
  have hm2 : m < 200 := by omega
  have h0 : 0 ≤ ev % 10 := by omega
  have h1 : ev % 10 < 10 := by omega
  rw [hk] at PS
  rw [hm] at PN
  generalize ev % 10 = y at *
  clear hk hm
  go_enter Try.func5, Try.ntmps5
  go_wp2_with fail
  refine (PS.out _).mono ?_
  rintro _ w1 ⟨rfl, rfl⟩
  go_wp2_with fail
  refine (PE.out _).mono ?_
  rintro _ w1 ⟨rfl, rfl⟩
  go_wp2_with fail
  clear hev h0 h1 PS PE
  go_loopw [9, 10] (fun v c wr => ∃ (j q : Nat), c = .int .i64 q ∧ Hid (q = j * e) ∧ q ≤ 200 ∧ q < k + e ∧ Hid (IOwn wr w.heap.size v (evs e j)) ∧ Hid (Below w.heap.size w wr)) (fun _ c _ => k - (intOf c).toNat)
  case atStart => exact ⟨0, 0, rfl, (by show _ = _; omega), by omega, by omega, IOwn.nil _ _, Below.refl _ _⟩
  case round =>
    obtain ⟨j, q, rfl, HQ, hq, hq2, HO, HB⟩ := hrel
    have hsz : w.heap.size ≤ wr.heap.size := HB.out.size
    have HL := evs_length e j
    by_cases hqk : q < k
    · have hj : j ≤ 200 := by
        have := HQ.out
        have := Nat.le_mul_of_pos_right j (show 0 < e by omega)
        omega
      have HQ2 : Hid (q + e = (j + 1) * e) := by show _ = _; rw [Nat.add_mul, ← HQ.out, Nat.one_mul]
      have HT := poolhid (evs_succ e j)
      rw [← HQ.out] at HT
      generalize evs e j = a at *
      clear HQ
      go_wp2_with (first
        | (refine wpList_append_one rfl _ _ rfl w.heap.size _ a rfl (HO.out.on ((Below.refl _ _).alloc (Nat.le_refl _) _)) wr.heap.size 1 [(q : Int)] rfl 3 (0, 0) (heap_alloc_new _ _) (by simp) (by simp; omega) (by simp; omega) ?_)
        | fail)
      intro v' w' ho hb hle
      rw [← HT.out] at ho
      have HO2 := poolhid ho
      have HB2 : Hid (Below w.heap.size w w') := (HB.out.alloc hsz _).trans hb
      clear ho hb hle HO HB HT
      go_wp2_with fail
      exact ⟨⟨j + 1, q + e, by go_num, HQ2, by omega, by omega, HO2, HB2⟩, by simp [intOf]; omega⟩
    · have HF := poolhid (fun i x hi => ordL_free? (e := e) (j := j) (k := k) (i := i) (x := x) (by omega) (by rw [← HQ.out]; omega) (by omega) hi)
      have HU := poolhid (fun i x y => freeL_up? (ordL (evs e j)) k (i := i) (x := x) (y := y))
      have hlen := ordL_length (e := e) (j := j) (k := k) (by omega) (by rw [← HQ.out]; omega) (by omega) (by rw [← HQ.out]; omega)
      have hck : cutN (k : Int) = k := by unfold cutN; omega
      have HSE := poolhid (ordL_segs (a := evs e j) (by rw [HL]; omega))
      obtain ⟨ad, ca, rfl⟩ := HO.out.slice
      rw [HL] at HO
      rw [HL]
      have FR2 := poolhid (fun v W h => FR.out k (ordL (evs e j)) v W h (by simp [ordL]) HSE.out)
      have TK2 := poolhid (fun v W x h => TK.out k x (ordL (evs e j)) v W h (by simp [ordL]) HSE.out)
      rw [hck] at FR2 TK2
      have HLAY := poolhid (ord_lies (a := evs e j) (ad := ad) (ca := ca) HO.out hsz)
      clear HQ FR TK hck HSE HL
      generalize freeL (ordL (evs e j)) k = F at *
      generalize ordL (evs e j) = L at *
      go_wp2_with fail
      generalize hW : World.alloc (World.alloc wr _) _ = W2
      have HH : Hid (Houses W2 (.slice (some ⟨wr.heap.size + 1, 0, none⟩) 3 3) L) := by rw [← hW]; exact HLAY.out
      have HB2 : Hid (Below w.heap.size w W2) := by rw [← hW]; exact (HB.out.alloc hsz _).alloc (by simp; omega) _
      clear hW HLAY HO HB hsz
      refine (FR2.out _ W2 HH.out).mono ?_
      rintro _ w3 ⟨r, rfl, hO, hB⟩
      have HB3 : Hid (Below w.heap.size w w3) := HB2.out.trans (hB.mono HB2.out.size)
      have HH3 := poolhid (HH.out.on hB)
      have HI := poolhid hO.ints
      obtain ⟨fd, fc, rfl, hfd⟩ := hO.slice2
      have HFD := poolhid hfd
      clear hfd
      have hF5 : F.length ≤ 150 := by omega
      have hfj : ((F.length : Int) != (k : Int) - (j : Int)) = false := by rw [bne_eq_false_iff_eq]; omega
      have hjk : j ≤ k := by omega
      have HLEN := poolhid hlen
      clear hlen
      clear hO hB HB2 HH FR2
      go_wp2_with fail
      go_loopw [13] (fun c wq => ∃ i : Nat, c = .int .i64 i ∧ i ≤ F.length ∧ Hid (Below w3.heap.size w3 wq)) (fun c _ => F.length - (intOf c).toNat)
      case atStart => exact ⟨0, rfl, by omega, Below.refl _ _⟩
      case round =>
        obtain ⟨i, rfl, hi, HW⟩ := hrel
        by_cases hlt : i < F.length
        · obtain ⟨fd2, fc2, hv, -, -, hc⟩ := HI.out
          obtain ⟨bk, o, rfl, hbk, hcell⟩ := hc (by omega)
          injection hv with e1 e2 e3
          subst e1 e3
          obtain ⟨x, hx⟩ : ∃ x, F[i]? = some x := ⟨_, List.getElem?_eq_getElem hlt⟩
          have c1 : wr.cell? ⟨bk, o + i, none⟩ = some (.int .i64 x) := by
            rw [HW.out.cell hbk, hcell i hlt]
            rw [List.getElem?_eq_getElem hlt] at hx
            rw [Option.some.inj hx]
          obtain ⟨hx0, hxk, hxe⟩ := HF.out i x hx
          have hr0 := Int.emod_nonneg x (show (e : Int) ≠ 0 by omega)
          have hr1 := Int.emod_lt_of_pos x (show (0 : Int) < (e : Int) by omega)
          have hE2 : (2 : Int) ≤ (e : Int) := by omega
          have hE12 : (e : Int) < 12 := by omega
          have HHE := poolhid (And.intro he2 he12)
          clear he2 he12
          generalize (e : Int) = E at *
          have he0 : (E == 0) = false := beq_eq_false_iff_ne.2 (by omega)
          have r0 : (x % E == 0) = false := beq_eq_false_iff_ne.2 hxe
          have r1 : decide (x < 0) = false := decide_eq_false (by omega)
          have r2 : decide ((k : Int) ≤ x) = false := decide_eq_false (by omega)
          have HC := poolhid hcell
          have HHI := poolhid hi
          clear hxe hc hcell e2
          by_cases hi0 : 0 < i
          · obtain ⟨y2, hy2⟩ : ∃ x, F[i - 1]? = some x := ⟨_, List.getElem?_eq_getElem (by omega)⟩
            have c2 : wr.cell? ⟨bk, o + (i - 1), none⟩ = some (.int .i64 y2) := by
              rw [HW.out.cell hbk, HC.out (i - 1) (by omega)]
              rw [List.getElem?_eq_getElem (by omega)] at hy2
              rw [Option.some.inj hy2]
            have r3 : decide (x ≤ y2) = false := decide_eq_false (by have := HU.out i y2 x hx hi0 hy2; omega)
            have r4 : decide ((0 : Int) < (i : Int)) = true := decide_eq_true (by omega)
            clear hx hy2 HC
            go_wp2_with fail
            go_quiet (fail)
            go_wp2_with fail
            exact ⟨⟨i + 1, by go_num, by omega, ⟨HW.out.os, HW.out.tape, HW.out.output, HW.out.size, HW.out.block⟩⟩, by simp [intOf]; omega⟩
          · have hi00 : i = 0 := by omega
            subst hi00
            rw [Nat.add_zero] at c1
            clear hx HC
            go_wp2_with fail
            go_quiet (fail)
            go_wp2_with fail
            exact ⟨⟨1, by go_num, by omega, ⟨HW.out.os, HW.out.tape, HW.out.output, HW.out.size, HW.out.block⟩⟩, by simp [intOf]; omega⟩
        · clear HF HU
          have HI4 := poolhid (HI.out.on HW.out)
          have HH4 := poolhid (HH3.out.on HW.out)
          have HB4 : Hid (Below w.heap.size w wr) := HB3.out.trans (HW.out.mono HB3.out.size)
          clear HI HH3 HB3 HW
          go_wp2_with fail
          refine (PN.out _).mono ?_
          rintro _ w4 ⟨rfl, rfl⟩
          go_wp2_with fail
          refine (TK2.out _ _ _ HH4.out).mono ?_
          rintro _ w5 ⟨r, ok, p, rfl, hT, hI, -, hB⟩
          have HI5 := poolhid (HI4.out.on hB)
          have HP := poolhid hI
          have HH5 := poolhid (HH4.out.on hB)
          have HB5 : Hid (Below w.heap.size w w5) := HB4.out.trans (hB.mono HB4.out.size)
          have HT := poolhid hT
          clear hT hI hB HI4 HH4 HB4
          go_wp2_with fail
          refine (TK2.out _ _ _ HH5.out).mono ?_
          rintro _ w6 ⟨r2, ok2, p2, rfl, hT2, -, -, hB⟩
          have hok2 : ok2 = false := by
            rcases hT2 with ⟨-, h, -⟩ | ⟨h, -⟩
            · omega
            · exact h
          subst hok2
          have HI6 := poolhid (HI5.out.on hB)
          have HP6 := poolhid (HP.out.on hB)
          have HB6 : Hid (Below w.heap.size w w6) := HB5.out.trans (hB.mono HB5.out.size)
          clear hT2 hB HI5 HP HB5 HH5 TK2
          rcases HT.out with ⟨rfl, -, hmF, rfl⟩ | ⟨rfl, hmF, rfl⟩
          · have hmF2 : m ≤ F.length := by omega
            have d1 : decide ((m : Int) ≤ (F.length : Int)) = true := decide_eq_true (by omega)
            obtain ⟨-, hfc, hfn, hfs, hTk⟩ := HI6.out.take m hmF2
            have HTK := poolhid hTk
            have hmc : m ≤ fc := by omega
            clear hTk HT HI6 hfs hfn hfc
            have hm9 : (F.take m).length ≤ 9223372036854775807 := by rw [List.length_take]; omega
            rcases HFD.out with ⟨rfl, rfl⟩ | ⟨b, rfl⟩
            · have hm0 : m = 0 := by omega
              subst hm0
              go_wp2_with fail
              refine (SM.out _ _ _ _ hm9 HP6.out HTK.out).mono ?_
              rintro _ w7 ⟨rfl, hB⟩
              have HB7 : Hid (Below w.heap.size w w7) := HB6.out.trans (hB.mono HB6.out.size)
              clear hB HB6
              go_wp2_with fail
              refine (AW.out _).mono ?_
              rintro _ w8 ⟨rfl, hB⟩
              have HB8 : Hid (Below w.heap.size w w8) := HB7.out.trans (hB.mono HB7.out.size)
              clear hB HB7
              go_wp2_with fail
              go_ret
              exact ⟨rfl, HB8.out⟩
            · go_wp2_with fail
              refine (SM.out _ _ _ _ hm9 HP6.out HTK.out).mono ?_
              rintro _ w7 ⟨rfl, hB⟩
              have HB7 : Hid (Below w.heap.size w w7) := HB6.out.trans (hB.mono HB6.out.size)
              clear hB HB6
              go_wp2_with fail
              refine (AW.out _).mono ?_
              rintro _ w8 ⟨rfl, hB⟩
              have HB8 : Hid (Below w.heap.size w w8) := HB7.out.trans (hB.mono HB7.out.size)
              clear hB HB7
              go_wp2_with fail
              go_ret
              exact ⟨rfl, HB8.out⟩
          · have d1 : decide (m ≤ F.length) = false := decide_eq_false (by omega)
            go_wp2_with fail
            refine (AW.out _).mono ?_
            rintro _ w7 ⟨rfl, hB⟩
            have HB7 : Hid (Below w.heap.size w w7) := HB6.out.trans (hB.mono HB6.out.size)
            clear hB HB6 HT
            go_wp2_with fail
            go_ret
            exact ⟨rfl, HB7.out⟩
end Go.Proofs.Ytlpcofmifpgflaa
