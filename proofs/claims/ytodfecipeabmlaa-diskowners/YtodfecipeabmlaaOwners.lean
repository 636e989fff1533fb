/- The law DiskOwners, walked: whatever the four lists, true; nothing that was there has turned. -/
import Derived.Test.YtodfecipeabmlaaPair
import Derived.Test.YtodfecipeabmlaaSort
namespace Go.Proofs.Ytodfecipeabmlaa
open Go.RowKit

set_option maxRecDepth 100000 in
/-- One of the four lists has more than forty numbers. -/
theorem diskOwners_long (a0 a1 a2 a3 : Option Addr) (n0 n1 n2 n3 c0 c1 c2 c3 : Nat) (w : World) (h : 40 < n0 ∨ 40 < n1 ∨ 40 < n2 ∨ 40 < n3) :
    Calls Try.prog 3 #[.slice a0 n0 c0, .slice a1 n1 c1, .slice a2 n2 c2, .slice a3 n3 c3] w fun e w' => e = .returned (.bool true) ∧ Below w.heap.size w w' := by
  by_cases h0 : 40 < n0
  · have t0 : (40 : Int) < (n0 : Int) := by omega
    go_enter Try.func3, Try.ntmps3
    go_wp2_with (go_at_call 7; refine (awake_t _).mono ?_; rintro e w' ⟨rfl, hb⟩)
    go_ret
    exact ⟨rfl, hb⟩
  · have t0 : (n0 : Int) ≤ 40 := by omega
    by_cases h1 : 40 < n1
    · have t1 : (40 : Int) < (n1 : Int) := by omega
      go_enter Try.func3, Try.ntmps3
      go_wp2_with (go_at_call 7; refine (awake_t _).mono ?_; rintro e w' ⟨rfl, hb⟩)
      go_ret
      exact ⟨rfl, hb⟩
    · have t1 : (n1 : Int) ≤ 40 := by omega
      by_cases h2 : 40 < n2
      · have t2 : (40 : Int) < (n2 : Int) := by omega
        go_enter Try.func3, Try.ntmps3
        go_wp2_with (go_at_call 7; refine (awake_t _).mono ?_; rintro e w' ⟨rfl, hb⟩)
        go_ret
        exact ⟨rfl, hb⟩
      · have t2 : (n2 : Int) ≤ 40 := by omega
        have t3 : (40 : Int) < (n3 : Int) := by omega
        go_enter Try.func3, Try.ntmps3
        go_wp2_with (go_at_call 7; refine (awake_t _).mono ?_; rintro e w' ⟨rfl, hb⟩)
        go_ret
        exact ⟨rfl, hb⟩

set_option maxRecDepth 100000 in
set_option maxHeartbeats 8000000 in
theorem diskOwners_t (hS : SortSaid) (a0 a1 a2 a3 : Option Addr) (A C KA KC : List Int) (c0 c1 c2 c3 p0 o0 p1 o1 p2 o2 p3 o3 : Nat) (w : World) (hA : Ints w a0 A p0 o0) (hC : Ints w a1 C p1 o1) (hKA : Ints w a2 KA p2 o2) (hKC : Ints w a3 KC p3 o3)
    (l0 : A.length ≤ 40) (l1 : C.length ≤ 40) (l2 : KA.length ≤ 40) (l3 : KC.length ≤ 40) :
    Calls Try.prog 3 #[.slice a0 A.length c0, .slice a1 C.length c1, .slice a2 KA.length c2, .slice a3 KC.length c3] w fun e w' => e = .returned (.bool true) ∧ Below w.heap.size w w' := by
  have HS := hid hS
  have HA := hid hA
  have HC := hid hC
  have HKA := hid hKA
  have HKC := hid hKC
  clear hS hA hC hKA hKC
  have t0 : (A.length : Int) ≤ 40 := by omega
  have t1 : (C.length : Int) ≤ 40 := by omega
  have t2 : (KA.length : Int) ≤ 40 := by omega
  have t3 : (KC.length : Int) ≤ 40 := by omega
  go_enter Try.func3, Try.ntmps3
  go_wp2_with fail
  refine (kNew 20 w (by omega) (by omega)).mono ?_
  rintro e w1 ⟨bx, gx, Vx, rfl, hx, hbx, hfx⟩
  go_wp2_with fail
  refine (kNew 20 w1 (by omega) (by omega)).mono ?_
  rintro e w2 ⟨by', gy, Vy, rfl, hy, hby, hfy⟩
  have hP : Hid (Pair w.heap.size w w2 bx gx (St.new 20) Vx by' gy (St.new 20) Vy) :=
    ⟨hx.below hby, hy, hbx.trans (hby.mono hbx.size), Nat.le_trans hbx.size hby.size, hfx, fun q hq => Nat.le_trans hbx.size (hfy q hq), fun q h1 h2 => by have := hx.lt h1; have := hfy q h2; omega⟩
  clear hx hbx hfx hy hby hfy
  go_wp2_with fail
  go_loopw [11] (fun c wr => ∃ i : Nat, (i ≤ A.length ∨ i ≤ C.length) ∧ c = .int .i64 i ∧ ∃ X Y V V', Hid (Pair w.heap.size w wr bx gx X V by' gy Y V') ∧ Hid (OI (2 * i) X Y)) (fun c _ => 41 - (intOf c).toNat)
  case atStart => exact ⟨0, by omega, rfl, _, _, Vx, Vy, hP, OI.new⟩
  case round =>
    obtain ⟨i, hi, rfl, X, Y, V, V', P, I⟩ := hrel
    clear hP
    by_cases hla : i < A.length
    · have hla' : (i : Int) < (A.length : Int) := by omega
      obtain ⟨ha1, ha2⟩ := HA.out.at' (by omega)
      subst ha1
      have hca : wr.cell? ⟨p0, o0 + i, none⟩ = some (.int .i64 A[i]) := by rw [P.out.below.cell (by exact ha2)]; exact HA.out.cell i hla
      generalize A[i] = av at hca
      go_wp2_with fail
      refine (kPlace av 1048576 wr (by omega) (by omega)).mono ?_
      rintro e wq ⟨⟨p, rfl, hp0, hp1⟩, rfl⟩
      clear hca
      by_cases hp : p % 5 = 0
      · have hp' : (p % 5 == 0) = true := by simp [hp]
        clear hp
        go_wp2_with fail
        refine (pFlushX P 1 (by omega) (by omega) I.out.dx).mono ?_
        rintro e w3 ⟨rfl, V3, P3⟩
        go_wp2_with fail
        refine (pFlushY P3 1 (by omega) (by omega) I.out.dy).mono ?_
        rintro e w4 ⟨rfl, V4, P4⟩
        replace P4 : Hid (Pair w.heap.size w w4 bx gx (X.flush 1) V3 by' gy (Y.flush 1) V4) := P4
        have I4 := hid I.out.flushA
        clear P P3 I
        by_cases hlb : i < C.length
        · have hlb' : (i : Int) < (C.length : Int) := by omega
          obtain ⟨hc1, hc2⟩ := HC.out.at' (by omega)
          subst hc1
          have hcb : w4.cell? ⟨p1, o1 + i, none⟩ = some (.int .i64 C[i]) := by rw [P4.out.below.cell (by exact hc2)]; exact HC.out.cell i hlb
          generalize C[i] = cv at hcb
          go_wp2_with fail
          refine (kPlace cv 1048576 w4 (by omega) (by omega)).mono ?_
          rintro e wq ⟨⟨q, rfl, hq0, hq1⟩, rfl⟩
          clear hcb
          by_cases hq : q % 5 = 0
          · have hq' : (q % 5 == 0) = true := by simp [hq]
            clear hq
            go_wp2_with fail
            refine (pFlushY P4 2 (by omega) (by omega) I4.out.dy).mono ?_
            rintro e wz ⟨rfl, Vz, Pz⟩
            replace Pz : Hid (Pair w.heap.size w wz bx gx (X.flush 1) _ by' gy ((Y.flush 1).flush 2) Vz) := Pz
            have Iz := hid ((I4.out.flushB).mono (show 2 * i + 0 ≤ 2 * (i + 1) by omega))
            go_wp2_with fail
            refine ⟨⟨i + 1, by omega, by go_num, _, _, _, _, Pz, Iz⟩, by simp [intOf]; omega⟩
          · have hq' : (q % 5 == 0) = false := by simp [hq]
            clear hq
            have hr0 : 0 ≤ q / 5 % 10 := by omega
            have hr1 : q / 5 % 10 < 10 := by omega
            have HF : Hid (Fill (500 + (i : Int)).toNat = Fill (500 + (i : Int)).toNat) := rfl
            have hsz := Fill_size (500 + (i : Int)).toNat
            generalize hGe : Fill (500 + (i : Int)).toNat = G at HF hsz
            have HG := hid hGe
            have Hsz := hid hsz
            clear HF hsz hGe
            go_wp2_with fail
            refine (pFill P4 (500 + (i : Int)) (by omega) (by omega) G HG).mono ?_
            rintro e wy ⟨rfl, Py⟩
            go_wp2_with fail
            refine (pWriteY Py 2 (10 + q / 5 % 10) G (by omega) (by omega) (by omega) (by rw [I4.out.ny]; show 10 + q / 5 % 10 < 20; omega) Hsz.out I4.out.dy (by have := I4.out.wy; omega)).mono ?_
            rintro e wz ⟨rfl, Vz, Pz⟩
            have Iz := hid ((I4.out.writeB (10 + q / 5 % 10).toNat G (by omega)).mono (show 2 * i + 0 + 1 ≤ 2 * (i + 1) by omega))
            go_wp2_with fail
            refine ⟨⟨i + 1, by omega, by go_num, _, _, _, _, Pz, Iz⟩, by simp [intOf]; omega⟩
        · have hlb' : (C.length : Int) ≤ (i : Int) := by omega
          have Iz := hid (I4.out.mono (show 2 * i + 0 ≤ 2 * (i + 1) by omega))
          go_wp2_with fail
          refine ⟨⟨i + 1, by omega, by go_num, _, _, _, _, P4, Iz⟩, by simp [intOf]; omega⟩
      · have hp' : (p % 5 == 0) = false := by simp [hp]
        clear hp
        have hs0 : 0 ≤ p / 5 % 10 := by omega
        have hs1 : p / 5 % 10 < 10 := by omega
        have hsz := Fill_size (i : Int).toNat
        obtain ⟨F, hFe⟩ : ∃ F, Fill (i : Int).toNat = F := ⟨_, rfl⟩
        rw [hFe] at hsz
        have HF := hid hFe
        have HFs := hid hsz
        clear hFe hsz
        go_wp2_with fail
        refine (pFill P (i : Int) (by omega) (by omega) F HF).mono ?_
        rintro e w3 ⟨rfl, P3⟩
        go_wp2_with fail
        refine (pWriteX P3 1 (p / 5 % 10) F (by omega) (by omega) (by omega) (by rw [I.out.nx]; show p / 5 % 10 < 20; omega) HFs.out I.out.dx (by have := I.out.wx; omega)).mono ?_
        rintro e w4 ⟨rfl, V4, P4⟩
        go_wp2_with fail
        refine (pFill P4 (i : Int) (by omega) (by omega) F HF).mono ?_
        rintro e w5 ⟨rfl, P5⟩
        go_wp2_with fail
        refine (pWriteY P5 1 (p / 5 % 10) F (by omega) (by omega) (by omega) (by rw [I.out.ny]; show p / 5 % 10 < 20; omega) HFs.out I.out.dy (by have := I.out.wy; omega)).mono ?_
        rintro e w6 ⟨rfl, V6, P6⟩
        replace P6 : Hid (Pair w.heap.size w w6 bx gx (X.write 1 (p / 5 % 10).toNat F) V4 by' gy (Y.write 1 (p / 5 % 10).toNat F) V6) := P6
        have I6 := hid (I.out.writeA (p / 5 % 10).toNat F (by omega))
        clear P P3 P4 P5 I
        by_cases hlb : i < C.length
        · have hlb' : (i : Int) < (C.length : Int) := by omega
          obtain ⟨hc1, hc2⟩ := HC.out.at' (by omega)
          subst hc1
          have hcb : w6.cell? ⟨p1, o1 + i, none⟩ = some (.int .i64 C[i]) := by rw [P6.out.below.cell (by exact hc2)]; exact HC.out.cell i hlb
          generalize C[i] = cv at hcb
          go_wp2_with fail
          refine (kPlace cv 1048576 w6 (by omega) (by omega)).mono ?_
          rintro e wq ⟨⟨q, rfl, hq0, hq1⟩, rfl⟩
          clear hcb
          by_cases hq : q % 5 = 0
          · have hq' : (q % 5 == 0) = true := by simp [hq]
            clear hq
            go_wp2_with fail
            refine (pFlushY P6 2 (by omega) (by omega) I6.out.dy).mono ?_
            rintro e wz ⟨rfl, Vz, Pz⟩
            replace Pz : Hid (Pair w.heap.size w wz bx gx (X.write 1 (p / 5 % 10).toNat F) _ by' gy ((Y.write 1 (p / 5 % 10).toNat F).flush 2) Vz) := Pz
            have Iz := hid ((I6.out.flushB).mono (show 2 * i + 1 ≤ 2 * (i + 1) by omega))
            go_wp2_with fail
            refine ⟨⟨i + 1, by omega, by go_num, _, _, _, _, Pz, Iz⟩, by simp [intOf]; omega⟩
          · have hq' : (q % 5 == 0) = false := by simp [hq]
            clear hq
            have hr0 : 0 ≤ q / 5 % 10 := by omega
            have hr1 : q / 5 % 10 < 10 := by omega
            have HF : Hid (Fill (500 + (i : Int)).toNat = Fill (500 + (i : Int)).toNat) := rfl
            have hsz := Fill_size (500 + (i : Int)).toNat
            generalize hGe : Fill (500 + (i : Int)).toNat = G at HF hsz
            have HG := hid hGe
            have Hsz := hid hsz
            clear HF hsz hGe
            go_wp2_with fail
            refine (pFill P6 (500 + (i : Int)) (by omega) (by omega) G HG).mono ?_
            rintro e wy ⟨rfl, Py⟩
            go_wp2_with fail
            refine (pWriteY Py 2 (10 + q / 5 % 10) G (by omega) (by omega) (by omega) (by rw [I6.out.ny]; show 10 + q / 5 % 10 < 20; omega) Hsz.out I6.out.dy (by have := I6.out.wy; omega)).mono ?_
            rintro e wz ⟨rfl, Vz, Pz⟩
            have Iz := hid ((I6.out.writeB (10 + q / 5 % 10).toNat G (by omega)).mono (show 2 * i + 1 + 1 ≤ 2 * (i + 1) by omega))
            go_wp2_with fail
            refine ⟨⟨i + 1, by omega, by go_num, _, _, _, _, Pz, Iz⟩, by simp [intOf]; omega⟩
        · have hlb' : (C.length : Int) ≤ (i : Int) := by omega
          have Iz := hid (I6.out.mono (show 2 * i + 1 ≤ 2 * (i + 1) by omega))
          go_wp2_with fail
          refine ⟨⟨i + 1, by omega, by go_num, _, _, _, _, P6, Iz⟩, by simp [intOf]; omega⟩
    · have hla' : (A.length : Int) ≤ (i : Int) := by omega
      by_cases hlb : i < C.length
      · have hlb' : (i : Int) < (C.length : Int) := by omega
        obtain ⟨hc1, hc2⟩ := HC.out.at' (by omega)
        subst hc1
        have hcb : wr.cell? ⟨p1, o1 + i, none⟩ = some (.int .i64 C[i]) := by rw [P.out.below.cell (by exact hc2)]; exact HC.out.cell i hlb
        generalize C[i] = cv at hcb
        go_wp2_with fail
        refine (kPlace cv 1048576 wr (by omega) (by omega)).mono ?_
        rintro e wq ⟨⟨q, rfl, hq0, hq1⟩, rfl⟩
        clear hcb
        by_cases hq : q % 5 = 0
        · have hq' : (q % 5 == 0) = true := by simp [hq]
          clear hq
          go_wp2_with fail
          refine (pFlushY P 2 (by omega) (by omega) I.out.dy).mono ?_
          rintro e wz ⟨rfl, Vz, Pz⟩
          replace Pz : Hid (Pair w.heap.size w wz bx gx X _ by' gy ((Y).flush 2) Vz) := Pz
          have Iz := hid ((I.out.flushB).mono (show 2 * i + 0 ≤ 2 * (i + 1) by omega))
          go_wp2_with fail
          refine ⟨⟨i + 1, by omega, by go_num, _, _, _, _, Pz, Iz⟩, by simp [intOf]; omega⟩
        · have hq' : (q % 5 == 0) = false := by simp [hq]
          clear hq
          have hr0 : 0 ≤ q / 5 % 10 := by omega
          have hr1 : q / 5 % 10 < 10 := by omega
          have HF : Hid (Fill (500 + (i : Int)).toNat = Fill (500 + (i : Int)).toNat) := rfl
          have hsz := Fill_size (500 + (i : Int)).toNat
          generalize hGe : Fill (500 + (i : Int)).toNat = G at HF hsz
          have HG := hid hGe
          have Hsz := hid hsz
          clear HF hsz hGe
          go_wp2_with fail
          refine (pFill P (500 + (i : Int)) (by omega) (by omega) G HG).mono ?_
          rintro e wy ⟨rfl, Py⟩
          go_wp2_with fail
          refine (pWriteY Py 2 (10 + q / 5 % 10) G (by omega) (by omega) (by omega) (by rw [I.out.ny]; show 10 + q / 5 % 10 < 20; omega) Hsz.out I.out.dy (by have := I.out.wy; omega)).mono ?_
          rintro e wz ⟨rfl, Vz, Pz⟩
          have Iz := hid ((I.out.writeB (10 + q / 5 % 10).toNat G (by omega)).mono (show 2 * i + 0 + 1 ≤ 2 * (i + 1) by omega))
          go_wp2_with fail
          refine ⟨⟨i + 1, by omega, by go_num, _, _, _, _, Pz, Iz⟩, by simp [intOf]; omega⟩
      · have hlb' : (C.length : Int) ≤ (i : Int) := by omega
        obtain ⟨nA, hnA⟩ : ∃ n : Int, ((X.waits 1).length : Int) = n := ⟨_, rfl⟩
        have HnX := hid hnA
        have HnY : Hid (((Y.waits 1).length : Int) = nA) := by show ((Y.waits 1).length : Int) = nA; rw [← I.out.len]; exact hnA
        clear hnA
        go_wp2_with fail
        refine (kWaits (hid P.out.dx) 1 (by omega) (by omega) nA HnX.out).mono ?_
        rintro e w3 ⟨rfl, rfl⟩
        go_wp2_with fail
        refine (kWaits (hid P.out.dy) 1 (by omega) (by omega) nA HnY.out).mono ?_
        rintro e w3 ⟨rfl, rfl⟩
        have hP1 := hid (P.out.more ((Below.refl _ wr).alloc (Nat.le_refl _) (.cells #[.slice none 0 0, .slice a2 KA.length c2] 22)))
        have hK2 := hid (keepAt2 (cap := c2) (HKA.out.below P.out.below))
        have hw40 : 2 * i ≤ 10000 := by omega
        have hbx := hid (back_walk HS.out hP1.out.dx [[], KA] wr.heap.size 0 2 _ _ _ _ (by simp) (by simp) (by simp) hK2.out (by simp) (Nat.le_trans I.out.wx hw40))
        clear hw40
        go_wp2_with fail
        refine hbx.out.mono ?_
        rintro e w3 ⟨rfl, LX, VX, hpx, hsx, dX, sX⟩
        have P3 := hid (hP1.out.x dX sX)
        have HpX := hid hpx
        have HsX := hid hsx
        clear hpx hsx dX sX hP1 hK2 hbx
        have hP4 := hid (P3.out.more ((Below.refl _ w3).alloc (Nat.le_refl _) (.cells #[.slice none 0 0, .slice a2 KA.length c2, .slice a3 KC.length c3] 22)))
        have hK3 := hid (keepAt3 (cap := c2) (cap2 := c3) (HKA.out.below P3.out.below) (HKC.out.below P3.out.below))
        have hw40 : 2 * i ≤ 10000 := by omega
        have hby := hid (back_walk HS.out hP4.out.dy [[], KA, KC] w3.heap.size 0 3 _ _ _ _ (by simp) (by simp) (by simp) hK3.out (by simp) (Nat.le_trans I.out.wy hw40))
        clear hw40
        go_wp2_with fail
        refine hby.out.mono ?_
        rintro e w4 ⟨rfl, LY, VY, hpy, hsy, dY, sY⟩
        have P5 := hid (hP4.out.y dY sY)
        have hdur := hid (fun j hj => I.out.back KA KC LX LY HpX.out HsX.out hpy hsy j hj)
        have hnx : Hid ((((X.back LX).n : Nat) : Int) = 20) := by show ((X.n : Nat) : Int) = 20; rw [I.out.nx]; rfl
        have hny : Hid ((((Y.back LY).n : Nat) : Int) = 20) := by show ((Y.n : Nat) : Int) = 20; rw [I.out.ny]; rfl
        have hwx : Hid ((((X.back LX).waits 1).length : Int) = 0) := rfl
        have hdy : Hid ((Y.back LY).down = false) := rfl
        generalize X.back LX = X5 at *
        generalize Y.back LY = Y5 at *
        clear hpy hsy dY sY hP4 hK3 hby P3 HpX HsX P I HnX HnY
        go_wp2_with fail
        go_loopw [14] (fun c wq => ∃ j : Nat, j ≤ 10 ∧ c = .int .i64 j ∧ w4 = wq) (fun c _ => 10 - (intOf c).toNat)
        case atStart => exact ⟨0, by omega, rfl, rfl⟩
        case round =>
          obtain ⟨j, hj, rfl, rfl⟩ := hrel
          by_cases hlt : j < 10
          · obtain ⟨r, hr⟩ : ∃ r, X5.dur j = r := ⟨_, rfl⟩
            have HrX := hid hr
            have HrY : Hid (Y5.dur j = r) := by show Y5.dur j = r; rw [← hdur.out j hlt]; exact hr
            clear hr
            go_wp2_with fail
            refine (kDurable (hid P5.out.dx) (j : Int) (by omega) (by have := hnx.out; omega) r HrX.out).mono ?_
            rintro e w6 ⟨rfl, rfl⟩
            go_wp2_with fail
            refine (kDurable (hid P5.out.dy) (j : Int) (by omega) (by have := hny.out; omega) r HrY.out).mono ?_
            rintro e w6 ⟨rfl, rfl⟩
            go_wp2_with fail
            refine ⟨⟨j + 1, by omega, by go_num, trivial⟩, by simp [intOf]; omega⟩
          · have e : j = 10 := by omega
            subst e
            go_wp2_with fail
            refine (kWaits (hid P5.out.dx) 1 (by omega) (by omega) 0 hwx.out).mono ?_
            rintro e w6 ⟨rfl, rfl⟩
            go_wp2_with fail
            refine (kDown (hid P5.out.dy) false hdy.out).mono ?_
            rintro e w6 ⟨rfl, rfl⟩
            go_wp2_with fail
            refine (awake_t w4).mono ?_
            rintro e w6 ⟨rfl, hb6⟩
            go_wp2_with fail
            go_ret
            exact ⟨rfl, P5.out.below.trans (hb6.mono P5.out.bs)⟩

end Go.Proofs.Ytodfecipeabmlaa
