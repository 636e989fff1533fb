/- The program's places (package geom) walked, on: Start, At, Room. -/
import Derived.Test.YtnglimdapkhjbaaGeomCode
import Derived.Deep.RegionHeld3
import Derived.Deep.QuietTactic
import Derived.BigQuiet
import Derived.Deep.DeepCutAuto
namespace Go.Proofs.Ytnglimdapkhjbaa
open Go.RowKit

set_option maxHeartbeats 1000000 in
theorem start_yes (S G k q : Int) (w : World) (h : GeomOk S G) (h0 : 0 ≤ k) (hk : k < (S - 48) / G) (hq : k * G = q) (hq0 : 0 ≤ q) (hq1 : q ≤ 16384) :
    Calls Try.prog 8 #[geomV S G, .int .i64 k] w fun e w' => e = .returned (.int .i64 (48 + q)) ∧ Below w.heap.size w w' := by
  have HC := geomhid fun w => segs_yes S G w h
  generalize (S - 48) / G = n at *
  clear h
  go_enter Try.func8, Try.ntmps8
  go_wp2_with fail
  refine (HC.out _).mono ?_
  rintro e w1 ⟨rfl, hb1⟩
  have c1 : w1.cell? ⟨w.heap.size, 1, none⟩ = some (.int .i64 G) := by rw [hb1.cell (by simp)]; simp
  have HB : Hid (Below w.heap.size w w1) := ((Below.refl _ w).alloc (Nat.le_refl _) _).trans (hb1.mono (by simp))
  clear hb1 HC
  go_wp2
  go_ret
  exact ⟨rfl, HB.out⟩

set_option maxHeartbeats 1000000 in
theorem start_less (S G k : Int) (w : World) (hk : k < 0) :
    Calls Try.prog 8 #[geomV S G, .int .i64 k] w fun e w' => e = .returned (.int .i64 0) ∧ Below w.heap.size w w' := by
  go_enter Try.func8, Try.ntmps8
  go_wp2_with fail
  go_ret
  exact ⟨rfl, (Below.refl _ w).alloc (Nat.le_refl _) _⟩

set_option maxHeartbeats 1000000 in
theorem start_behind (S G k : Int) (w : World) (h : GeomOk S G) (hk : (S - 48) / G ≤ k) :
    Calls Try.prog 8 #[geomV S G, .int .i64 k] w fun e w' => e = .returned (.int .i64 0) ∧ Below w.heap.size w w' := by
  have HC := geomhid fun w => segs_yes S G w h
  have h0 : 0 ≤ (S - 48) / G := by
    obtain ⟨h1, h2, h3, h4⟩ := h
    exact Int.ediv_nonneg (by omega) (by omega)
  generalize (S - 48) / G = n at *
  clear h
  have h1 : 0 ≤ k := by omega
  go_enter Try.func8, Try.ntmps8
  go_wp2_with fail
  refine (HC.out _).mono ?_
  rintro e w1 ⟨rfl, hb1⟩
  have HB : Hid (Below w.heap.size w w1) := ((Below.refl _ w).alloc (Nat.le_refl _) _).trans (hb1.mono (by simp))
  clear hb1 HC
  go_wp2
  go_ret
  exact ⟨rfl, HB.out⟩

set_option maxHeartbeats 1000000 in
theorem start_none (S G k : Int) (w : World) (h : ¬ GeomOk S G) :
    Calls Try.prog 8 #[geomV S G, .int .i64 k] w fun e w' => e = .returned (.int .i64 0) ∧ Below w.heap.size w w' := by
  by_cases hk : k < 0
  · exact start_less S G k w hk
  · have HC := geomhid fun w => segs_no S G w h
    clear h
    have h1 : 0 ≤ k := by omega
    clear hk
    go_enter Try.func8, Try.ntmps8
    go_wp2_with fail
    refine (HC.out _).mono ?_
    rintro e w1 ⟨rfl, hb1⟩
    have HB : Hid (Below w.heap.size w w1) := ((Below.refl _ w).alloc (Nat.le_refl _) _).trans (hb1.mono (by simp))
    clear hb1 HC
    go_wp2
    go_ret
    exact ⟨rfl, HB.out⟩

/-- A limit as a value. -/
abbrev limitV (s hb sb hn sn gr bu : Int) : Value := .agg #[.int .i64 s, .int .i64 hb, .int .i64 sb, .int .i64 hn, .int .i64 sn, .int .i64 gr, .int .i64 bu]

/-- How many blocks may live in a house of so many segments. -/
def roomOf (G s : Int) : Int := (max (min s 1099511627776) 4 - 4) * (G / 4)

set_option maxHeartbeats 1000000 in
theorem room_few (S G s hb sb hn sn gr bu : Int) (w : World) (h : GeomOk S G) (hs : s < 4) :
    Calls Try.prog 13 #[geomV S G, limitV s hb sb hn sn gr bu] w fun e w' => e = .returned (.int .i64 0) ∧ Below w.heap.size w w' := by
  have HC := geomhid fun w => check_yes S G w h
  obtain ⟨h1, h2, h3, h4⟩ := h
  have hd : G.tdiv 4 = G / 4 := Int.tdiv_eq_ediv_of_nonneg (by omega)
  obtain ⟨f, hf⟩ : ∃ f, G / 4 = f := ⟨_, rfl⟩
  have hf1 : 0 ≤ f := by omega
  have hf2 : f ≤ 16 := by omega
  rw [hf] at hd
  go_enter Try.func13, Try.ntmps13
  go_wp2_with fail
  refine (HC.out _).mono ?_
  rintro e w1 ⟨rfl, hb1⟩
  have c0 : w1.cell? ⟨w.heap.size, 1, none⟩ = some (.int .i64 G) := by rw [hb1.cell (by simp; omega)]; simp
  have c1 : w1.cell? ⟨w.heap.size + 1, 0, none⟩ = some (.int .i64 s) := by rw [hb1.cell (by simp)]; simp
  have HB : Hid (Below w.heap.size w w1) := ((((Below.refl _ w).alloc (Nat.le_refl _) _).alloc (by simp) _)).trans (hb1.mono (by simp; omega))
  clear hb1 HC
  go_wp2
  go_ret
  exact ⟨geomEnd (by simp), HB.out⟩

set_option maxHeartbeats 1000000 in
theorem room_many (S G s hb sb hn sn gr bu : Int) (w : World) (h : GeomOk S G) (hs : 1099511627776 < s) :
    Calls Try.prog 13 #[geomV S G, limitV s hb sb hn sn gr bu] w fun e w' => e = .returned (.int .i64 (1099511627772 * (G / 4))) ∧ Below w.heap.size w w' := by
  have HC := geomhid fun w => check_yes S G w h
  obtain ⟨h1, h2, h3, h4⟩ := h
  have hd : G.tdiv 4 = G / 4 := Int.tdiv_eq_ediv_of_nonneg (by omega)
  obtain ⟨f, hf⟩ : ∃ f, G / 4 = f := ⟨_, rfl⟩
  have hf1 : 0 ≤ f := by omega
  have hf2 : f ≤ 16 := by omega
  rw [hf] at hd
  rw [hf]
  go_enter Try.func13, Try.ntmps13
  go_wp2_with fail
  refine (HC.out _).mono ?_
  rintro e w1 ⟨rfl, hb1⟩
  have c0 : w1.cell? ⟨w.heap.size, 1, none⟩ = some (.int .i64 G) := by rw [hb1.cell (by simp; omega)]; simp
  have c1 : w1.cell? ⟨w.heap.size + 1, 0, none⟩ = some (.int .i64 s) := by rw [hb1.cell (by simp)]; simp
  have HB : Hid (Below w.heap.size w w1) := ((((Below.refl _ w).alloc (Nat.le_refl _) _).alloc (by simp) _)).trans (hb1.mono (by simp; omega))
  clear hb1 HC
  go_wp2
  go_ret
  exact ⟨rfl, HB.out⟩

set_option maxHeartbeats 1000000 in
theorem room_mid (S G s hb sb hn sn gr bu r : Int) (w : World) (h : GeomOk S G) (hs : 4 ≤ s) (hs2 : s ≤ 1099511627776) (hr : (s - 4) * (G / 4) = r) :
    Calls Try.prog 13 #[geomV S G, limitV s hb sb hn sn gr bu] w fun e w' => e = .returned (.int .i64 r) ∧ Below w.heap.size w w' := by
  have HC := geomhid fun w => check_yes S G w h
  obtain ⟨h1, h2, h3, h4⟩ := h
  have hd : G.tdiv 4 = G / 4 := Int.tdiv_eq_ediv_of_nonneg (by omega)
  obtain ⟨f, hf⟩ : ∃ f, G / 4 = f := ⟨_, rfl⟩
  have hf1 : 0 ≤ f := by omega
  have hf2 : f ≤ 16 := by omega
  rw [hf] at hd hr
  have hr1 : 0 ≤ r := by rw [← hr]; exact Int.mul_nonneg (by omega) hf1
  have hr2 : r ≤ 1099511627776 * 16 := by rw [← hr]; exact Int.mul_le_mul (by omega) hf2 hf1 (by decide)
  go_enter Try.func13, Try.ntmps13
  go_wp2_with fail
  refine (HC.out _).mono ?_
  rintro e w1 ⟨rfl, hb1⟩
  have c0 : w1.cell? ⟨w.heap.size, 1, none⟩ = some (.int .i64 G) := by rw [hb1.cell (by simp; omega)]; simp
  have c1 : w1.cell? ⟨w.heap.size + 1, 0, none⟩ = some (.int .i64 s) := by rw [hb1.cell (by simp)]; simp
  have HB : Hid (Below w.heap.size w w1) := ((((Below.refl _ w).alloc (Nat.le_refl _) _).alloc (by simp) _)).trans (hb1.mono (by simp; omega))
  clear hb1 HC
  go_wp2
  go_ret
  exact ⟨rfl, HB.out⟩

theorem room_four (S G s hb sb hn sn gr bu : Int) (w : World) (h : GeomOk S G) (hs : s ≤ 4) :
    Calls Try.prog 13 #[geomV S G, limitV s hb sb hn sn gr bu] w fun e w' => e = .returned (.int .i64 0) ∧ Below w.heap.size w w' := by
  by_cases h4 : s < 4
  · exact room_few S G s hb sb hn sn gr bu w h h4
  · exact room_mid S G s hb sb hn sn gr bu 0 w h (by omega) (by omega) (by rw [show s - 4 = 0 by omega, Int.zero_mul])

theorem room_yes (S G s hb sb hn sn gr bu : Int) (w : World) (h : GeomOk S G) :
    Calls Try.prog 13 #[geomV S G, limitV s hb sb hn sn gr bu] w fun e w' => e = .returned (.int .i64 (roomOf G s)) ∧ Below w.heap.size w w' := by
  by_cases h1 : s < 4
  · have e : roomOf G s = 0 := by
      unfold roomOf
      rw [show max (min s 1099511627776) 4 - 4 = 0 by omega, Int.zero_mul]
    rw [e]
    exact room_few S G s hb sb hn sn gr bu w h h1
  · by_cases h2 : s ≤ 1099511627776
    · have e : roomOf G s = (s - 4) * (G / 4) := by
        unfold roomOf
        rw [show max (min s 1099511627776) 4 - 4 = s - 4 by omega]
      rw [e]
      exact room_mid S G s hb sb hn sn gr bu _ w h (by omega) h2 rfl
    · have e : roomOf G s = 1099511627772 * (G / 4) := by
        unfold roomOf
        rw [show max (min s 1099511627776) 4 - 4 = 1099511627772 by omega]
      rw [e]
      exact room_many S G s hb sb hn sn gr bu w h (by omega)

set_option maxHeartbeats 1000000 in
theorem room_none (S G s hb sb hn sn gr bu : Int) (w : World) (h : ¬ GeomOk S G) :
    Calls Try.prog 13 #[geomV S G, limitV s hb sb hn sn gr bu] w fun e w' => e = .returned (.int .i64 0) ∧ Below w.heap.size w w' := by
  have HC := geomhid fun w => check_no S G w h
  clear h
  go_enter Try.func13, Try.ntmps13
  go_wp2_with fail
  refine (HC.out _).mono ?_
  rintro e w1 ⟨rfl, hb1⟩
  have HB : Hid (Below w.heap.size w w1) := ((((Below.refl _ w).alloc (Nat.le_refl _) _).alloc (by simp) _)).trans (hb1.mono (by simp; omega))
  clear hb1 HC
  go_wp2
  go_ret
  exact ⟨rfl, HB.out⟩

theorem gwrap (x : Int) (h1 : -9223372036854775808 ≤ x) (h2 : x ≤ 9223372036854775807) : IntKind.i64.wrap x = x := by
  simp only [IntKind.wrap, IntKind.signed, IntKind.bits]
  simp
  omega

/-- Segs answers n. -/
def SegsSaid (S G n : Int) : Prop := ∀ w : World, Calls Try.prog 10 #[geomV S G] w fun e w' => e = .returned (.int .i64 n) ∧ Below w.heap.size w w'

theorem segsSaid_of {S G n : Int} (h : GeomOk S G) (hn : (S - 48) / G = n) : SegsSaid S G n := fun w => by
  have := segs_yes S G w h
  rw [hn] at this
  exact this

theorem segsSaid_no {S G : Int} (h : ¬ GeomOk S G) : SegsSaid S G 0 := fun w => segs_no S G w h

/-- What a call that makes blocks leaves of the two cells. -/
theorem segs_with {S G n : Int} (h : SegsSaid S G n) (w : World) (b : Nat) (c0 : w.cell? ⟨b, 0, none⟩ = some (.int .i64 S)) (c1 : w.cell? ⟨b, 1, none⟩ = some (.int .i64 G)) :
    Calls Try.prog 10 #[geomV S G] w fun e w' => e = .returned (.int .i64 n) ∧ Hid (Below w.heap.size w w') ∧ w'.cell? ⟨b, 0, none⟩ = some (.int .i64 S) ∧ w'.cell? ⟨b, 1, none⟩ = some (.int .i64 G) :=
  (h w).mono fun _ _ ⟨he, hb⟩ => ⟨he, hb, by rw [hb.cell (block_lt_of_cell c0)]; exact c0, by rw [hb.cell (block_lt_of_cell c1)]; exact c1⟩

set_option maxHeartbeats 2000000 in
theorem at_yes (S G s p n : Int) (w : World) (HC : SegsSaid S G n) (hG : 0 < G) (hG2 : G ≤ 64) (h1 : 48 ≤ s) (hp : n * G = p) (hp0 : p ≤ 16384) (h2 : s < 48 + p) :
    Calls Try.prog 7 #[geomV S G, .int .i64 s] w fun e w' => e = .returned (.tuple #[.int .i64 ((s - 48) / G), .int .i64 ((s - 48) % G), .bool true]) ∧ Below w.heap.size w w' := by
  have hd : (s - 48).tdiv G = (s - 48) / G := Int.tdiv_eq_ediv_of_nonneg (by omega)
  have hm : (s - 48).tmod G = (s - 48) % G := Int.tmod_eq_emod_of_nonneg (by omega)
  have hz : (G == 0) = false := by simp; omega
  have b1 : 0 ≤ (s - 48) / G := Int.ediv_nonneg (by omega) (by omega)
  have b2 : (s - 48) / G ≤ s - 48 := Int.ediv_le_self _ (by omega)
  have b3 : 0 ≤ (s - 48) % G := Int.emod_nonneg _ (by omega)
  have b4 : (s - 48) % G < G := Int.emod_lt_of_pos _ (by omega)
  have hp1 : 0 ≤ p := by omega
  generalize (s - 48) / G = a at *
  generalize (s - 48) % G = r at *
  go_enter Try.func7, Try.ntmps7
  go_wp2_with fail
  have c0 : (w.alloc (.cells #[.int .i64 S, .int .i64 G] 24)).cell? ⟨w.heap.size, 0, none⟩ = some (.int .i64 S) := by simp
  have c1 : (w.alloc (.cells #[.int .i64 S, .int .i64 G] 24)).cell? ⟨w.heap.size, 1, none⟩ = some (.int .i64 G) := by simp
  have HB : Hid (Below w.heap.size w (w.alloc (.cells #[.int .i64 S, .int .i64 G] 24))) := (Below.refl _ w).alloc (Nat.le_refl _) _
  generalize hW : w.alloc (.cells #[.int .i64 S, .int .i64 G] 24) = W at *
  clear hW
  go_cut [7] (fun v wc => v = .int .i64 (48 + p) ∧ wc.cell? ⟨w.heap.size, 1, none⟩ = some (.int .i64 G) ∧ Hid (Below w.heap.size w wc))
  case first =>
    go_region_held3 (fun w' => w'.cell? ⟨w.heap.size, 0, none⟩ = some (.int .i64 S) ∧ w'.cell? ⟨w.heap.size, 1, none⟩ = some (.int .i64 G)) (go_keep) (first | (go_at_call 10; refine (segs_with HC _ w.heap.size ?_ ?_).mono ?_; (first | assumption | simp [*]); (first | assumption | simp [*]); rintro e w1 ⟨rfl, hb1, hc1, hc2⟩))
    go_wp2_with fail
    go_meet
    case rel =>
      exact ⟨by rw [gwrap p (by omega) (by omega), gwrap (48 + p) (by omega) (by omega)], hc2, HB.out.trans ((⟨hb1.out.os, hb1.out.tape, hb1.out.output, hb1.out.size, hb1.out.block⟩ : Below W.heap.size W w1).mono HB.out.size)⟩
  case rest =>
    obtain ⟨rfl, hc, HB2⟩ := hcut
    clear c0 c1 HB HC
    go_wp2_with fail
    go_quiet (fail)
    go_wp2_with fail
    go_ret3
    exact ⟨rfl, ⟨HB2.out.os, HB2.out.tape, HB2.out.output, HB2.out.size, HB2.out.block⟩⟩

set_option maxHeartbeats 2000000 in
theorem at_before (S G s p n : Int) (w : World) (HC : SegsSaid S G n) (hp : n * G = p) (hp1 : 0 ≤ p) (hp0 : p ≤ 16384) (h1 : s < 48) :
    Calls Try.prog 7 #[geomV S G, .int .i64 s] w fun e w' => e = .returned (.tuple #[.int .i64 0, .int .i64 0, .bool false]) ∧ Below w.heap.size w w' := by
  go_enter Try.func7, Try.ntmps7
  go_wp2_with fail
  have c0 : (w.alloc (.cells #[.int .i64 S, .int .i64 G] 24)).cell? ⟨w.heap.size, 0, none⟩ = some (.int .i64 S) := by simp
  have c1 : (w.alloc (.cells #[.int .i64 S, .int .i64 G] 24)).cell? ⟨w.heap.size, 1, none⟩ = some (.int .i64 G) := by simp
  have HB : Hid (Below w.heap.size w (w.alloc (.cells #[.int .i64 S, .int .i64 G] 24))) := (Below.refl _ w).alloc (Nat.le_refl _) _
  generalize hW : w.alloc (.cells #[.int .i64 S, .int .i64 G] 24) = W at *
  clear hW
  go_cut [7] (fun v wc => v = .int .i64 (48 + p) ∧ wc.cell? ⟨w.heap.size, 1, none⟩ = some (.int .i64 G) ∧ Hid (Below w.heap.size w wc))
  case first =>
    go_region_held3 (fun w' => w'.cell? ⟨w.heap.size, 0, none⟩ = some (.int .i64 S) ∧ w'.cell? ⟨w.heap.size, 1, none⟩ = some (.int .i64 G)) (go_keep) (first | (go_at_call 10; refine (segs_with HC _ w.heap.size ?_ ?_).mono ?_; (first | assumption | simp [*]); (first | assumption | simp [*]); rintro e w1 ⟨rfl, hb1, hc1, hc2⟩))
    go_wp2_with fail
    go_meet
    case rel =>
      exact ⟨by rw [gwrap p (by omega) (by omega), gwrap (48 + p) (by omega) (by omega)], hc2, HB.out.trans ((⟨hb1.out.os, hb1.out.tape, hb1.out.output, hb1.out.size, hb1.out.block⟩ : Below W.heap.size W w1).mono HB.out.size)⟩
  case rest =>
    obtain ⟨rfl, hc, HB2⟩ := hcut
    clear c0 c1 HB HC
    go_wp2_with fail
    go_ret3
    exact ⟨rfl, ⟨HB2.out.os, HB2.out.tape, HB2.out.output, HB2.out.size, HB2.out.block⟩⟩

set_option maxHeartbeats 2000000 in
theorem at_behind (S G s p n : Int) (w : World) (HC : SegsSaid S G n) (hp : n * G = p) (hp1 : 0 ≤ p) (hp0 : p ≤ 16384) (h2 : 48 + p ≤ s) :
    Calls Try.prog 7 #[geomV S G, .int .i64 s] w fun e w' => e = .returned (.tuple #[.int .i64 0, .int .i64 0, .bool false]) ∧ Below w.heap.size w w' := by
  go_enter Try.func7, Try.ntmps7
  go_wp2_with fail
  have c0 : (w.alloc (.cells #[.int .i64 S, .int .i64 G] 24)).cell? ⟨w.heap.size, 0, none⟩ = some (.int .i64 S) := by simp
  have c1 : (w.alloc (.cells #[.int .i64 S, .int .i64 G] 24)).cell? ⟨w.heap.size, 1, none⟩ = some (.int .i64 G) := by simp
  have HB : Hid (Below w.heap.size w (w.alloc (.cells #[.int .i64 S, .int .i64 G] 24))) := (Below.refl _ w).alloc (Nat.le_refl _) _
  generalize hW : w.alloc (.cells #[.int .i64 S, .int .i64 G] 24) = W at *
  clear hW
  go_cut [7] (fun v wc => v = .int .i64 (48 + p) ∧ wc.cell? ⟨w.heap.size, 1, none⟩ = some (.int .i64 G) ∧ Hid (Below w.heap.size w wc))
  case first =>
    go_region_held3 (fun w' => w'.cell? ⟨w.heap.size, 0, none⟩ = some (.int .i64 S) ∧ w'.cell? ⟨w.heap.size, 1, none⟩ = some (.int .i64 G)) (go_keep) (first | (go_at_call 10; refine (segs_with HC _ w.heap.size ?_ ?_).mono ?_; (first | assumption | simp [*]); (first | assumption | simp [*]); rintro e w1 ⟨rfl, hb1, hc1, hc2⟩))
    go_wp2_with fail
    go_meet
    case rel =>
      exact ⟨by rw [gwrap p (by omega) (by omega), gwrap (48 + p) (by omega) (by omega)], hc2, HB.out.trans ((⟨hb1.out.os, hb1.out.tape, hb1.out.output, hb1.out.size, hb1.out.block⟩ : Below W.heap.size W w1).mono HB.out.size)⟩
  case rest =>
    obtain ⟨rfl, hc, HB2⟩ := hcut
    clear c0 c1 HB HC
    go_wp2_with fail
    go_ret3
    exact ⟨rfl, ⟨HB2.out.os, HB2.out.tape, HB2.out.output, HB2.out.size, HB2.out.block⟩⟩

/-- At, outside every segment, whatever the disk. -/
theorem at_no (S G s p n : Int) (w : World) (HC : SegsSaid S G n) (hp : n * G = p) (hp1 : 0 ≤ p) (hp0 : p ≤ 16384) (h : s < 48 ∨ 48 + p ≤ s) :
    Calls Try.prog 7 #[geomV S G, .int .i64 s] w fun e w' => e = .returned (.tuple #[.int .i64 0, .int .i64 0, .bool false]) ∧ Below w.heap.size w w' := by
  rcases h with h | h
  · exact at_before S G s p n w HC hp hp1 hp0 h
  · exact at_behind S G s p n w HC hp hp1 hp0 h

/-- Two cells of a block, and all below a number as it was. -/
structure Kept (b : Nat) (S G : Int) (w w' : World) : Prop where
  c0 : w'.cell? ⟨b, 0, none⟩ = some (.int .i64 S)
  c1 : w'.cell? ⟨b, 1, none⟩ = some (.int .i64 G)
  below : Below w.heap.size w w'

theorem Kept.on {b : Nat} {S G : Int} {w w1 w2 : World} (h : Kept b S G w w1) (hb : Below w1.heap.size w1 w2) : Kept b S G w w2 :=
  ⟨by rw [hb.cell (block_lt_of_cell h.c0)]; exact h.c0, by rw [hb.cell (block_lt_of_cell h.c1)]; exact h.c1, h.below.trans (hb.mono h.below.size)⟩

theorem Kept.new (S G : Int) (w : World) : Kept w.heap.size S G w (w.alloc (.cells #[.int .i64 S, .int .i64 G] 24)) :=
  ⟨by simp, by simp, (Below.refl _ w).alloc (Nat.le_refl _) _⟩

theorem Kept.drew {b : Nat} {S G : Int} {w w1 : World} (h : Kept b S G w w1) : Kept b S G w w1.drew := ⟨h.c0, h.c1, h.below.drew⟩

end Go.Proofs.Ytnglimdapkhjbaa
