/- The law GeomRooms walked: a house of more segments has more room, by a quarter of a segment each; with none there is none. -/
import Derived.Test.YtnglimdapkhjbaaGeomMore
import Derived.Lib.MinMax
namespace Go.Proofs.Ytnglimdapkhjbaa
open Go.RowKit

/-- Room at whatever number, and the two cells of a geometry that lies there, kept. -/
theorem room_with {S G f : Int} (h : GeomOk S G) (hf : G / 4 = f) (s : Int) (w : World) (b : Nat) (h1 : 4 ≤ s) (h2 : s ≤ 1003) (c0 : w.cell? ⟨b, 0, none⟩ = some (.int .i64 S)) (c1 : w.cell? ⟨b, 1, none⟩ = some (.int .i64 G)) :
    Calls Try.prog 13 #[geomV S G, limitV s 0 0 0 0 0 0] w fun e w' => e = .returned (.int .i64 ((s - 4) * f)) ∧ Hid (Below w.heap.size w w') ∧ w'.cell? ⟨b, 0, none⟩ = some (.int .i64 S) ∧ w'.cell? ⟨b, 1, none⟩ = some (.int .i64 G) :=
  (room_mid S G s 0 0 0 0 0 0 _ w h h1 (by omega) (by rw [hf])).mono fun _ _ ⟨he, hb⟩ => ⟨he, hb, by rw [hb.cell (block_lt_of_cell c0)]; exact c0, by rw [hb.cell (block_lt_of_cell c1)]; exact c1⟩

set_option maxHeartbeats 4000000 in
theorem geomRooms_w (a b c p x y f r s : Int) (w : World) (hp : a % 33 = p) (hx : 4 + b % 1000 = x) (hy : 4 + c % 1000 = y) (hf : (32 + p) / 4 = f) (hr : (x - 4) * f = r) (hs : (y - 4) * f = s) :
    Calls Try.prog 5 #[.int .i64 a, .int .i64 b, .int .i64 c] w fun e w' => e = .returned (.bool true) ∧ Below w.heap.size w w' := by
  have hp1 : 0 ≤ p := by omega
  have hp2 : p < 33 := by omega
  obtain ⟨u, hu⟩ : ∃ u, b % 1000 = u := ⟨_, rfl⟩
  obtain ⟨v, hv⟩ : ∃ v, c % 1000 = v := ⟨_, rfl⟩
  rw [hu] at hx
  rw [hv] at hy
  have hx1 : 4 ≤ x := by omega
  have hx2 : x ≤ 1003 := by omega
  have hy1 : 4 ≤ y := by omega
  have hy2 : y ≤ 1003 := by omega
  obtain ⟨m, hm⟩ : ∃ m, 32 + p = m := ⟨_, rfl⟩
  rw [hm] at hf
  have hm1 : 32 ≤ m := by omega
  have hm2 : m ≤ 64 := by omega
  have P1 := geomhid fun w => gplace_t a 33 w (by decide) (by decide)
  have P2 := geomhid fun w => gplace_t b 1000 w (by decide) (by decide)
  have P3 := geomhid fun w => gplace_t c 1000 w (by decide) (by decide)
  rw [hp] at P1
  rw [hu] at P2
  rw [hv] at P3
  clear hp hu hv hp1 hp2
  have hd : m.tdiv 4 = f := by rw [Int.tdiv_eq_ediv_of_nonneg (by omega)]; exact hf
  have hok : GeomOk 16384 m := by unfold GeomOk; omega
  have HO := geomhid (And.intro hok hf)
  have C3 := geomhid fun w => room_four 16384 m 4 0 0 0 0 0 0 w hok (by omega)
  have C4 := geomhid fun w => room_four 16384 m (-x) 0 0 0 0 0 0 w hok (by omega)
  have C5 := geomhid fun w => room_none 5 32 x 0 0 0 0 0 0 w (by unfold GeomOk; omega)
  have hf1 : 0 ≤ f := by omega
  have hf2 : f ≤ 16 := by omega
  have hr1 : 0 ≤ r := by rw [← hr]; exact Int.mul_nonneg (by omega) hf1
  have hr2 : r ≤ 1000 * 16 := by rw [← hr]; exact Int.mul_le_mul (by omega) hf2 hf1 (by decide)
  have hs1 : 0 ≤ s := by rw [← hs]; exact Int.mul_nonneg (by omega) hf1
  have hs2 : s ≤ 1000 * 16 := by rw [← hs]; exact Int.mul_le_mul (by omega) hf2 hf1 (by decide)
  have hrs : (x - y) * f = r - s := by rw [← hr, ← hs, ← Int.sub_mul]; congr 1; omega
  clear hok hf
  go_enter Try.func5, Try.ntmps5
  go_wp2_with fail
  refine (P1.out _).mono ?_
  rintro e w1 ⟨rfl, rfl⟩
  clear P1
  go_wp2_with fail
  refine (P2.out _).mono ?_
  rintro e w1 ⟨rfl, rfl⟩
  clear P2
  go_wp2_with fail
  refine (P3.out _).mono ?_
  rintro e w1 ⟨rfl, rfl⟩
  clear P3
  go_wp2_with fail
  have KK := geomhid (Kept.new 16384 m w)
  generalize w.alloc (.cells #[.int .i64 16384, .int .i64 m] 24) = W at *
  have c0 := KK.out.c0
  have c1 := KK.out.c1
  go_cut [10, 11] (fun v1 v2 wc => v1 = .int .i64 r ∧ v2 = .int .i64 s ∧ Hid (Kept w.heap.size 16384 m w wc))
  case first =>
    go_region_held3 (fun w' => w'.cell? ⟨w.heap.size, 0, none⟩ = some (.int .i64 16384) ∧ w'.cell? ⟨w.heap.size, 1, none⟩ = some (.int .i64 m)) (go_keep) (first | (go_at_call 13; refine (room_with HO.out.1 HO.out.2 _ _ w.heap.size ?_ ?_ ?_ ?_).mono ?_; (omega); (omega); (first | assumption | simp [*]); (first | assumption | simp [*]); rintro e w1 ⟨rfl, hb1, hc1, hc2⟩))
    go_wp2_with fail
    go_meet
    case rel =>
      have hA := ‹Hid (Below W.drew.heap.size W.drew _)›
      exact ⟨rfl, rfl, geomhid ((KK.out.drew.on hA.out).on hb1.out)⟩
  case rest =>
    obtain ⟨rfl, rfl, KK⟩ := hcut
    clear c0 c1 hr hs HO
    have c0 := KK.out.c0
    have c1 := KK.out.c1
    go_wp2_with fail
    refine (C3.out _).mono ?_
    rintro e w1 ⟨rfl, hb⟩
    replace KK := geomhid (KK.out.on hb)
    clear hb c0 c1 C3
    have c0 := KK.out.c0
    have c1 := KK.out.c1
    go_wp2_with fail
    refine (C4.out _).mono ?_
    rintro e w1 ⟨rfl, hb⟩
    replace KK := geomhid (KK.out.on hb)
    clear hb c0 c1 C4
    have c0 := KK.out.c0
    have c1 := KK.out.c1
    go_wp2_with fail
    refine (C5.out _).mono ?_
    rintro e w1 ⟨rfl, hb⟩
    replace KK := geomhid (KK.out.on hb)
    clear hb c0 c1 C5
    have c0 := KK.out.c0
    have c1 := KK.out.c1
    go_wp2_with fail
    refine (gawake_t _).mono ?_
    rintro e w1 ⟨rfl, hb⟩
    replace KK := geomhid (KK.out.on hb)
    clear hb c0 c1
    have c0 := KK.out.c0
    have c1 := KK.out.c1
    go_wp2_with fail
    go_ret
    exact ⟨rfl, KK.out.below⟩

theorem geomRooms_t (a b c : Int) (w : World) :
    Calls Try.prog 5 #[.int .i64 a, .int .i64 b, .int .i64 c] w fun e w' => e = .returned (.bool true) ∧ Below w.heap.size w w' :=
  geomRooms_w a b c _ _ _ _ _ _ w rfl rfl rfl rfl rfl rfl
end Go.Proofs.Ytnglimdapkhjbaa
