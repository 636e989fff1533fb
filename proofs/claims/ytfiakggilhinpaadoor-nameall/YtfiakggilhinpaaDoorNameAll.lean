/- The law NameAll walked. -/
import Derived.Test.YtfiakggilhinpaaDoorNameAwake
import Derived.Test.YtfiakggilhinpaaDoorNameSame
import Derived.Test.YtfiakggilhinpaaDoorNameRefPath
namespace Go.Proofs.YtfiakggilhinpaaDoor
open Go.RowKit

set_option maxHeartbeats 4000000 in
theorem nameAll_t (s : ByteArray) (a : Option Addr) (n c : Nat) (xs : List ByteArray) (w : World) (hn : xs.length = n) (hc : n ≤ c) (hn2 : n ≤ 9223372036854775807) (hs : Strs w a xs) (hsz : s.size ≤ 9223372036854775807) :
    Calls Tryd.prog 3 #[.string s, .slice a n c] w fun e w' => e = .returned (.bool true) ∧ Below w.heap.size w w' := by
  by_cases h1000 : 1000 < s.size
  · go_enter Tryd.func3, Tryd.ntmps3
    go_wp2_with fail
    refine (nawake_t w).mono ?_
    rintro e w1 ⟨rfl, hb1⟩
    go_wp2_with fail
    go_ret
    exact ⟨rfl, hb1⟩
  by_cases h20 : 20 < n
  · go_enter Tryd.func3, Tryd.ntmps3
    go_wp2_with fail
    refine (nawake_t w).mono ?_
    rintro e w1 ⟨rfl, hb1⟩
    go_wp2_with fail
    go_ret
    exact ⟨rfl, hb1⟩
  have HN := namehid hn
  have HS := namehid hs
  clear hn hs
  go_enter Tryd.func3, Tryd.ntmps3
  go_wp2_with fail
  go_loopw [5] (fun iv wr => ∃ i : Nat, iv = .int .i64 i ∧ i ≤ n ∧ Hid (∀ (j : Nat) x, j < i → xs[j]? = some x → x.size ≤ 100) ∧ w = wr) (fun iv _ => n - (intOf iv).toNat)
  case atStart => exact ⟨0, rfl, Nat.zero_le _, fun j _ h => absurd h (Nat.not_lt_zero _), rfl⟩
  case round =>
    obtain ⟨i, rfl, hi, HI, rfl⟩ := hrel
    by_cases hlt : i < n
    · obtain ⟨x, hx⟩ : ∃ x, xs[i]? = some x := ⟨_, List.getElem?_eq_getElem (by rw [HN.out]; exact hlt)⟩
      obtain ⟨bk, o, rfl, hk, hcs⟩ := HS.out.some_ (by intro h; rw [h] at hx; simp at hx)
      have hcell : w.cell? ⟨bk, o + i, none⟩ = some (.string x) := hcs i x hx
      have HX := namehid hx
      clear hcs hx
      by_cases h100 : 100 < x.size
      · clear HI HX
        go_wp2_with fail
        refine (nawake_t w).mono ?_
        rintro e w1 ⟨rfl, hb1⟩
        go_wp2_with fail
        go_ret
        exact ⟨rfl, hb1⟩
      · have HI2 : Hid (∀ (j : Nat) y, j < i + 1 → xs[j]? = some y → y.size ≤ 100) := fun j y h hy => by
          by_cases e : j = i
          · subst e
            have : x = y := Option.some.inj (HX.out.symm.trans hy)
            subst this
            omega
          · exact HI.out j y (by omega) hy
        clear HI HX
        go_wp2_with fail
        exact ⟨⟨i + 1, by go_num, by omega, HI2, trivial⟩, by simp [intOf]; omega⟩
    · have HZ : Hid (∀ (j : Nat) x, xs[j]? = some x → x.size ≤ 9223372036854775807) := fun j x hx => by
        have hj : j < xs.length := (List.getElem?_eq_some_iff.1 hx).1
        have := HI.out j x (by have := HN.out; omega) hx
        omega
      clear HI
      go_wp2_with fail
      refine (path_t s w (by omega)).mono ?_
      rintro e w1 ⟨a1, n1, c1, xs1, rfl, hx1, hc1, h81, hr1, hs1, hb1⟩
      have HB1 := namehid hb1
      have HS1 := namehid hs1
      have HR1 := namehid (And.intro hx1 hr1)
      clear hb1 hs1 hx1 hr1
      go_wp2_with fail
      refine (rpath_t s w1 (by omega)).mono ?_
      rintro e w2 ⟨a2, n2, c2, xs2, rfl, hx2, hc2, h82, hr2, hs2, hb2⟩
      have HB2 := namehid (Below.trans' HB1.out hb2)
      have HE : Hid (xs1 = xs2) := raw_inj (HR1.out.2.trans hr2.symm)
      have HS2 := namehid (And.intro (HS1.out.below hb2) hs2)
      have HL := namehid (And.intro HR1.out.1 hx2)
      clear hb2 hs2 hx2 hr2 HR1 HS1 HB1
      generalize Word.pathB s.data.toList = B at *
      go_wp2_with fail
      refine (check_t s w2).mono ?_
      rintro e w3 ⟨rfl, hb3⟩
      have HB3 := namehid (Below.trans' HB2.out hb3)
      have HS3 := namehid (And.intro (HS2.out.1.below hb3) (HS2.out.2.below hb3))
      clear hb3 HS2 HB2
      have HC := namehid (fun w => rcheck_t s w (by omega))
      generalize Word.chk s.data.toList = K at *
      go_wp2_with fail
      refine (HC.out w3).mono ?_
      rintro e w4 ⟨rfl, rfl⟩
      have HM : Hid (Calls Tryd.prog 13 #[.slice a1 n1 c1, .slice a2 n2 c2] w3 fun e w' => e = .returned (.bool true) ∧ Below w3.heap.size w3 w') := by
        have := same_t a1 a2 n1 n2 c1 c2 xs1 xs2 w3 HL.out.1 HL.out.2 (by omega) HS3.out.1 HS3.out.2
        have e : decide (xs1 = xs2) = true := by simp [HE.out]
        rw [e] at this
        exact this
      clear HC HS3 HE HL
      go_wp2_with fail
      refine HM.out.mono ?_
      rintro e w5 ⟨rfl, hb5⟩
      have HB5 := namehid (Below.trans' HB3.out hb5)
      clear hb5 HB3 HM
      have HJ := namehid (join_t a n c xs w5 HN.out hc (HS.out.below HB5.out))
      have HJ2 := namehid (fun w5 (hb : Below w.heap.size w w5) => rjoin_t a n c xs w5 HN.out hn2 HZ.out (HS.out.below hb))
      generalize joinB xs = J at *
      go_wp2_with fail
      refine HJ.out.mono ?_
      rintro e w6 ⟨rfl, hb6⟩
      have HB6 := namehid (Below.trans' HB5.out hb6)
      have HJ3 := namehid (HJ2.out w6 HB6.out)
      clear hb6 HB5 HJ HJ2
      go_wp2_with fail
      refine HJ3.out.mono ?_
      rintro e w7 ⟨rfl, rfl⟩
      clear HJ3
      go_wp2_with fail
      refine (nawake_t w6).mono ?_
      rintro e w8 ⟨rfl, hb8⟩
      have HB8 := namehid (Below.trans' HB6.out hb8)
      clear hb8 HB6
      go_wp2_with fail
      go_ret
      exact ⟨rfl, HB8.out⟩
end Go.Proofs.YtfiakggilhinpaaDoor
