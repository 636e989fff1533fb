/- The law NameBack walked. -/
import Derived.Test.YtfiakggilhinpaaDoorNameAwake
import Derived.Test.YtfiakggilhinpaaDoorNameSame
namespace Go.Proofs.YtfiakggilhinpaaDoor
open Go.RowKit

/-- Are the first i of these names a path's? -/
def goodTo (n : Nat) (xs : List ByteArray) (i : Nat) : Bool := decide (n ≤ 8) && (raw (xs.take i)).all Word.chk

theorem goodTo_succ {n : Nat} {xs : List ByteArray} {i : Nat} {x : ByteArray} (h : xs[i]? = some x) : goodTo n xs (i + 1) = (goodTo n xs i && Word.chk x.data.toList) := by
  unfold goodTo raw
  rw [List.take_add_one, h]
  simp [Bool.and_assoc]

theorem goodTo_all {n : Nat} {xs : List ByteArray} (h : xs.length = n) : goodTo n xs n = Word.pathOk (raw xs) := by
  unfold goodTo Word.pathOk
  rw [raw_length, h, List.take_of_length_le (by omega)]

theorem joinB_data (xs : List ByteArray) : (joinB xs).data.toList = Word.joinL (raw xs) := by simp [joinB]

theorem joinB_size (xs : List ByteArray) : (joinB xs).size ≤ 216 := by
  rw [size_data, joinB_data]
  exact Word.joinL_len _

theorem joinB_path {s : ByteArray} {xs : List ByteArray} (h : raw xs = Word.pathL s.data.toList) (hB : Word.pathB s.data.toList = true) : joinB xs = s := by
  rw [joinB, h, Word.join_path hB, Lib.mk_data]

/-- Path of joined names. -/
theorem pathJoin_t (xs : List ByteArray) (w : World) (h : Word.pathOk (raw xs) = true) :
    Calls Tryd.prog 9 #[.string (joinB xs)] w fun e w' => ∃ (a : Option Addr) (n c : Nat), e = .returned (.tuple #[.slice a n c, .bool true]) ∧ xs.length = n ∧ n ≤ c ∧ Strs w' a xs ∧ Below w.heap.size w w' := by
  refine (path_t (joinB xs) w (by have := joinB_size xs; omega)).mono fun e w' ⟨a, n, c, ys, he, hn, hc, _, hr, hs, hb⟩ => ?_
  have hp := Word.path_of_join h
  rw [joinB_data] at he hr
  rw [hp.2] at hr
  rw [hp.1] at he
  have e2 := raw_inj hr
  subst e2
  exact ⟨a, n, c, he, hn, hc, hs, hb⟩

set_option maxHeartbeats 4000000 in
theorem nameBack_t (s : ByteArray) (a : Option Addr) (n c : Nat) (xs : List ByteArray) (w : World) (hn : xs.length = n) (hc : n ≤ c) (hn2 : n ≤ 9223372036854775807) (hs : Strs w a xs) (hsz : s.size ≤ 9223372036854775807) :
    Calls Tryd.prog 4 #[.string s, .slice a n c] w fun e w' => e = .returned (.bool true) ∧ Below w.heap.size w w' := by
  by_cases h1000 : 1000 < s.size
  · go_enter Tryd.func4, Tryd.ntmps4
    go_wp2_with fail
    refine (nawake_t w).mono ?_
    rintro e w1 ⟨rfl, hb1⟩
    go_wp2_with fail
    go_ret
    exact ⟨rfl, hb1⟩
  by_cases h20 : 20 < n
  · go_enter Tryd.func4, Tryd.ntmps4
    go_wp2_with fail
    refine (nawake_t w).mono ?_
    rintro e w1 ⟨rfl, hb1⟩
    go_wp2_with fail
    go_ret
    exact ⟨rfl, hb1⟩
  have HN := namehid hn
  have HS := namehid hs
  clear hn hs
  go_enter Tryd.func4, Tryd.ntmps4
  go_wp2_with fail
  refine (path_t s w (by omega)).mono ?_
  rintro e w1 ⟨a1, n1, c1, xs1, rfl, hx1, hc1, h81, hr1, hs1, hb1⟩
  have HB1 := namehid hb1
  have HE : Hid (Word.pathB s.data.toList = true → joinB xs1 = s) := fun h => joinB_path hr1 h
  have HJ1 := namehid (join_t a1 n1 c1 xs1 w1 hx1 hc1 hs1)
  clear hb1 hx1 hr1 hs1
  generalize Word.pathB s.data.toList = B at *
  cases B
  case' true =>
    have HE' := HE.out rfl
    rw [HE'] at HJ1
    clear HE HE'
    go_wp2_with fail
    refine HJ1.out.mono ?_
    rintro e w2 ⟨rfl, hb2⟩
    have HW := namehid (Below.trans' HB1.out hb2)
    clear hb2 HJ1 HB1
  case' false =>
    have HW := HB1
    clear HE HJ1 HB1
  all_goals
    go_wp2_with fail
    go_loopw [7, 8] (fun gv iv wr => ∃ (i : Nat) (G : Bool), gv = .bool G ∧ iv = .int .i64 i ∧ i ≤ n ∧ Hid (G = goodTo n xs i) ∧ Hid (Below w.heap.size w wr)) (fun _ iv _ => n - (intOf iv).toNat)
    case atStart =>
      refine ⟨0, goodTo n xs 0, ?_, rfl, Nat.zero_le _, rfl, HW⟩
      simp [goodTo, raw]
      omega
    case round =>
      obtain ⟨i, G, rfl, rfl, hi, HG, HWr⟩ := hrel
      by_cases hlt : i < n
      · obtain ⟨x, hx⟩ : ∃ x, xs[i]? = some x := ⟨_, List.getElem?_eq_getElem (by rw [HN.out]; exact hlt)⟩
        obtain ⟨bk, o, rfl, hk, hcs⟩ := HS.out.some_ (by intro h; rw [h] at hx; simp at hx)
        have hcell : wr.cell? ⟨bk, o + i, none⟩ = some (.string x) := by rw [HWr.out.cell hk]; exact hcs i x hx
        have HG2 : Hid ((G && Word.chk x.data.toList) = goodTo n xs (i + 1)) := by
          show _ = _
          rw [goodTo_succ hx, ← HG.out]
        clear hcs hx HG
        cases G with
        | true =>
          go_wp2_with fail
          refine (check_t x wr).mono ?_
          rintro e w3 ⟨rfl, hb3⟩
          have HW3 := namehid (Below.trans' HWr.out hb3)
          clear hb3 hcell
          generalize Word.chk x.data.toList = K at *
          go_wp2_with fail
          exact ⟨⟨i + 1, K, by simp, by go_num, by omega, by simpa using HG2, HW3⟩, by simp [intOf]; omega⟩
        | false =>
          clear hcell
          go_wp2_with fail
          exact ⟨⟨i + 1, false, rfl, by go_num, by omega, by simpa using HG2, HWr⟩, by simp [intOf]; omega⟩
      · have hin : i = n := by omega
        subst hin
        have HG2 : Hid (G = Word.pathOk (raw xs)) := by
          show _ = _
          rw [HG.out, goodTo_all HN.out]
        have HJ := namehid (join_t a i c xs wr HN.out hc (HS.out.below HWr.out))
        clear HG
        cases G with
        | true =>
          have HP := namehid (fun w => pathJoin_t xs w HG2.out.symm)
          generalize joinB xs = J at *
          go_wp2_with fail
          refine HJ.out.mono ?_
          rintro e w3 ⟨rfl, hb3⟩
          have HW3 := namehid (Below.trans' HWr.out hb3)
          clear hb3 HJ HWr
          go_wp2_with fail
          refine (HP.out w3).mono ?_
          rintro e w4 ⟨a4, n4, c4, rfl, hn4, hc4, hs4, hb4⟩
          have HW4 := namehid (Below.trans' HW3.out hb4)
          have HE : Hid (Calls Tryd.prog 13 #[.slice a4 n4 c4, .slice a i c] w4 fun e w' => e = .returned (.bool true) ∧ Below w4.heap.size w4 w') := by
            have := same_t a4 a n4 i c4 c xs xs w4 hn4 HN.out (by have := HN.out; omega) hs4 (HS.out.below HW4.out)
            have e : decide (xs = xs) = true := by simp
            rw [e] at this
            exact this
          clear hb4 HP HW3 hn4 hs4
          go_wp2_with fail
          refine HE.out.mono ?_
          rintro e w5 ⟨rfl, hb5⟩
          have HW5 := namehid (Below.trans' HW4.out hb5)
          clear hb5 HW4 HE
          go_wp2_with fail
          refine (nawake_t w5).mono ?_
          rintro e w6 ⟨rfl, hb6⟩
          have HW6 := namehid (Below.trans' HW5.out hb6)
          clear hb6 HW5
          go_wp2_with fail
          go_ret
          exact ⟨rfl, HW6.out⟩
        | false =>
          have hJ : joinB xs = ⟨#[]⟩ := by rw [joinB, Word.joinL_no HG2.out.symm]
          rw [hJ] at HJ
          clear hJ
          go_wp2_with fail
          refine HJ.out.mono ?_
          rintro e w3 ⟨rfl, hb3⟩
          have HW3 := namehid (Below.trans' HWr.out hb3)
          clear hb3 HJ HWr
          go_wp2_with fail
          refine (nawake_t w3).mono ?_
          rintro e w4 ⟨rfl, hb4⟩
          have HW4 := namehid (Below.trans' HW3.out hb4)
          clear hb4 HW3
          go_wp2_with fail
          go_ret
          exact ⟨rfl, HW4.out⟩
end Go.Proofs.YtfiakggilhinpaaDoor
