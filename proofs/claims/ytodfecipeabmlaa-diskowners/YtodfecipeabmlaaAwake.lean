/- The statements' first sentence: a write that waits is lost, one that is flushed stays. -/
import Derived.Test.YtodfecipeabmlaaRead
namespace Go.Proofs.Ytodfecipeabmlaa
open Go.RowKit

/-! ### The contracts, over ints as they stand -/
section
variable {w : World} {b gd : Nat} {S : St} {V : Nat → Value}

theorem kNew (n : Int) (w : World) (h1 : 1 ≤ n) (h2 : n ≤ 16384) :
    Calls Try.prog 8 #[.int .i64 n] w fun e w' => ∃ b gd V, e = .returned (.pointer (some ⟨b, 0, none⟩)) ∧ Disk w' b (St.new n.toNat) gd V ∧ Below w.heap.size w w' ∧ ∀ k, foot b gd V k → w.heap.size ≤ k := by
  obtain ⟨m, rfl⟩ := Int.eq_ofNat_of_zero_le (show 0 ≤ n by omega)
  exact disk_new m w (by omega) (by omega)

theorem kWrite (h : Hid (Disk w b S gd V)) (o i : Int) (s : ByteArray) (h0 : 0 ≤ o) (h1 : o < 17) (h2 : 0 ≤ i) (h3 : i < S.n) (hs : s.size = 256) (hd : S.down = false) (hw : S.writes < 1000000) :
    Calls Try.prog 11 #[.pointer (some ⟨b, 0, none⟩), .int .i64 o, .int .i64 i, .string s] w fun e w' => e = .returned (.bool true) ∧ ∃ V', Hid (Disk w' b (S.write o.toNat i.toNat s) gd V') ∧ Step b gd w V w' V' := by
  obtain ⟨o, rfl⟩ := Int.eq_ofNat_of_zero_le h0
  obtain ⟨i, rfl⟩ := Int.eq_ofNat_of_zero_le h2
  exact disk_write h.out o i s (by omega) (by omega) hs hd hw

theorem kFlush (h : Hid (Disk w b S gd V)) (o : Int) (h0 : 0 ≤ o) (h1 : o < 17) (hd : S.down = false) :
    Calls Try.prog 10 #[.pointer (some ⟨b, 0, none⟩), .int .i64 o] w fun e w' => e = .returned (.bool true) ∧ ∃ V', Hid (Disk w' b (S.flush o.toNat) gd V') ∧ Step b gd w V w' V' := by
  obtain ⟨o, rfl⟩ := Int.eq_ofNat_of_zero_le h0
  exact disk_flush h.out o (by omega) hd

theorem kForget (h : Hid (Disk w b S gd V)) (o : Int) (h0 : 0 ≤ o) (h1 : o < 17) :
    Calls Try.prog 21 #[.pointer (some ⟨b, 0, none⟩), .int .i64 o] w fun e w' => e = .returned (.tuple #[]) ∧ ∃ V', Hid (Disk w' b (S.forget o.toNat) gd V') ∧ Step b gd w V w' V' := by
  obtain ⟨o, rfl⟩ := Int.eq_ofNat_of_zero_le h0
  exact disk_forget h.out o (by omega)

theorem kRead (h : Hid (Disk w b S gd V)) (i : Int) (h0 : 0 ≤ i) (h1 : i < S.n) (hd : S.down = false) (r : ByteArray) (hr : S.read i.toNat = r) :
    Calls Try.prog 18 #[.pointer (some ⟨b, 0, none⟩), .int .i64 i] w fun e w' => e = .returned (.tuple #[.string r, .bool true]) ∧ Hid (Disk w' b S gd V) ∧ Step b gd w V w' V := by
  obtain ⟨i, rfl⟩ := Int.eq_ofNat_of_zero_le h0
  subst hr
  exact (disk_read h.out i (by omega) hd).mono fun _ _ ⟨he, hb⟩ => ⟨he, h.out.below hb, Step.below hb⟩

theorem kDurable (h : Hid (Disk w b S gd V)) (i : Int) (h0 : 0 ≤ i) (h1 : i < S.n) (r : ByteArray) (hr : S.dur i.toNat = r) :
    Calls Try.prog 15 #[.pointer (some ⟨b, 0, none⟩), .int .i64 i] w fun e w' => e = .returned (.tuple #[.string r, .bool true]) ∧ w = w' := by
  obtain ⟨i, rfl⟩ := Int.eq_ofNat_of_zero_le h0
  subst hr
  have hi : i < S.n := by omega
  exact durable_t b gd S.n i (S.dur i) w hi h.out.hd.c0 (h.out.du.size hi) (h.out.du.bytes hi)

theorem kLose (h : Hid (Disk w b S gd V)) :
    Calls Try.prog 14 #[.pointer (some ⟨b, 0, none⟩), .slice none 0 0] w fun e w' => e = .returned (.tuple #[]) ∧ ∃ V', Hid (Disk w' b S.lose gd V') ∧ Step b gd w V w' V' := disk_lose h.out

theorem kSectors (h : Hid (Disk w b S gd V)) (n : Int) (hn : (S.n : Int) = n) : Calls Try.prog 22 #[.pointer (some ⟨b, 0, none⟩)] w fun e w' => e = .returned (.int .i64 n) ∧ w = w' := by
  subst hn; exact sectors_t b S.n gd w h.out.hd.c0
theorem kWrites (h : Hid (Disk w b S gd V)) (n : Int) (hn : (S.writes : Int) = n) : Calls Try.prog 19 #[.pointer (some ⟨b, 0, none⟩)] w fun e w' => e = .returned (.int .i64 n) ∧ w = w' := by
  subst hn; exact writes_t b S.writes w h.out.hd.c18
theorem kDown (h : Hid (Disk w b S gd V)) (d : Bool) (hd : S.down = d) : Calls Try.prog 16 #[.pointer (some ⟨b, 0, none⟩)] w fun e w' => e = .returned (.bool d) ∧ w = w' := by
  subst hd; exact down_t b S.down w h.out.hd.c20

theorem kWaits (h : Hid (Disk w b S gd V)) (o : Int) (h0 : 0 ≤ o) (h1 : o < 17) (n : Int) (hn : ((S.waits o.toNat).length : Int) = n) :
    Calls Try.prog 13 #[.pointer (some ⟨b, 0, none⟩), .int .i64 o] w fun e w' => e = .returned (.int .i64 n) ∧ w = w' := by
  subst hn
  obtain ⟨o, rfl⟩ := Int.eq_ofNat_of_zero_le h0
  have ho : o < 17 := by omega
  have hc := h.out.hd.cV o ho
  rcases (h.out.row o ho).2 with ⟨hv, hn⟩ | ⟨g, cap, cur, hv, _⟩
  · rw [hv] at hc
    show Calls Try.prog 13 _ w fun e w' => e = .returned (.int .i64 (S.waits o).length) ∧ w = w'
    rw [hn]
    exact waits_t b o none 0 0 w ho hc
  · rw [hv] at hc
    exact waits_t b o _ _ cap w ho hc

theorem kFill (h : Hid (Disk w b S gd V)) (v : Int) (h0 : 0 ≤ v) (h1 : v ≤ 100000) :
    Calls Try.prog 12 #[.int .i64 v] w fun e w' => e = .returned (.string (Fill v.toNat)) ∧ Hid (Disk w' b S gd V) ∧ Step b gd w V w' V := by
  obtain ⟨v, rfl⟩ := Int.eq_ofNat_of_zero_le h0
  exact (filled_t v w (by omega)).mono fun _ _ ⟨he, hb⟩ => ⟨he, h.out.below hb, Step.below hb⟩

theorem kZero (h : Hid (Disk w b S gd V)) :
    Calls Try.prog 20 #[] w fun e w' => e = .returned (.string (zbytes 256)) ∧ Hid (Disk w' b S gd V) ∧ Step b gd w V w' V :=
  (zero_t w).mono fun _ _ ⟨he, hb⟩ => ⟨he, h.out.below hb, Step.below hb⟩
end

set_option maxHeartbeats 1000000 in
theorem awake_t (w : World) : Calls Try.prog 7 #[] w fun e w' => e = .returned (.bool true) ∧ Below w.heap.size w w' := by
  go_enter Try.func7, Try.ntmps7
  go_wp2_with fail
  refine (kNew 4 w (by omega) (by omega)).mono ?_
  rintro e w1 ⟨b, gd, V1, rfl, h1, hb1, hf1⟩
  replace h1 : Hid (Disk w1 b (St.new 4) gd V1) := h1
  go_wp2_with fail
  refine (kFill h1 7 (by omega) (by omega)).mono ?_
  rintro e w2 ⟨rfl, h2, s2⟩
  have hx : (Fill (Int.toNat 7)).size = 256 := Fill_size _
  generalize Fill (Int.toNat 7) = x at *
  go_wp2_with fail
  refine (kFill h2 9 (by omega) (by omega)).mono ?_
  rintro e w3 ⟨rfl, h3, s3⟩
  have hy : (Fill (Int.toNat 9)).size = 256 := Fill_size _
  generalize Fill (Int.toNat 9) = y at *
  have Hx := hid hx
  have Hy := hid hy
  clear hx hy
  go_wp2_with fail
  refine (kWrite h3 1 2 x (by omega) (by omega) (by omega) (by show (2 : Int) < (4 : Nat); omega) Hx.out rfl (by show 0 < 1000000; omega)).mono ?_
  rintro e w4 ⟨rfl, V4, h4, s4⟩
  go_wp2_with fail
  refine (kFlush h4 1 (by omega) (by omega) rfl).mono ?_
  rintro e w5 ⟨rfl, V5, h5, s5⟩
  go_wp2_with fail
  refine (kWrite h5 1 2 y (by omega) (by omega) (by omega) (by show (2 : Int) < (4 : Nat); omega) Hy.out rfl (by show 1 < 1000000; omega)).mono ?_
  rintro e w6 ⟨rfl, V6, h6, s6⟩
  go_wp2_with fail
  refine (kRead h6 2 (by omega) (by show (2 : Int) < (4 : Nat); omega) rfl y rfl).mono ?_
  rintro e w7 ⟨rfl, h7, s7⟩
  go_wp2_with fail
  refine (kLose h7).mono ?_
  rintro e w8 ⟨rfl, V8, h8, s8⟩
  go_wp2_with fail
  refine (kRead h8 2 (by omega) (by show (2 : Int) < (4 : Nat); omega) rfl x rfl).mono ?_
  rintro e w9 ⟨rfl, h9, s9⟩
  go_wp2_with fail
  refine (kSectors h9 4 rfl).mono ?_
  rintro e w10 ⟨rfl, rfl⟩
  go_wp2_with fail
  refine (kWrites h9 2 rfl).mono ?_
  rintro e w11 ⟨rfl, rfl⟩
  go_wp2_with fail
  go_ret
  have hs := ((((((s2.trans s3).trans s4).trans s5).trans s6).trans s7).trans s8).trans s9
  exact ⟨rfl, hb1.trans (hs.keep.below hb1.size hf1)⟩

end Go.Proofs.Ytodfecipeabmlaa
