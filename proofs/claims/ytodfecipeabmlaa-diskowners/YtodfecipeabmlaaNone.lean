/- The law DiskNone, walked: whatever the four numbers, true; nothing that was there has turned. -/
import Derived.Test.YtodfecipeabmlaaAwake
namespace Go.Proofs.Ytodfecipeabmlaa
open Go.RowKit

/-- Place, its answer under a name. -/
theorem kPlace (v n : Int) (w : World) (hn : 0 < n) (hn2 : n ≤ 1099511627776) :
    Calls Try.prog 9 #[.int .i64 v, .int .i64 n] w fun e w' => (∃ p : Int, e = .returned (.int .i64 p) ∧ 0 ≤ p ∧ p < n) ∧ w = w' :=
  (place_any v n w hn hn2).mono fun _ _ ⟨he, hw⟩ => ⟨⟨v % n, he, Int.emod_nonneg v (by omega), Int.emod_lt_of_pos v hn⟩, hw⟩

section
variable {w : World} {b gd : Nat} {S : St} {V : Nat → Value}
theorem Disk.up (h : Disk w b S gd V) (hd : S.down = false) : w.cell? ⟨b, 20, none⟩ = some (.bool false) := by rw [← hd]; exact h.hd.c20
theorem kReadNo (h : Hid (Disk w b S gd V)) (i : Int) (hd : S.down = false) (hi : i < 0 ∨ S.n ≤ i) :
    Calls Try.prog 18 #[.pointer (some ⟨b, 0, none⟩), .int .i64 i] w fun e w' => e = .returned (.tuple #[.string ByteArray.empty, .bool false]) ∧ w = w' := read_has b S.n gd i w (h.out.up hd) h.out.hd.c0 hi
theorem kDurableNo (h : Hid (Disk w b S gd V)) (i : Int) (hi : i < 0 ∨ S.n ≤ i) :
    Calls Try.prog 15 #[.pointer (some ⟨b, 0, none⟩), .int .i64 i] w fun e w' => e = .returned (.tuple #[.string ByteArray.empty, .bool false]) ∧ w = w' := durable_f b gd S.n i w hi h.out.hd.c0
theorem kWriteHas (h : Hid (Disk w b S gd V)) (o i : Int) (s : ByteArray) (hd : S.down = false) (h0 : 0 ≤ o) (h1 : o < 17) (hi : i < 0 ∨ S.n ≤ i) :
    Calls Try.prog 11 #[.pointer (some ⟨b, 0, none⟩), .int .i64 o, .int .i64 i, .string s] w fun e w' => e = .returned (.bool false) ∧ w = w' := write_has b S.n gd o i s w (h.out.up hd) h.out.hd.c0 h0 h1 hi
theorem kWriteOwner (h : Hid (Disk w b S gd V)) (o i : Int) (s : ByteArray) (hd : S.down = false) (ho : o < 0 ∨ 17 ≤ o) :
    Calls Try.prog 11 #[.pointer (some ⟨b, 0, none⟩), .int .i64 o, .int .i64 i, .string s] w fun e w' => e = .returned (.bool false) ∧ w = w' := write_owner b o i s w (h.out.up hd) ho
theorem kWriteLen (h : Hid (Disk w b S gd V)) (o i : Int) (s : ByteArray) (hd : S.down = false) (h0 : 0 ≤ o) (h1 : o < 17) (h2 : 0 ≤ i) (h3 : i < S.n) (hs : ((s.size : Int) != 256) = true) :
    Calls Try.prog 11 #[.pointer (some ⟨b, 0, none⟩), .int .i64 o, .int .i64 i, .string s] w fun e w' => e = .returned (.bool false) ∧ w = w' := write_len b S.n gd o i s w (h.out.up hd) h.out.hd.c0 h0 h1 h2 h3 hs
theorem kFlushNo (h : Hid (Disk w b S gd V)) (o : Int) (hd : S.down = false) (ho : o < 0 ∨ 17 ≤ o) :
    Calls Try.prog 10 #[.pointer (some ⟨b, 0, none⟩), .int .i64 o] w fun e w' => e = .returned (.bool false) ∧ w = w' := flush_owner b o w (h.out.up hd) ho
end

/-- The first call of Write in the last statement: at a text of m bytes; then the rest. -/
theorem kShort {w : World} {b gd : Nat} {S : St} {V : Nat → Value} (h : Hid (Disk w b S gd V)) (m : Nat) (hd : S.down = false) (hn : 1 ≤ S.n) (hw : S.writes < 1000000) :
    Calls Try.prog 11 #[.pointer (some ⟨b, 0, none⟩), .int .i64 1, .int .i64 0, .string (zbytes m)] w fun e w' => e = .returned (.bool ((m : Int) == 256)) ∧ ∃ S' V', Hid (Disk w' b S' gd V') ∧ Step b gd w V w' V' ∧ (S.left = 0 → S'.down = false) := by
  by_cases e : m = 256
  · subst e
    refine (kWrite h 1 0 (zbytes 256) (by omega) (by omega) (by omega) (by omega) (zbytes_size 256) hd hw).mono ?_
    rintro e w1 ⟨rfl, V1, h1, s1⟩
    exact ⟨rfl, _, V1, h1, s1, fun h0 => by show (if S.left = 0 then S.down else _) = false; rw [if_pos h0]; exact hd⟩
  · have hb : ((m : Int) == 256) = false := by simp; omega
    refine (kWriteLen h 1 0 (zbytes m) hd (by omega) (by omega) (by omega) (by omega) (by rw [zbytes_size, bne_iff_ne]; omega)).mono ?_
    rintro e w1 ⟨rfl, rfl⟩
    exact ⟨by rw [hb], _, V, h, Step.refl _ _ _ _, fun _ => hd⟩

set_option maxHeartbeats 2000000 in
theorem diskNone_t (v0 v1 v2 v3 : Int) (w : World) :
    Calls Try.prog 6 #[.int .i64 v0, .int .i64 v1, .int .i64 v2, .int .i64 v3] w fun e w' => e = .returned (.bool true) ∧ Below w.heap.size w w' := by
  go_enter Try.func6, Try.ntmps6
  go_wp2_with fail
  refine (kPlace v0 50 w (by omega) (by omega)).mono ?_
  rintro e w1 ⟨⟨p, rfl, hp0, hp1⟩, rfl⟩
  go_wp2_with fail
  refine (kNew (1 + p) w (by omega) (by omega)).mono ?_
  rintro e w1 ⟨b, gd, V1, rfl, h1, hb1, hf1⟩
  replace h1 := hid h1
  go_wp2_with fail
  refine (kSectors h1 (1 + p) (by show ((1 + p).toNat : Int) = 1 + p; omega)).mono ?_
  rintro e w2 ⟨rfl, rfl⟩
  go_wp2_with fail
  refine (kPlace v1 1000 w1 (by omega) (by omega)).mono ?_
  rintro e w2 ⟨⟨q, rfl, hq0, hq1⟩, rfl⟩
  go_wp2_with fail
  refine (kPlace v2 1000 w1 (by omega) (by omega)).mono ?_
  rintro e w2 ⟨⟨r, rfl, hr0, hr1⟩, rfl⟩
  go_wp2_with fail
  refine (kPlace v3 600 w1 (by omega) (by omega)).mono ?_
  rintro e w2 ⟨⟨m, rfl, hm0, hm1⟩, rfl⟩
  go_wp2_with fail
  refine (kZero h1).mono ?_
  rintro e w2 ⟨rfl, h2, s2⟩
  have hz : (zbytes 256).size = 256 := zbytes_size 256
  generalize zbytes 256 = z at *
  have Hz := hid hz
  clear hz
  go_wp2_with fail
  have hSn : ((St.new (1 + p).toNat).n : Int) = 1 + p := by show ((1 + p).toNat : Int) = 1 + p; omega
  have HSn := hid hSn
  clear hSn
  refine (kReadNo h2 (1 + p + q) rfl (by have := HSn.out; omega)).mono ?_
  rintro e w3 ⟨rfl, rfl⟩
  go_wp2_with fail
  refine (kReadNo h2 (-1 - (1 + p + q)) rfl (by omega)).mono ?_
  rintro e w3 ⟨rfl, rfl⟩
  go_wp2_with fail
  refine (kDurableNo h2 (1 + p + q) (by have := HSn.out; omega)).mono ?_
  rintro e w3 ⟨rfl, rfl⟩
  obtain ⟨mN, rfl⟩ := Int.eq_ofNat_of_zero_le hm0
  have hmk := make_bytes mN (by omega) w2
  have hcv := conv_zeros mN w2.heap.size (w2.alloc (.cells (zcells mN) 5)) (heap_alloc_new _ _)
  have hbn : Below w2.heap.size w2 (w2.alloc (.cells (zcells mN) 5)) := (Below.refl _ w2).alloc (Nat.le_refl _) _
  have h3 : Hid (Disk (w2.alloc (.cells (zcells mN) 5)) b (St.new (1 + p).toNat) gd V1) := h2.out.below hbn
  have s3 : Step b gd w2 V1 (w2.alloc (.cells (zcells mN) 5)) V1 := Step.below hbn
  go_wp2_with fail
  clear hmk hcv
  generalize w2.alloc (.cells (zcells mN) 5) = w3 at *
  refine (kWriteHas h3 1 (1 + p + q) z rfl (by omega) (by omega) (by have := HSn.out; omega)).mono ?_
  rintro e w4 ⟨rfl, rfl⟩
  go_wp2_with fail
  refine (kWriteHas h3 1 (-1 - (1 + p + q)) z rfl (by omega) (by omega) (by omega)).mono ?_
  rintro e w4 ⟨rfl, rfl⟩
  go_wp2_with fail
  refine (kWriteOwner h3 (17 + r) 0 z rfl (by omega)).mono ?_
  rintro e w4 ⟨rfl, rfl⟩
  go_wp2_with fail
  refine (kWriteOwner h3 (-(17 + r)) 0 z rfl (by omega)).mono ?_
  rintro e w4 ⟨rfl, rfl⟩
  go_wp2_with fail
  refine (kShort h3 mN rfl (by have := HSn.out; omega) (by show 0 < 1000000; omega)).mono ?_
  rintro e w4 ⟨rfl, S4, V4, h4, s4, hd4⟩
  replace hd4 := hid (hd4 rfl)
  go_wp2_with fail
  refine (kFlushNo h4 (17 + r) hd4.out (by omega)).mono ?_
  rintro e w5 ⟨rfl, rfl⟩
  go_wp2_with fail
  refine (waits_f b (17 + r) w4 (by omega)).mono ?_
  rintro e w5 ⟨rfl, rfl⟩
  go_wp2_with fail
  refine (disk_new_small (-(1 + p)) w4 (by omega)).mono ?_
  rintro e w5 ⟨b5, gd5, V5, rfl, h5, hb5, hf5⟩
  go_wp2_with fail
  refine (disk_new_small (-(1 + p)) w5 (by omega)).mono ?_
  rintro e w6 ⟨b6, gd6, V6, rfl, h6, hb6, hf6⟩
  replace h6 := hid h6
  go_wp2_with fail
  refine (kSectors h6 1 rfl).mono ?_
  rintro e w7 ⟨rfl, rfl⟩
  go_wp2_with fail
  refine (awake_t w6).mono ?_
  rintro e w7 ⟨rfl, hb7⟩
  go_wp2_with fail
  go_ret
  have hs := (s2.trans s3).trans s4
  have k1 : Below w.heap.size w w4 := hb1.trans (hs.keep.below hb1.size hf1)
  have k2 : Below w.heap.size w w5 := k1.trans (hb5.mono k1.size)
  have k3 : Below w.heap.size w w6 := k2.trans (hb6.mono k2.size)
  exact ⟨rfl, k3.trans (hb7.mono k3.size)⟩

end Go.Proofs.Ytodfecipeabmlaa
