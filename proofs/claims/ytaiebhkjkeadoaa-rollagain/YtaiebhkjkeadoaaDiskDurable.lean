/- Durable. -/
import Derived.Test.YtaiebhkjkeadoaaDiskEasy
namespace Go.Proofs.Ytaiebhkjkeadoaa
open Go.RowKit

theorem conv_sector (w : World) (g o : Nat) (s : ByteArray) (hs : s.size = 256) (h : Lib.Bytes w g o s) :
    (convert 50 9 (.slice (some ⟨g, o, none⟩) 256 256)).run Try.prog w = .ok (.string s) w := by
  have := Lib.run_convert_whole (P := Try.prog) w 50 5 9 Try.underlying50 Try.underlying5 Try.underlying9 g o s h 256
  rw [hs] at this
  exact this

set_option maxHeartbeats 400000 in
theorem durable_t (b gd n : Nat) (i : Nat) (s : ByteArray) (w : World) (h : i < n) (c0 : w.cell? ⟨b, 0, none⟩ = some (.slice (some ⟨gd, 0, none⟩) n n))
    (hs : s.size = 256) (hb : Lib.Bytes w gd (i * 256) s) :
    Calls Try.prog 25 #[.pointer (some ⟨b, 0, none⟩), .int .i64 i] w fun e w' => e = .returned (.tuple #[.string s, .bool true]) ∧ w = w' := by
  have hcv := conv_sector w gd (i * 256) s hs hb
  clear hb hs
  go_enter Try.func25, Try.ntmps25
  go_wp2_with (first | (go_at_call 23; refine (has_t _ _ _ _ _ c0 (by omega) (by omega)).mono ?_; rintro e w' ⟨rfl, rfl⟩))
  go_ret2
  exact ⟨rfl, rfl⟩

set_option maxHeartbeats 400000 in
theorem durable_f (b gd n : Nat) (i : Int) (w : World) (h : i < 0 ∨ n ≤ i) (c0 : w.cell? ⟨b, 0, none⟩ = some (.slice (some ⟨gd, 0, none⟩) n n)) :
    Calls Try.prog 25 #[.pointer (some ⟨b, 0, none⟩), .int .i64 i] w fun e w' => e = .returned (.tuple #[.string ByteArray.empty, .bool false]) ∧ w = w' := by
  go_enter Try.func25, Try.ntmps25
  go_wp2_with (first | (go_at_call 23; refine (has_f _ _ _ _ _ c0 h).mono ?_; rintro e w' ⟨rfl, rfl⟩))
  go_ret2
  exact ⟨rfl, rfl⟩

section
variable {w : World} {b gd : Nat} {S : St} {V : Nat → Value}

theorem kDurable (h : Hid (Disk w b S gd V)) (i : Int) (h0 : 0 ≤ i) (h1 : i < S.n) (r : ByteArray) (hr : S.dur i.toNat = r) :
    Calls Try.prog 25 #[.pointer (some ⟨b, 0, none⟩), .int .i64 i] w fun e w' => e = .returned (.tuple #[.string r, .bool true]) ∧ w = w' := by
  obtain ⟨i, rfl⟩ := Int.eq_ofNat_of_zero_le h0
  subst hr
  have hi : i < S.n := by omega
  exact durable_t b gd S.n i (S.dur i) w hi h.out.hd.c0 (h.out.du.size hi) (h.out.du.bytes hi)
end
end Go.Proofs.Ytaiebhkjkeadoaa
