/- Waits. -/
import Derived.Test.YtgbgklnlmgpmjaaDiskEasy
namespace Go.Proofs.Ytgbgklnlmgpmjaa
open Go.RowKit

set_option maxHeartbeats 400000 in
theorem waits_t (b : Nat) (o : Nat) (ad : Option Addr) (l c : Nat) (w : World) (h : o < 17) (cV : w.cell? ⟨b, 1 + o, none⟩ = some (.slice ad l c)) :
    Calls Try.prog 23 #[.pointer (some ⟨b, 0, none⟩), .int .i64 o] w fun e w' => e = .returned (.int .i64 l) ∧ w = w' := by
  go_enter Try.func23, Try.ntmps23
  go_wp2_with (first | (go_at_call 43; refine (isOwner_yes _ _ (by omega) (by omega)).mono ?_; rintro e w' ⟨rfl, rfl⟩))
  go_ret
  exact ⟨rfl, rfl⟩

set_option maxHeartbeats 400000 in
theorem waits_f (b : Nat) (o : Int) (w : World) (h : o < 0 ∨ 17 ≤ o) :
    Calls Try.prog 23 #[.pointer (some ⟨b, 0, none⟩), .int .i64 o] w fun e w' => e = .returned (.int .i64 0) ∧ w = w' := by
  go_enter Try.func23, Try.ntmps23
  go_wp2_with (first | (go_at_call 43; refine (isOwner_no _ _ h).mono ?_; rintro e w' ⟨rfl, rfl⟩))
  go_ret
  exact ⟨rfl, rfl⟩

section
variable {w : World} {b gd : Nat} {S : St} {V : Nat → Value}

theorem kWaits (h : Hid (Disk w b S gd V)) (o : Int) (h0 : 0 ≤ o) (h1 : o < 17) (n : Int) (hn : ((S.waits o.toNat).length : Int) = n) :
    Calls Try.prog 23 #[.pointer (some ⟨b, 0, none⟩), .int .i64 o] w fun e w' => e = .returned (.int .i64 n) ∧ w = w' := by
  subst hn
  obtain ⟨o, rfl⟩ := Int.eq_ofNat_of_zero_le h0
  have ho : o < 17 := by omega
  have hc := h.out.hd.cV o ho
  rcases (h.out.row o ho).2 with ⟨hv, hn⟩ | ⟨g, cap, cur, hv, _⟩
  · rw [hv] at hc
    show Calls Try.prog 23 _ w fun e w' => e = .returned (.int .i64 (S.waits o).length) ∧ w = w'
    rw [hn]
    exact waits_t b o none 0 0 w ho hc
  · rw [hv] at hc
    exact waits_t b o _ _ cap w ho hc
end
end Go.Proofs.Ytgbgklnlmgpmjaa
