/- Down. -/
import Derived.Test.YtgbgklnlmgpmjaaDiskEasy
namespace Go.Proofs.Ytgbgklnlmgpmjaa
open Go.RowKit

set_option maxHeartbeats 400000 in
theorem down_t (b : Nat) (m : Bool) (w : World) (c20 : w.cell? ⟨b, 20, none⟩ = some (.bool m)) :
    Calls Try.prog 30 #[.pointer (some ⟨b, 0, none⟩)] w fun e w' => e = .returned (.bool m) ∧ w = w' := by
  go_enter Try.func30, Try.ntmps30
  go_wp2
  go_ret
  exact ⟨rfl, rfl⟩

section
variable {w : World} {b gd : Nat} {S : St} {V : Nat → Value}

theorem kDown (h : Hid (Disk w b S gd V)) (d : Bool) (hd : S.down = d) : Calls Try.prog 30 #[.pointer (some ⟨b, 0, none⟩)] w fun e w' => e = .returned (.bool d) ∧ w = w' := by
  subst hd; exact down_t b S.down w h.out.hd.c20
end
end Go.Proofs.Ytgbgklnlmgpmjaa
