/- Writes. -/
import Derived.Test.YtgbgklnlmgpmjaaDiskEasy
namespace Go.Proofs.Ytgbgklnlmgpmjaa
open Go.RowKit

set_option maxHeartbeats 400000 in
theorem writes_t (b : Nat) (m : Nat) (w : World) (c18 : w.cell? ⟨b, 18, none⟩ = some (.int .i64 m)) :
    Calls Try.prog 22 #[.pointer (some ⟨b, 0, none⟩)] w fun e w' => e = .returned (.int .i64 m) ∧ w = w' := by
  go_enter Try.func22, Try.ntmps22
  go_wp2
  go_ret
  exact ⟨rfl, rfl⟩

section
variable {w : World} {b gd : Nat} {S : St} {V : Nat → Value}

theorem kWrites (h : Hid (Disk w b S gd V)) (n : Int) (hn : (S.writes : Int) = n) : Calls Try.prog 22 #[.pointer (some ⟨b, 0, none⟩)] w fun e w' => e = .returned (.int .i64 n) ∧ w = w' := by
  subst hn; exact writes_t b S.writes w h.out.hd.c18
end
end Go.Proofs.Ytgbgklnlmgpmjaa
