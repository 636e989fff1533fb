/- Sectors. -/
import Derived.Test.YtgbgklnlmgpmjaaDiskEasy
namespace Go.Proofs.Ytgbgklnlmgpmjaa
open Go.RowKit

set_option maxHeartbeats 400000 in
theorem sectors_t (b n gd : Nat) (w : World) (c0 : w.cell? ⟨b, 0, none⟩ = some (.slice (some ⟨gd, 0, none⟩) n n)) :
    Calls Try.prog 50 #[.pointer (some ⟨b, 0, none⟩)] w fun e w' => e = .returned (.int .i64 n) ∧ w = w' := by
  go_enter Try.func50, Try.ntmps50
  go_wp2
  go_ret
  exact ⟨rfl, rfl⟩

section
variable {w : World} {b gd : Nat} {S : St} {V : Nat → Value}

theorem kSectors (h : Hid (Disk w b S gd V)) (n : Int) (hn : (S.n : Int) = n) : Calls Try.prog 50 #[.pointer (some ⟨b, 0, none⟩)] w fun e w' => e = .returned (.int .i64 n) ∧ w = w' := by
  subst hn; exact sectors_t b S.n gd w h.out.hd.c0
end
end Go.Proofs.Ytgbgklnlmgpmjaa
