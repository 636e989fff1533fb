/- The law's own awake and few walked. -/
import Derived.Test.YtlpcofmifpgflaaPoolFree
namespace Go.Proofs.Ytlpcofmifpgflaa
open Go.RowKit Pool

set_option maxHeartbeats 2000000 in
theorem awake_t12 (w : World) : Calls Try.prog 8 #[] w fun e w' => e = .returned (.bool true) ∧ Below w.heap.size w w' := by
  have TT := poolhid (fun W => take_t12 3 2 [] (.slice none 0 0) W (Houses.nil W) (by simp) (fun x hx => by cases hx))
  have FF := poolhid (fun W => free_t12 3 [] (.slice none 0 0) W (Houses.nil W) (by simp) (fun x hx => by cases hx))
  have e3 : freeL [] (cutN 3) = [0, 1, 2] := by decide
  rw [e3] at TT FF
  go_enter Try.func8, Try.ntmps8
  go_wp2_with fail
  refine (TT.out _).mono ?_
  rintro e w1 ⟨r, ok, m, rfl, hT, hI, -, hB⟩
  have hm : ok = true ∧ m = [0, 1] := by
    rcases hT with ⟨h1, -, -, h2⟩ | ⟨-, h, -⟩
    · exact ⟨h1, h2⟩
    · simp at h
  obtain ⟨rfl, rfl⟩ := hm
  obtain ⟨ad, cap, rfl, -, hlc, hc⟩ := hI
  obtain ⟨b, off, rfl, hb, hi⟩ := hc (by simp)
  have c1 : w1.cell? ⟨b, off + 1, none⟩ = some (.int .i64 1) := hi 1 (by simp)
  have HB := poolhid hB
  have F1 := poolhid (FF.out w1)
  clear hi hc hB TT FF hT e3
  go_wp2_with fail
  refine F1.out.mono ?_
  rintro e w2 ⟨r2, rfl, hO, hB2⟩
  obtain ⟨ad2, cap2, rfl⟩ := hO.slice
  have HB2 : Hid (Below w.heap.size w w2) := HB.out.trans (hB2.mono HB.out.size)
  clear F1 hO hB2
  go_wp2_with fail
  go_ret
  exact ⟨rfl, HB2.out⟩
end Go.Proofs.Ytlpcofmifpgflaa
