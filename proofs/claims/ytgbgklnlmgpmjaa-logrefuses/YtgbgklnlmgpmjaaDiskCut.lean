/- Cut. -/
import Derived.Test.YtgbgklnlmgpmjaaDiskHeaded
namespace Go.Proofs.Ytgbgklnlmgpmjaa
open Go.RowKit

set_option maxHeartbeats 400000 in
theorem cut_pos (b : Nat) (n lf : Nat) (w : World) (hn : 0 < n) (hn2 : n ≤ 1000000) (c19 : w.cell? ⟨b, 19, none⟩ = some (.int .i64 lf)) (f19 : w.frozen? ⟨b, 19, none⟩ = false) :
    Calls Try.prog 21 #[.pointer (some ⟨b, 0, none⟩), .int .i64 n] w fun e w' => e = .returned (.tuple #[]) ∧ w' = w.setCell ⟨b, 19, none⟩ (.int .i64 n) := by
  have h0 : ((n : Int) == 0) = false := by simp; omega
  go_enter Try.func21, Try.ntmps21
  go_wp2
  go_end0
  exact ⟨rfl, rfl⟩

set_option maxHeartbeats 400000 in
theorem cut_zero (b : Nat) (lf : Nat) (dn : Bool) (w : World) (c19 : w.cell? ⟨b, 19, none⟩ = some (.int .i64 lf)) (f19 : w.frozen? ⟨b, 19, none⟩ = false)
    (c20 : w.cell? ⟨b, 20, none⟩ = some (.bool dn)) (f20 : w.frozen? ⟨b, 20, none⟩ = false) :
    Calls Try.prog 21 #[.pointer (some ⟨b, 0, none⟩), .int .i64 0] w fun e w' => e = .returned (.tuple #[]) ∧ w' = (w.setCell ⟨b, 19, none⟩ (.int .i64 (0 : Nat))).setCell ⟨b, 20, none⟩ (.bool true) := by
  go_enter Try.func21, Try.ntmps21
  go_wp2
  go_end0
  exact ⟨rfl, rfl⟩

def St.cut (S : St) (n : Nat) : St := { S with left := n, down := if n = 0 then true else S.down }

theorem disk_cut {w : World} {b gd : Nat} {S : St} {V : Nat → Value} (h : Disk w b S gd V) (n : Nat) (hn : n ≤ 1000000) :
    Calls Try.prog 21 #[.pointer (some ⟨b, 0, none⟩), .int .i64 n] w fun e w' => e = .returned (.tuple #[]) ∧ Disk w' b (S.cut n) gd V ∧ Step b gd w V w' V := by
  have hok : (S.cut n).Ok := ⟨h.ok.n1, h.ok.n2, h.ok.w2, by show n ≤ _; omega, h.ok.each, h.ok.many⟩
  by_cases e : n = 0
  · subst e
    refine (cut_zero b S.left S.down w h.hd.c19 (h.hd.fr _) h.hd.c20 (h.hd.fr _)).mono ?_
    rintro e w' ⟨rfl, rfl⟩
    exact ⟨rfl, h.headed (S' := S.cut 0) rfl rfl rfl hok ((h.hd.set19 0).set20 true) (Keep.setCell (Keep.setCell (Keep.refl (fun k => k = b) w) (p := ⟨b, 19, none⟩) (fun _ => rfl) _) (p := ⟨b, 20, none⟩) (fun _ => rfl) _)⟩
  · refine (cut_pos b n S.left w (by omega) hn h.hd.c19 (h.hd.fr _)).mono ?_
    rintro e' w' ⟨rfl, rfl⟩
    have hh : DHd (w.setCell ⟨b, 19, none⟩ (.int .i64 n)) b (S.cut n).n gd V (S.cut n).writes (S.cut n).left (S.cut n).down := by
      have := h.hd.set19 n
      show DHd _ b S.n gd V S.writes n (if n = 0 then true else S.down)
      rw [if_neg e]; exact this
    exact ⟨rfl, h.headed (S' := S.cut n) rfl rfl rfl hok hh (Keep.setCell (Keep.refl (fun k => k = b) w) (p := ⟨b, 19, none⟩) (fun _ => rfl) _)⟩
end Go.Proofs.Ytgbgklnlmgpmjaa
