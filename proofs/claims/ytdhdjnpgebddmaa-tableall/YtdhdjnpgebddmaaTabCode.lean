/- The table's small functions walked: within, CheckLimit, rising, checkHouse. -/
import Derived.Test.YtdhdjnpgebddmaaTabPlain
import Derived.WalkSpells
import Derived.WalkLawsBesides
import Derived.Below
import Derived.Deep.QuietTactic
import Derived.BigQuiet
namespace Go.Proofs.Ytdhdjnpgebddmaa
open Go.RowKit Tab

theorem tabhid {P : Prop} (h : P) : Hid P := h
theorem tabBool {a b : Bool} (h : a = b) : Ending.returned (.bool a) = .returned (.bool b) := by rw [h]

set_option maxHeartbeats 400000 in
theorem within_t (v a b : Int) (w : World) : Calls Try.prog 23 #[.int .i64 v, .int .i64 a, .int .i64 b] w fun e w' => e = .returned (.bool (inB v a b)) ∧ w = w' := by
  by_cases h1 : a ≤ v
  · by_cases h2 : v ≤ b
    · have e : Hid (inB v a b = true) := inB_yes h1 h2
      go_enter Try.func23, Try.ntmps23
      go_wp2
      go_ret
      exact ⟨tabBool e.out.symm, rfl⟩
    · have e : Hid (inB v a b = false) := by show _ = _; simp [inB, h2]
      have d : decide (v ≤ b) = false := by simp; omega
      go_enter Try.func23, Try.ntmps23
      go_wp2
      go_ret
      exact ⟨tabBool e.out.symm, rfl⟩
  · have e : Hid (inB v a b = false) := by show _ = _; simp [inB, h1]
    go_enter Try.func23, Try.ntmps23
    go_wp2
    go_ret
    exact ⟨tabBool e.out.symm, rfl⟩

/-- Bounds as a value. -/
abbrev limV (x : Lm) : Value := .agg #[.int .i64 x.s, .int .i64 x.hb, .int .i64 x.sb, .int .i64 x.hn, .int .i64 x.sn, .int .i64 x.gr, .int .i64 x.bu]

set_option maxHeartbeats 2000000 in
theorem checkLimit_t (x : Lm) (w : World) : Calls Try.prog 15 #[limV x] w fun e w' => e = .returned (.bool (limB x)) ∧ Below w.heap.size w w' := by
  obtain ⟨xs, xhb, xsb, xhn, xsn, xgr, xbu⟩ := x
  have HE : Hid (limB ⟨xs, xhb, xsb, xhn, xsn, xgr, xbu⟩ = (inB xs 8 40 && inB xhb 0 100000 && inB xsb 0 xhb && inB xhn 1 255 && inB xsn 1 xhn && inB xgr 0 1099511627776 && inB xbu 0 1000)) := rfl
  have C := tabhid within_t
  show Calls _ _ #[.agg #[.int .i64 xs, .int .i64 xhb, .int .i64 xsb, .int .i64 xhn, .int .i64 xsn, .int .i64 xgr, .int .i64 xbu]] _ _
  go_enter Try.func15, Try.ntmps15
  go_wp2_with (first | (refine (C.out _ _ _ _).mono ?_; rintro e w' ⟨rfl, rfl⟩) | fail)
  all_goals
    go_ret
    refine ⟨tabBool ?_, (Below.refl _ w).alloc (Nat.le_refl _) _⟩
    rw [HE.out]
    clear HE C
    simp only [*, Bool.and_true, Bool.true_and, Bool.and_false, Bool.false_and]
end Go.Proofs.Ytdhdjnpgebddmaa
