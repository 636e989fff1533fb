/- The document's sameness: a head is the same as itself, wherever its lists lie: Same walked. -/
import Derived.Test.YtaiebhkjkeadoaaHeadFar
import Derived.Deep.QuietTactic
import Derived.BigQuiet
namespace Go.Proofs.Ytaiebhkjkeadoaa
open Go.RowKit Rec Hdp

theorem below_drewN {B : Nat} {a w : World} (h : Below B a w) (n : Nat) : Below B a (w.drewN n) := ⟨h.os, h.tape, h.output, h.size, h.block⟩

set_option maxRecDepth 10000 in
set_option maxHeartbeats 8000000 in
theorem same_t (x : Hd) (v v' : Value) (w : World) (hE : Ents w v x.list) (hE' : Ents w v' x.list) (hl : x.list.length ≤ 1000) :
    Calls Try.prog 16 #[headV x v, headV x v'] w fun e w' => e = .returned (.bool true) ∧ Below w.heap.size w w' := by
  have HE := hdhid hE
  have HE' := hdhid hE'
  obtain ⟨ad, cap, rfl, _, hc⟩ := hE
  obtain ⟨ad', cap', rfl, _, hc'⟩ := hE'
  clear hc hc'
  obtain ⟨house, gen, life, seq, next, clock, sb, sn, l⟩ := x
  have hl2 : l.length ≤ 1000 := hl
  clear hl
  show Calls _ _ #[.agg #[.int .i64 house, .int .i64 gen, .int .i64 life, .int .i64 seq, .int .i64 next, .int .i64 clock, .int .i64 sb, .int .i64 sn, .slice ad l.length cap], .agg #[.int .i64 house, .int .i64 gen, .int .i64 life, .int .i64 seq, .int .i64 next, .int .i64 clock, .int .i64 sb, .int .i64 sn, .slice ad' l.length cap']] _ _
  go_enter Try.func16, Try.ntmps16
  go_wp2_with fail
  generalize hW : (w.alloc _).alloc _ = W
  have a8 : W.cell? ⟨w.heap.size, 8, none⟩ = some (.slice ad l.length cap) := by rw [← hW]; simp
  have b8 : W.cell? ⟨w.heap.size + 1, 8, none⟩ = some (.slice ad' l.length cap') := by rw [← hW]; simp
  have HB : Hid (Below w.heap.size w W) := by rw [← hW]; exact ((Below.refl _ w).alloc (Nat.le_refl _) _).alloc (by simp) _
  clear hW
  go_loopw [5] (fun c wr => ∃ k n : Nat, k ≤ l.length ∧ c = .int .i64 k ∧ wr = W.drewN n) (fun c _ => l.length - (intOf c).toNat)
  case atStart => exact ⟨0, 0, by omega, rfl, rfl⟩
  case round =>
    obtain ⟨k, n, hk, rfl, rfl⟩ := hrel
    by_cases hlt : k < l.length
    · obtain ⟨_, _, hv, _, hc⟩ := HE.out.on HB.out
      cases hv
      obtain ⟨_, _, hv, _, hc'⟩ := HE'.out.on HB.out
      cases hv
      obtain ⟨b, off, rfl, hb, hcell⟩ := hc (by show 0 < l.length; omega)
      obtain ⟨b', off', rfl, hb', hcell'⟩ := hc' (by show 0 < l.length; omega)
      obtain ⟨c0, c1, c2⟩ := hcell k hlt
      obtain ⟨d0, d1, d2⟩ := hcell' k hlt
      clear hcell hcell' hc hc' HE HE'
      generalize l[k] = y at *
      obtain ⟨kind, node, part⟩ := y
      have k0 : (0 : Int) ≤ (k : Int) := by omega
      have k1 : (k : Int) < (l.length : Int) := by omega
      go_wp2_with fail
      go_quiet (fail)
      go_wp2_with fail
      exact ⟨⟨k + 1, _, by omega, by go_num, rfl⟩, by simp [intOf]; omega⟩
    · go_wp2_with fail
      go_ret
      exact ⟨rfl, below_drewN HB.out _⟩
end Go.Proofs.Ytaiebhkjkeadoaa
