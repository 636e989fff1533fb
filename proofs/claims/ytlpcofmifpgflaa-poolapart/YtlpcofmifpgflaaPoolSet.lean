/- A map as a set of numbers: which it holds, how many; what a number more turns. -/
import Derived.Test.YtlpcofmifpgflaaPoolHouse
import Derived.Maps.OwnSet
import Derived.Maps.AppendAt
namespace Go.Proofs.Ytlpcofmifpgflaa
open Go.RowKit Go.Maps Pool

theorem setKeys : Keyed Try.prog 3 := int_keyed Try.underlying3
theorem setZero (w : World) : (zeroValue 42).run Try.prog w = .ok (.agg #[]) w := by kernel_rfl

/-- A set's datum. -/
abbrev Dat := DataW Unit
/-- D holds just the numbers in S, all of them below n. -/
def IsSet (D : Dat) (n : Nat) (S : Int → Bool) : Prop :=
  Tidy D ∧ (∀ x : Int, Maps.has D (.int .i64 x) = S x) ∧ (∀ x, S x = true → 0 ≤ x ∧ x < n) ∧ Maps.size D = cnt S n
theorem IsSet.none (n : Nat) : IsSet (.map []) n (fun _ => false) :=
  ⟨tidy_empty, fun _ => rfl, fun _ h => (by cases h), (cnt_none (fun _ => rfl) n).symm⟩
theorem IsSet.same {D : Dat} {n : Nat} {S S' : Int → Bool} (h : IsSet D n S) (e : ∀ y, S y = S' y) : IsSet D n S' := by
  rw [← funext e]
  exact h
theorem IsSet.put {D : Dat} {n : Nat} {S : Int → Bool} {x : Int} (h : IsSet D n S) (h0 : 0 ≤ x) (h1 : x < n) : IsSet (D.put (.int .i64 x) (.agg [])) n (fun y => S y || (y == x)) := by
  obtain ⟨ht, hh, hb, hs⟩ := h
  have hk : WideAt.IsKeyLit (.int .i64 x) := trivial
  refine ⟨ht.put hk _, fun y => ?_, fun y hy => ?_, ?_⟩
  · by_cases e : y = x
    · subst e
      rw [has_put_same ht.isMap hk]
      simp
    · have e2 : (y == x) = false := beq_eq_false_iff_ne.2 e
      rw [has_put_other (fun h => e (by injection h)), hh]
      show _ = (S y || (y == x))
      rw [e2, Bool.or_false]
  · have hy : (S y || (y == x)) = true := hy
    rw [Bool.or_eq_true] at hy
    rcases hy with hy | hy
    · exact hb y hy
    · have := eq_of_beq hy
      omega
  · rw [size_put ht, hh, hs]
    cases e : S x
    · rw [cnt_more h0 e h1]
      rfl
    · rw [if_pos rfl]
      congr 1
      funext y
      by_cases e2 : y = x
      · subst e2
        rw [e]
        rfl
      · rw [beq_eq_false_iff_ne.2 e2, Bool.or_false]
theorem IsSet.le {D : Dat} {n : Nat} {S : Int → Bool} (h : IsSet D n S) : Maps.size D ≤ n := by
  rw [h.2.2.2]
  exact cnt_le _ _

/-- Block b is a map that reads as D. -/
def OSet (w : World) (b : Nat) (D : Dat) : Prop := w.ownsMap Try.prog 3 unitElem b (Maps.size D) D
theorem OSet.of {w : World} {b n : Nat} {D : Dat} (h : w.ownsMap Try.prog 3 unitElem b n D) : OSet w b D := by
  obtain ⟨es, clock, hb, F, _, rfl⟩ := h
  refine ⟨es, clock, hb, F, ?_, rfl⟩
  simp [Maps.size, length_sorted]
theorem OSet.lt {w : World} {b : Nat} {D : Dat} (h : OSet w b D) : b < w.heap.size := World.ownsMap.lt h
theorem OSet.on {w w' : World} {b : Nat} {D : Dat} (h : OSet w b D) (k : Below w.heap.size w w') : OSet w' b D := by
  have hl := h.lt
  obtain ⟨es, clock, hb, r⟩ := h
  exact ⟨es, clock, by rw [k.block b hl]; exact hb, r⟩
theorem OSet.keep {w w' : World} {b base : Nat} {D : Dat} (h : OSet w b D) (hb : b < base) (k : Below base w w') : OSet w' b D := by
  obtain ⟨es, clock, hh, r⟩ := h
  exact ⟨es, clock, by rw [k.block b hb]; exact hh, r⟩
end Go.Proofs.Ytlpcofmifpgflaa
