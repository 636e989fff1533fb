/- Which geometries may be. -/
import Derived.Test.YtaiebhkjkeadoaaRows
import Derived.WalkKit
import Derived.WalkSpells
import Derived.WalkLawsBesides
import Derived.Below
namespace Go.Proofs.Ytaiebhkjkeadoaa
open Go.RowKit

theorem geomhid {P : Prop} (h : P) : Hid P := h

theorem geomEnd {k : IntKind} {a b : Int} (h : a = b) : Ending.returned (.int k a) = .returned (.int k b) := by rw [h]

/-- A disk that may be. -/
def GeomOk (S G : Int) : Prop := 32 ≤ G ∧ G ≤ 64 ∧ 48 + 8 * G ≤ S ∧ S ≤ 16384

/-- A geometry as a value. -/
abbrev geomV (S G : Int) : Value := .agg #[.int .i64 S, .int .i64 G]
end Go.Proofs.Ytaiebhkjkeadoaa
