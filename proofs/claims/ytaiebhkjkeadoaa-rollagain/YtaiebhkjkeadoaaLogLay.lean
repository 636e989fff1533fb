/- How a log lies in memory: its head (disk, geometry, numbers, the place, the free ones' slice). -/
import Derived.Test.YtaiebhkjkeadoaaLogPlain
import Derived.Test.YtaiebhkjkeadoaaGeomStart
import Derived.Test.YtaiebhkjkeadoaaNumLay
namespace Go.Proofs.Ytaiebhkjkeadoaa
open Go.RowKit

theorem lohid {P : Prop} (h : P) : Hid P := h

/-- What a log is. -/
structure Lg where
  house : Int
  gen : Int
  num : Int
  life : Int
  clock : Int
  seg : Int
  pos : Int
  next : Int
  seq : Int
  m0 : Int
  m1 : Int
  m2 : Int
  m3 : Int
  sb : Int
  sn : Int
  free : List Int

/-- Its place, as cells and as a value. -/
abbrev plC (L : Lg) : Array Value := #[.int .i64 L.num, .int .i64 L.life, .int .i64 L.clock, .int .i64 L.seg, .int .i64 L.pos, .int .i64 L.next, .int .i64 L.seq, .int .i64 L.m0, .int .i64 L.m1, .int .i64 L.m2, .int .i64 L.m3, .int .i64 L.sb, .int .i64 L.sn]
abbrev plV (L : Lg) : Value := .agg (plC L)
/-- Disk and geometry as a value. -/
abbrev grV (b : Nat) (S G : Int) : Value := .agg #[.pointer (some ⟨b, 0, none⟩), .int .i64 S, .int .i64 G]
/-- A log's cells. -/
abbrev lgC (b : Nat) (S G : Int) (L : Lg) (v : Value) : Array Value :=
  #[.pointer (some ⟨b, 0, none⟩), .int .i64 S, .int .i64 G, .int .i64 L.house, .int .i64 L.gen, .int .i64 L.num, .int .i64 L.life, .int .i64 L.clock, .int .i64 L.seg, .int .i64 L.pos, .int .i64 L.next, .int .i64 L.seq, .int .i64 L.m0, .int .i64 L.m1, .int .i64 L.m2, .int .i64 L.m3, .int .i64 L.sb, .int .i64 L.sn, v]

/-- Numbers as a slice of a row with room behind it maybe, in a block that P lets be. -/
def FreeAt (w : World) (P : Nat → Prop) (v : Value) (l : List Int) : Prop :=
  ∃ ad cap, v = .slice ad l.length cap ∧ l.length ≤ cap ∧ cap ≤ 9223372036854775807 ∧ (0 < cap → ∃ b off cur, ad = some ⟨b, off, none⟩ ∧ P b ∧ w.heap[b]? = some (.cells cur 3 (0, 0)) ∧ off + cap ≤ cur.size ∧ ∀ i (h : i < l.length), cur[off + i]? = some (.int .i64 l[i]))
end Go.Proofs.Ytaiebhkjkeadoaa
