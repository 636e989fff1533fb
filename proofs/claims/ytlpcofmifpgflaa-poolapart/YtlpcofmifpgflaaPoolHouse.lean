/- How houses lie in memory: ten cells each, houses as a slice; what a later world keeps of them. -/
import Derived.Test.YtlpcofmifpgflaaPoolLay
namespace Go.Proofs.Ytlpcofmifpgflaa
open Go.RowKit Pool

/-- A house that lies in ten cells. -/
def HouseAt (w : World) (b o : Nat) (h : Ho) (v : Value) : Prop :=
  w.cell? ⟨b, o, none⟩ = some (.int .i64 h.st) ∧ w.cell? ⟨b, o + 1, none⟩ = some (.int .i64 h.gen) ∧ w.cell? ⟨b, o + 2, none⟩ = some (.int .i64 h.lim.s) ∧ w.cell? ⟨b, o + 3, none⟩ = some (.int .i64 h.lim.hb) ∧
  w.cell? ⟨b, o + 4, none⟩ = some (.int .i64 h.lim.sb) ∧ w.cell? ⟨b, o + 5, none⟩ = some (.int .i64 h.lim.hn) ∧ w.cell? ⟨b, o + 6, none⟩ = some (.int .i64 h.lim.sn) ∧ w.cell? ⟨b, o + 7, none⟩ = some (.int .i64 h.lim.gr) ∧
  w.cell? ⟨b, o + 8, none⟩ = some (.int .i64 h.lim.bu) ∧ w.cell? ⟨b, o + 9, none⟩ = some v ∧ Ints w v h.segs

theorem HouseAt.on {w w' : World} {b o : Nat} {h : Ho} {v : Value} (hh : HouseAt w b o h v) (hb : b < w.heap.size) (k : Below w.heap.size w w') : HouseAt w' b o h v := by
  obtain ⟨h0, h1, h2, h3, h4, h5, h6, h7, h8, h9, hi⟩ := hh
  refine ⟨?_, ?_, ?_, ?_, ?_, ?_, ?_, ?_, ?_, ?_, hi.on k⟩
  all_goals (rw [k.cell hb]; assumption)

/-- Houses that lie as a slice. -/
def Houses (w : World) (v : Value) (l : List Ho) : Prop :=
  ∃ ad cap, v = .slice ad l.length cap ∧ l.length ≤ cap ∧ (0 < l.length → ∃ b off, ad = some ⟨b, off, none⟩ ∧ b < w.heap.size ∧ ∀ i (h : i < l.length), ∃ sv, HouseAt w b (off + i * 10) l[i] sv)

theorem Houses.nil (w : World) : Houses w (.slice none 0 0) [] := ⟨none, 0, rfl, Nat.le_refl _, fun h => absurd h (by simp)⟩
theorem Houses.on {w w' : World} {v : Value} {l : List Ho} (h : Houses w v l) (k : Below w.heap.size w w') : Houses w' v l := by
  obtain ⟨ad, cap, hv, hlc, hc⟩ := h
  refine ⟨ad, cap, hv, hlc, fun hl => ?_⟩
  obtain ⟨b, off, ha, hb, hi⟩ := hc hl
  exact ⟨b, off, ha, Nat.lt_of_lt_of_le hb k.size, fun i h => by obtain ⟨sv, hs⟩ := hi i h; exact ⟨sv, hs.on hb k⟩⟩

/-- A house as a value, its segments' slice v. -/
abbrev houseV (h : Ho) (v : Value) : Value := .agg #[.int .i64 h.st, .int .i64 h.gen, .int .i64 h.lim.s, .int .i64 h.lim.hb, .int .i64 h.lim.sb, .int .i64 h.lim.hn, .int .i64 h.lim.sn, .int .i64 h.lim.gr, .int .i64 h.lim.bu, v]
/-- A house's numbers in memory, its segments' slice behind them. -/
def houseCells (h : Ho) (v : Value) : Array Value := #[.int .i64 h.st, .int .i64 h.gen, .int .i64 h.lim.s, .int .i64 h.lim.hb, .int .i64 h.lim.sb, .int .i64 h.lim.hn, .int .i64 h.lim.sn, .int .i64 h.lim.gr, .int .i64 h.lim.bu, v]
end Go.Proofs.Ytlpcofmifpgflaa
