/- A found chunk's cells in the row of all. -/
import Derived.Test.YtaiebhkjkeadoaaRollAwake
namespace Go.Proofs.Ytaiebhkjkeadoaa
open Go.RowKit Lo Hdp Chk Rec Rol

/-- A found chunk's cells in the row of all. -/
theorem fnd_cells {w : World} {base : Nat} {ad : Option Addr} {n cap : Nat} {Lv : List Fv} {cs : List Fnd} (h : FOwn w base (.slice ad n cap) Lv) (hm : Lv.map (·.f) = cs) (k : Nat) (hk : k < cs.length) :
    ∃ g had hcap bad bcap, ad = some ⟨g, 0, none⟩ ∧ w.cell? ⟨g, k * 12, none⟩ = some (.int .i64 cs[k].seg) ∧ w.cell? ⟨g, k * 12 + 1, none⟩ = some (.int .i64 cs[k].pos) ∧
      w.cell? ⟨g, k * 12 + 2, none⟩ = some (.int .i64 cs[k].head.house) ∧ w.cell? ⟨g, k * 12 + 3, none⟩ = some (.int .i64 cs[k].head.gen) ∧ w.cell? ⟨g, k * 12 + 4, none⟩ = some (.int .i64 cs[k].head.life) ∧ w.cell? ⟨g, k * 12 + 5, none⟩ = some (.int .i64 cs[k].head.seq) ∧ w.cell? ⟨g, k * 12 + 6, none⟩ = some (.int .i64 cs[k].head.next) ∧ w.cell? ⟨g, k * 12 + 7, none⟩ = some (.int .i64 cs[k].head.clock) ∧ w.cell? ⟨g, k * 12 + 8, none⟩ = some (.int .i64 cs[k].head.sb) ∧ w.cell? ⟨g, k * 12 + 9, none⟩ = some (.int .i64 cs[k].head.sn) ∧
      w.cell? ⟨g, k * 12 + 10, none⟩ = some (.slice had cs[k].head.list.length hcap) ∧ w.cell? ⟨g, k * 12 + 11, none⟩ = some (.slice bad cs[k].bl.length bcap) ∧ Ents w (.slice had cs[k].head.list.length hcap) cs[k].head.list ∧ Txts w (.slice bad cs[k].bl.length bcap) cs[k].bl := by
  subst hm
  have hk2 : k < Lv.length := by rw [List.length_map] at hk; exact hk
  obtain ⟨g, rfl, hc⟩ := h.cells k hk2
  have hp := h.2 Lv[k] (List.getElem_mem hk2)
  have hE := hp.ents
  have hT := hp.txts
  rw [List.getElem_map]
  generalize Lv[k] = p at *
  obtain ⟨f, hv, bv⟩ := p
  have hE2 := hE
  have hT2 := hT
  obtain ⟨had, hcap, e1, -⟩ := hE
  obtain ⟨bad, bcap, e2, -⟩ := hT
  dsimp only at e1 e2 hE2 hT2 hc ⊢
  subst e1 e2
  exact ⟨g, had, hcap, bad, bcap, rfl, hc 0 _ rfl, hc 1 _ rfl, hc 2 _ rfl, hc 3 _ rfl, hc 4 _ rfl, hc 5 _ rfl, hc 6 _ rfl, hc 7 _ rfl, hc 8 _ rfl, hc 9 _ rfl, hc 10 _ rfl, hc 11 _ rfl, hE2, hT2⟩
end Go.Proofs.Ytaiebhkjkeadoaa
