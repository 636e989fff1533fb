/- How numbers and houses lie in memory: a list of numbers as a slice, a house as ten cells, houses as a slice; what a later world keeps of them. -/
import Derived.Test.YtdhdjnpgebddmaaTabCode
namespace Go.Proofs.Ytdhdjnpgebddmaa
open Go.RowKit Tab

/-- Numbers that lie as a slice. -/
def Ints (w : World) (v : Value) (l : List Int) : Prop :=
  ∃ ad cap, v = .slice ad l.length cap ∧ (ad = none → cap = 0) ∧ (0 < l.length → ∃ b off, ad = some ⟨b, off, none⟩ ∧ b < w.heap.size ∧ ∀ i (h : i < l.length), w.cell? ⟨b, off + i, none⟩ = some (.int .i64 l[i]))

theorem Ints.nil (w : World) : Ints w (.slice none 0 0) [] := ⟨none, 0, rfl, fun _ => rfl, fun h => absurd h (by simp)⟩

theorem Ints.on {w w' : World} {v : Value} {l : List Int} (h : Ints w v l) (k : Below w.heap.size w w') : Ints w' v l := by
  obtain ⟨ad, cap, hv, hn, hc⟩ := h
  refine ⟨ad, cap, hv, hn, fun hl => ?_⟩
  obtain ⟨b, off, ha, hb, hi⟩ := hc hl
  exact ⟨b, off, ha, Nat.lt_of_lt_of_le hb k.size, fun i h => by rw [k.cell hb]; exact hi i h⟩

/-- A house that lies in ten cells. -/
def HouseAt (w : World) (b o : Nat) (h : Ho) (v : Value) : Prop :=
  w.cell? ⟨b, o, none⟩ = some (.int .i64 h.st) ∧ w.cell? ⟨b, o + 1, none⟩ = some (.int .i64 h.gen) ∧ w.cell? ⟨b, o + 2, none⟩ = some (.int .i64 h.lim.s) ∧ w.cell? ⟨b, o + 3, none⟩ = some (.int .i64 h.lim.hb) ∧
  w.cell? ⟨b, o + 4, none⟩ = some (.int .i64 h.lim.sb) ∧ w.cell? ⟨b, o + 5, none⟩ = some (.int .i64 h.lim.hn) ∧ w.cell? ⟨b, o + 6, none⟩ = some (.int .i64 h.lim.sn) ∧ w.cell? ⟨b, o + 7, none⟩ = some (.int .i64 h.lim.gr) ∧
  w.cell? ⟨b, o + 8, none⟩ = some (.int .i64 h.lim.bu) ∧ w.cell? ⟨b, o + 9, none⟩ = some v ∧ Ints w v h.segs

theorem HouseAt.on {w w' : World} {b o : Nat} {h : Ho} {v : Value} (hh : HouseAt w b o h v) (hb : b < w.heap.size) (k : Below w.heap.size w w') : HouseAt w' b o h v := by
  obtain ⟨h0, h1, h2, h3, h4, h5, h6, h7, h8, h9, hi⟩ := hh
  refine ⟨?_, ?_, ?_, ?_, ?_, ?_, ?_, ?_, ?_, ?_, hi.on k⟩
  all_goals (rw [k.cell hb]; assumption)

/-- Houses that lie as a slice. -/
def Houses (w : World) (v : Value) (l : List Ho) : Prop :=
  ∃ ad cap, v = .slice ad l.length cap ∧ (0 < l.length → ∃ b off, ad = some ⟨b, off, none⟩ ∧ b < w.heap.size ∧ ∀ i (h : i < l.length), ∃ sv, HouseAt w b (off + i * 10) l[i] sv)

theorem Houses.on {w w' : World} {v : Value} {l : List Ho} (h : Houses w v l) (k : Below w.heap.size w w') : Houses w' v l := by
  obtain ⟨ad, cap, hv, hc⟩ := h
  refine ⟨ad, cap, hv, fun hl => ?_⟩
  obtain ⟨b, off, ha, hb, hi⟩ := hc hl
  exact ⟨b, off, ha, Nat.lt_of_lt_of_le hb k.size, fun i h => by obtain ⟨sv, hs⟩ := hi i h; exact ⟨sv, hs.on hb k⟩⟩

/-- A house as a value, its segments' slice v. -/
abbrev houseV (h : Ho) (v : Value) : Value := .agg #[.int .i64 h.st, .int .i64 h.gen, .int .i64 h.lim.s, .int .i64 h.lim.hb, .int .i64 h.lim.sb, .int .i64 h.lim.hn, .int .i64 h.lim.sn, .int .i64 h.lim.gr, .int .i64 h.lim.bu, v]

theorem rises_drop (n a : Int) (l : List Int) (k : Nat) (hk : k < l.length) : rises n a (l.drop k) = (decide (a ≤ l[k] ∧ l[k] < n) && rises n (l[k] + 1) (l.drop (k + 1))) := by
  rw [List.drop_eq_getElem_cons hk, rises]

set_option maxHeartbeats 1000000 in
theorem rising_t (n : Int) (v : Value) (l : List Int) (w : World) (hI : Ints w v l) (hl : l.length ≤ 4611686018427387904) (hn : n ≤ 9223372036854775807) :
    Calls Try.prog 52 #[.int .i64 n, v] w fun e w' => e = .returned (.bool (rises n 0 l)) ∧ w = w' := by
  obtain ⟨ad, cap, rfl, _, hc⟩ := hI
  have HC := tabhid hc
  clear hc
  go_enter Try.func52, Try.ntmps52
  go_wp2
  go_loopw [5, 10] (fun a c wr => ∃ (i : Nat) (x : Int), i ≤ l.length ∧ c = .int .i64 i ∧ a = .int .i64 x ∧ 0 ≤ x ∧ x ≤ 9223372036854775807 ∧ Hid (rises n x (l.drop i) = rises n 0 l) ∧ w = wr) (fun _ c _ => l.length - (intOf c).toNat)
  case atStart => exact ⟨0, 0, by omega, rfl, rfl, by omega, by omega, by show _ = _; rw [List.drop_zero], rfl⟩
  case round =>
    obtain ⟨i, x, hi, rfl, rfl, hx0, hx1, HR, rfl⟩ := hrel
    by_cases hlt : i < l.length
    · obtain ⟨b, off, rfl, hb, hcell⟩ := HC.out (by omega)
      have c0 := hcell i hlt
      have E : Hid (rises n 0 l = (decide (x ≤ l[i] ∧ l[i] < n) && rises n (l[i] + 1) (l.drop (i + 1)))) := by show _ = _; rw [← HR.out, rises_drop n x l i hlt]
      clear hcell HC HR
      generalize l[i] = y at *
      by_cases h1 : y < x
      · go_wp2
        go_ret
        refine ⟨tabBool ?_, rfl⟩
        rw [E.out, decide_eq_false (by omega)]
        rfl
      · by_cases h2 : n ≤ y
        · go_wp2
          go_ret
          refine ⟨tabBool ?_, rfl⟩
          rw [E.out, decide_eq_false (by omega)]
          rfl
        · have h3 : decide (n ≤ y) = false := by simp; omega
          go_wp2
          refine ⟨⟨i + 1, y + 1, by omega, by go_num, rfl, by omega, by omega, ?_, trivial⟩, by simp [intOf]; omega⟩
          show _ = _
          rw [E.out, decide_eq_true (by omega)]
          rfl
    · go_wp2
      go_ret
      refine ⟨tabBool ?_, rfl⟩
      rw [← HR.out, List.drop_of_length_le (by omega)]
      rfl
end Go.Proofs.Ytdhdjnpgebddmaa
