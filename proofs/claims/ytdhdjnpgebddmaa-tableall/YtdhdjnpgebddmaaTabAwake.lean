/- The laws' own awake: the document's example walked. -/
import Derived.Test.YtdhdjnpgebddmaaTabGetAll
import Derived.Test.YtdhdjnpgebddmaaPlace
namespace Go.Proofs.Ytdhdjnpgebddmaa
open Go.RowKit Tab

/-- Put says what the houses of a row have. -/
theorem rput_t (num : Int) (b : Nat) (l : List (Ho × Value)) (w : World) (h : HRow w b l) (hI : ∀ p ∈ l, Ints w p.2 p.1.segs) (h16 : l.length = 16) (hs : ∀ x ∈ l, x.1.segs.length ≤ 1000) :
    Calls Try.prog 10 #[.int .i64 num, .slice (some ⟨b, 0, none⟩) 16 16] w fun e w' => e = .returned (.tuple #[.string (putS num (l.map (·.1))), .bool (putB num (l.map (·.1)))]) ∧ Below w.heap.size w w' := by
  have hh := h.houses (cap := 16) hI
  rw [h16] at hh
  exact tput_t num (l.map (·.1)) _ w hh (by rw [List.length_map, h16]; decide) (fun x hx => by
    obtain ⟨p, hp, rfl⟩ := List.mem_map.1 hx
    have := hs p hp
    omega)
theorem rcheck_t (n : Int) (b : Nat) (l : List (Ho × Value)) (w : World) (h : HRow w b l) (hI : ∀ p ∈ l, Ints w p.2 p.1.segs) (h16 : l.length = 16) (hs : ∀ x ∈ l, x.1.segs.length ≤ 1000) (hn : n ≤ 9223372036854775807) :
    Calls Try.prog 17 #[.int .i64 n, .slice (some ⟨b, 0, none⟩) 16 16] w fun e w' => e = .returned (.bool (checkB n (l.map (·.1)))) ∧ Below w.heap.size w w' := by
  have hh := h.houses (cap := 16) hI
  rw [h16] at hh
  exact check_t n (l.map (·.1)) _ w hh (by rw [List.length_map, h16]; decide) (fun x hx => by
    obtain ⟨p, hp, rfl⟩ := List.mem_map.1 hx
    have := hs p hp
    omega) hn
/-- What was put is got. -/
theorem rget_t (num : Int) (l : List Ho) (w : World) (h : putB num l = true) :
    Calls Try.prog 13 #[.string (putS num l)] w fun e w' => (∃ ad cap, e = .returned (.tuple #[.int .i64 num, .slice ad 16 cap, .bool true]) ∧ Houses w' (.slice ad 16 cap) l) ∧ Below w.heap.size w w' := by
  have g := get_put h
  refine (tget_t (putS num l) w).mono ?_
  rintro e w' ⟨⟨v, rfl, hv⟩, hb⟩
  rw [g.1, if_pos rfl, g.2.2] at hv
  rw [g.1, if_pos rfl, g.2.1]
  obtain ⟨ad, cap, rfl, hc⟩ := hv
  have h16 := checkB_len (putB_check h)
  refine ⟨⟨ad, cap, by rw [h16], ad, cap, by rw [h16], hc⟩, hb⟩
/-- What is no table is not got. -/
theorem nget_t (s : ByteArray) (w : World) (h : getB s = false) :
    Calls Try.prog 13 #[.string s] w fun e w' => (∃ v, e = .returned (.tuple #[.int .i64 0, v, .bool false])) ∧ Below w.heap.size w w' := by
  refine (tget_t s w).mono ?_
  rintro e w' ⟨⟨v, rfl, hv⟩, hb⟩
  rw [h]
  exact ⟨⟨v, rfl⟩, hb⟩

theorem put3 : putB 3 zero16 = true := zero16_put (by decide) (by decide)

set_option maxHeartbeats 1000000 in
theorem awake_t (w : World) : Calls Try.prog 9 #[] w fun e w' => e = .returned (.bool true) ∧ Below w.heap.size w w' := by
  have hmk := make16 w
  have PUT := tabhid (rput_t 3 w.heap.size none16 _ (none16_row w) (none16_ints _) none16_length (fun x hx => by rw [List.eq_of_mem_replicate hx]; decide))
  rw [none16_map, put3] at PUT
  have GET := tabhid (fun w1 => rget_t 3 zero16 w1 put3)
  have hsz : ((putS 3 zero16).size : Int) = 2048 := by rw [putS_size put3]; rfl
  generalize putS 3 zero16 = S at *
  generalize none16c = cs at *
  go_enter Try.func9, Try.ntmps9
  go_wp2_with fail
  refine PUT.out.mono ?_
  rintro e w1 ⟨rfl, hb1⟩
  have HB1 : Hid (Below w.heap.size w w1) := ((Below.refl _ _).alloc (Nat.le_refl _) _).trans (hb1.mono (by simp))
  clear hb1 PUT hmk
  go_wp2_with fail
  refine (GET.out _).mono ?_
  rintro e w2 ⟨⟨ad, cap, rfl, hh⟩, hb2⟩
  have HB2 : Hid (Below w.heap.size w w2) := HB1.out.trans (hb2.mono HB1.out.size)
  clear hb2 hh GET HB1
  go_wp2_with fail
  go_ret
  exact ⟨rfl, HB2.out⟩
end Go.Proofs.Ytdhdjnpgebddmaa
