/- What was put is got; the laws' own few and awake walked. -/
import Derived.Test.YtmhhlchddkdjnaaHeadGetAll
import Derived.Test.YtmhhlchddkdjnaaPlace
namespace Go.Proofs.Ytmhhlchddkdjnaa
open Go.RowKit Rec Hdp

/-- What was put is got, whatever stands behind. -/
theorem hrget_t (x : Hd) (b more : ByteArray) (w : World) (hp : putB x b.size = true) (hm : more.size ≤ 50000) :
    Calls Try.prog 12 #[.string (putS x b ++ more)] w fun e w' => ∃ g, e = .returned (.tuple #[headV x (.slice (some ⟨g, 0, none⟩) x.list.length x.list.length), .int .i64 (sumL (front x) b.data.toList : Nat), .bool true]) ∧ Ents w' (.slice (some ⟨g, 0, none⟩) x.list.length x.list.length) x.list ∧ Below w.heap.size w w' := by
  obtain ⟨k1, k2, k3⟩ := get_put hp more
  have hsz : (putS x b ++ more).size = 256 + more.size := by rw [ByteArray.size_append, putS_size hp]
  refine (hget_full (putS x b ++ more) w (by omega) (by omega)).mono ?_
  rintro e w' ⟨h | h, hb⟩
  · obtain ⟨_, g, he, hE⟩ := h
    rw [k2, k3] at he
    rw [k2] at hE
    exact ⟨g, he, hE, hb⟩
  · rw [k1] at h
    exact absurd h.1 (by decide)

theorem sumL_put {x : Hd} {b : ByteArray} (hp : putB x b.size = true) (c : List UInt8) : sumL (putS x b).data.toList c = sumL (front x) c := by
  have hF := front_length (okB_len (putB_ok hp))
  rw [putS_list hp, sumL, sumL, hbytes, List.take_left' hF, List.take_of_length_le (by omega)]
/-- The sum that was put is that of the block and the body. -/
theorem hrsum_t (x : Hd) (b : ByteArray) (w : World) (hp : putB x b.size = true) (hb : b.size ≤ 1125899906842624) :
    Calls Try.prog 17 #[.string (putS x b), .string b] w fun e w' => e = .returned (.int .i64 (sumL (front x) b.data.toList : Nat)) ∧ w = w' := by
  have := hsum_t (putS x b) b w (by rw [putS_size hp]; decide) hb
  rw [sumL_put hp] at this
  exact this

set_option maxRecDepth 10000 in
set_option maxHeartbeats 1000000 in
theorem few_t (x : Hd) (ad : Option Addr) (n cap : Nat) (b : ByteArray) (w : World) :
    Calls Try.prog 7 #[headV x (.slice ad n cap), .string b] w fun e w' => e = .returned (.bool (decide (n ≤ 40 ∧ b.size ≤ 7680))) ∧ Below w.heap.size w w' := by
  obtain ⟨house, gen, life, seq, next, clock, sb, sn, l⟩ := x
  show Calls _ _ #[.agg #[.int .i64 house, .int .i64 gen, .int .i64 life, .int .i64 seq, .int .i64 next, .int .i64 clock, .int .i64 sb, .int .i64 sn, .slice ad n cap], _] _ _
  by_cases h1 : n ≤ 40
  · by_cases h2 : b.size ≤ 7680
    · have HD : Hid (decide (n ≤ 40 ∧ b.size ≤ 7680) = true) := decide_eq_true ⟨h1, h2⟩
      go_enter Try.func7, Try.ntmps7
      go_wp2_with fail
      go_ret
      exact ⟨hdBool (by rw [HD.out]; exact decide_eq_true (by omega)), (Below.refl _ _).alloc (Nat.le_refl _) _⟩
    · have HD : Hid (decide (n ≤ 40 ∧ b.size ≤ 7680) = false) := decide_eq_false (fun h => h2 h.2)
      have h3 : decide (b.size ≤ 7680) = false := decide_eq_false h2
      go_enter Try.func7, Try.ntmps7
      go_wp2_with fail
      go_ret
      exact ⟨hdBool (by rw [HD.out]; exact decide_eq_false (by omega)), (Below.refl _ _).alloc (Nat.le_refl _) _⟩
  · have HD : Hid (decide (n ≤ 40 ∧ b.size ≤ 7680) = false) := decide_eq_false (fun h => h1 h.1)
    have h3 : decide (n ≤ 40) = false := decide_eq_false h1
    go_enter Try.func7, Try.ntmps7
    go_wp2_with fail
    go_ret
    exact ⟨hdBool (by first | rfl | rw [HD.out]), (Below.refl _ _).alloc (Nat.le_refl _) _⟩

abbrev wakeX : Hd := ⟨1, 1, 1, 9, 0, 0, 0, 0, []⟩
theorem wake_put : putB wakeX (⟨#[]⟩ : ByteArray).size = true := by decide

set_option maxRecDepth 10000 in
set_option maxHeartbeats 2000000 in
theorem awake_t (w : World) : Calls Try.prog 8 #[] w fun e w' => e = .returned (.bool true) ∧ Below w.heap.size w w' := by
  have PUT := hdhid (hput_t wakeX (.slice none 0 0) ⟨#[]⟩ w (Ents.nil w))
  rw [wake_put] at PUT
  have GET := hdhid (fun w1 => hrget_t wakeX ⟨#[]⟩ ⟨#[]⟩ w1 wake_put (by decide))
  have e0 : putS wakeX ⟨#[]⟩ ++ (⟨#[]⟩ : ByteArray) = putS wakeX ⟨#[]⟩ := by apply ByteArray.ext; simp
  rw [e0] at GET
  have SUM := hdhid (fun w1 => hrsum_t wakeX ⟨#[]⟩ w1 wake_put (by decide))
  have hsz : ((putS wakeX ⟨#[]⟩).size : Int) = 256 := by rw [putS_size wake_put]; rfl
  clear e0
  generalize putS wakeX ⟨#[]⟩ = S at *
  generalize sumL (front wakeX) (⟨#[]⟩ : ByteArray).data.toList = sm at *
  go_enter Try.func8, Try.ntmps8
  go_wp2_with fail
  refine PUT.out.mono ?_
  rintro e w1 ⟨rfl, hb1⟩
  have HB1 := hdhid hb1
  clear hb1 PUT
  go_wp2_with fail
  refine (GET.out _).mono ?_
  rintro e w2 ⟨g, rfl, _, hb2⟩
  have HB2 : Hid (Below w.heap.size w w2) := HB1.out.trans (hb2.mono HB1.out.size)
  clear hb2 GET HB1
  go_wp2_with fail
  refine (SUM.out _).mono ?_
  rintro e w3 ⟨rfl, rfl⟩
  go_wp2_with fail
  go_ret
  exact ⟨rfl, HB2.out.alloc HB2.out.size _⟩
end Go.Proofs.Ytmhhlchddkdjnaa
