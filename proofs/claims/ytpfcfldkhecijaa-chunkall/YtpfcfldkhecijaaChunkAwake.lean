/- What was made is parsed; what is none; the laws' own awake and few walked. -/
import Derived.Test.YtpfcfldkhecijaaChunkMake
import Derived.Test.YtpfcfldkhecijaaChunkParse
namespace Go.Proofs.Ytpfcfldkhecijaa
open Go.RowKit Rec Hdp Chk

/-- What was made is parsed, whatever stands behind. -/
theorem parsed_t (x : Hd) (l : List ByteArray) (more : ByteArray) (w : World) (h : makeB x l = true) (hl : (makeS x l ++ more).size ≤ 100000) :
    Calls Try.prog 11 #[.string (makeS x l ++ more)] w fun e w' => ∃ ad cap bad bcap, e = .returned (.tuple #[headV x (.slice ad x.list.length cap), .slice bad l.length bcap, .bool true]) ∧ Ents w' (.slice ad x.list.length cap) x.list ∧ TOwn w' w.heap.size (.slice bad l.length bcap) l ∧ Below w.heap.size w w' := by
  obtain ⟨h1, h2, h3⟩ := par_make h more
  refine (parse_t (makeS x l ++ more) w hl).mono ?_
  rintro e w' ⟨v, bv, rfl, hE, hT, hb⟩
  rw [h2] at hE
  rw [h3] at hT
  rw [h1, h2]
  obtain ⟨bad, bcap, rfl⟩ := hT.slice
  have hE2 := hE
  obtain ⟨ad, cap, rfl, -, -⟩ := hE2
  exact ⟨ad, cap, bad, bcap, rfl, hE, hT, hb⟩
/-- What is none. -/
theorem parsed_no (s : ByteArray) (w : World) (h : parB s = false) (hl : s.size ≤ 100000) :
    Calls Try.prog 11 #[.string s] w fun e w' => ∃ ad cap bad bcap, e = .returned (.tuple #[headV Hd.z (.slice ad 0 cap), .slice bad 0 bcap, .bool false]) ∧ Below w.heap.size w w' := by
  refine (parse_t s w hl).mono ?_
  rintro e w' ⟨v, bv, rfl, hE, hT, hb⟩
  rw [parX_no h] at hE
  rw [parL_no h] at hT
  rw [h, parX_no h]
  obtain ⟨bad, bcap, rfl⟩ := hT.slice
  obtain ⟨ad, cap, rfl, -, -⟩ := hE
  exact ⟨ad, cap, bad, bcap, rfl, hb⟩

abbrev wakeX : Hd := ⟨1, 1, 1, 1, 0, 0, 0, 0, []⟩
theorem wake_make : makeB wakeX [] = true := by decide

set_option maxRecDepth 10000 in
set_option maxHeartbeats 2000000 in
theorem awake_t (w : World) : Calls Try.prog 8 #[] w fun e w' => e = .returned (.bool true) ∧ Below w.heap.size w w' := by
  have MK := hdhid (fun w1 => make_t wakeX (.slice none 0 0) (.slice none 0 0) [] w1 (Ents.nil _) (Txts.nil _) (by decide))
  rw [wake_make] at MK
  have hsz := makeS_size wake_make
  have PA := hdhid (fun w1 more hm => parsed_t wakeX [] more w1 wake_make hm)
  generalize makeS wakeX [] = S at *
  have hs : S.size = 256 := hsz
  have PA2 := hdhid (fun w1 => PA.out w1 ⟨#[109, 111, 114, 101]⟩ (by rw [ByteArray.size_append, hs]; decide))
  have hq : S.size + (⟨#[109, 111, 114, 101]⟩ : ByteArray).size ≤ 9223372036854775806 := by rw [hs]; decide
  have hsi : (S.size : Int) = 256 := by omega
  clear PA hsz hs
  go_enter Try.func8, Try.ntmps8
  go_wp2_with fail
  refine (MK.out _).mono ?_
  rintro e w1 ⟨rfl, hb⟩
  have HB1 := hdhid hb
  clear hb MK
  go_wp2_with fail
  refine (PA2.out _).mono ?_
  rintro e w2 ⟨ad, cap, bad, bcap, rfl, hE, hT, hb⟩
  have HB2 : Hid (Below w.heap.size w w2) := HB1.out.trans (hb.mono HB1.out.size)
  clear hE hT hb HB1 PA2
  go_wp2_with fail
  go_ret
  exact ⟨rfl, HB2.out.alloc HB2.out.size _⟩
end Go.Proofs.Ytpfcfldkhecijaa
