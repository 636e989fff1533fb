/- Make walked: blocks joined, over the library's own joining by its contract. -/
import Derived.Test.YtaiebhkjkeadoaaChunkLay
import Derived.Test.YtaiebhkjkeadoaaChunkShelf
import Derived.Test.YtaiebhkjkeadoaaHeadPutAll
namespace Go.Proofs.Ytaiebhkjkeadoaa
open Go.RowKit Rec Hdp Chk

theorem joinTail_plain (r : List (List UInt8)) : Lib.joinTail [] r = r.flatten := by simp [Lib.joinTail]
theorem join_plain : ∀ l : List ByteArray, Lib.join (l.map (·.data.toList)) [] = joinL l
  | [] => rfl
  | x :: r => by
    rw [List.map_cons, Lib.join_cons, joinTail_plain, joinL, List.flatMap_cons, List.flatMap_def]

theorem libjoin_t (v : Value) (l : List ByteArray) (w : World) (h : Txts w v l) (hl : l.length ≤ 1000000) (hj : (joinL l).length ≤ 140737488355328) :
    Calls Try.prog 46 #[v, .string ⟨#[]⟩] w fun e w' => e = .returned (.string (joinB l)) ∧ Below w.heap.size w w' := by
  have e : joinB l = ⟨(Lib.join (l.map (·.data.toList)) []).toArray⟩ := by rw [join_plain]; rfl
  rw [e]
  obtain ⟨ad, cap, rfl, hn, hlc, hc⟩ := h
  by_cases h0 : 0 < l.length
  · obtain ⟨b, off, rfl, hb, hi⟩ := hc h0
    refine Any.strings_Join chkJoin chkExtra b off cap l ⟨#[]⟩ w (fun j x hx => ?_) hb (by omega) hlc (by rw [show (⟨#[]⟩ : ByteArray).data.toList = [] from rfl, join_plain]; exact hj)
    obtain ⟨hj2, rfl⟩ := List.getElem?_eq_some_iff.1 hx
    exact hi j hj2
  · have : l = [] := List.eq_nil_of_length_eq_zero (by omega)
    subst this
    exact (Any.strings_Join_none chkJoin chkExtra ad cap ⟨#[]⟩ w).mono fun _ _ ⟨he, hw⟩ => ⟨he, hw ▸ Below.refl _ _⟩

set_option maxHeartbeats 1000000 in
theorem join_t (v : Value) (l : List ByteArray) (w : World) (h : Txts w v l) (hl : l.length ≤ 1000000) (hj : (joinL l).length ≤ 140737488355328) :
    Calls Try.prog 39 #[v] w fun e w' => e = .returned (.string (joinB l)) ∧ Below w.heap.size w w' := by
  have LJ := hdhid (libjoin_t v l w h hl hj)
  obtain ⟨ad, cap, rfl, -, -, -⟩ := h
  generalize joinB l = J at *
  go_enter Try.func39, Try.ntmps39
  go_wp2_with fail
  refine LJ.out.mono ?_
  rintro e w1 ⟨rfl, hb⟩
  have HB := hdhid hb
  clear hb LJ
  go_wp2_with fail
  go_ret
  exact ⟨rfl, HB.out⟩

set_option maxRecDepth 10000 in
set_option maxHeartbeats 4000000 in
theorem make_t (x : Hd) (v : Value) (bv : Value) (l : List ByteArray) (w : World) (hE : Ents w v x.list) (hT : Txts w bv l) (hl : l.length ≤ 1000000) :
    Calls Try.prog 31 #[headV x v, bv] w fun e w' => e = .returned (.tuple #[.string (makeS x l), .bool (makeB x l)]) ∧ Below w.heap.size w w' := by
  have HEI := hdhid hE
  have HTI := hdhid hT
  have PT := hdhid (fun v b w1 (h : Ents w1 v x.list) => hput_t x v b w1 h)
  have JT := hdhid (fun w1 (h : Txts w1 bv l) hj => join_t bv l w1 h hl hj)
  have HMB : Hid (makeB x l = (allB l && putB x (joinB l).size)) := rfl
  have HMN : Hid (makeB x l = false → makeS x l = ⟨#[]⟩) := makeS_no
  have HMY : Hid (makeB x l = true → makeS x l = putS x (joinB l) ++ joinB l) := makeS_yes
  obtain ⟨ad, cap, rfl, _, hc⟩ := hE
  clear hc
  obtain ⟨bad, bcap, rfl, _, hbc, hT2⟩ := hT
  have HT2 := hdhid hT2
  clear hT2
  obtain ⟨house, gen, life, seq, next, clock, sb, sn, el⟩ := x
  show Calls _ _ #[.agg #[.int .i64 house, .int .i64 gen, .int .i64 life, .int .i64 seq, .int .i64 next, .int .i64 clock, .int .i64 sb, .int .i64 sn, .slice ad el.length cap], _] _ _
  generalize hMS : makeS _ l = MS at *
  generalize hMB : makeB _ l = MB at *
  clear hMS hMB
  go_enter Try.func31, Try.ntmps31
  go_wp2_with fail
  generalize hW : World.alloc w _ = w0
  have HX0 : Hid (w0.heap[w.heap.size]? = some (.cells (headC ⟨house, gen, life, seq, next, clock, sb, sn, el⟩ (.slice ad el.length cap)) 43 (0, 0))) := by rw [← hW]; exact heap_alloc_new _ _
  have HB0 : Hid (Below w.heap.size w w0) := by rw [← hW]; exact (Below.refl _ w).alloc (Nat.le_refl _) _
  have hw0 : w.heap.size < w0.heap.size := by rw [← hW]; simp
  have HE0 := hdhid (HEI.out.on HB0.out)
  have HT0 := hdhid (HTI.out.on HB0.out)
  clear hW HEI HTI
  go_loopw [13] (fun c wr => ∃ i : Nat, i ≤ l.length ∧ c = .int .i64 i ∧ Hid (allB (l.take i) = true) ∧ w0 = wr) (fun c _ => l.length - (intOf c).toNat)
  case atStart => exact ⟨0, by omega, rfl, rfl, rfl⟩
  case round =>
    obtain ⟨i, hi, rfl, HA, rfl⟩ := hrel
    by_cases hlt : i < l.length
    · obtain ⟨b, off, rfl, hb, hcell⟩ := HT2.out (by omega)
      have hx := hcell i hlt
      rw [← HB0.out.cell hb] at hx
      have hb0 : b < w0.heap.size := Nat.lt_of_lt_of_le hb HB0.out.size
      have HY : Hid (l[i].size = 256 → allB (l.take (i + 1)) = true) := fun h => allB_take hlt HA.out h
      have HN : Hid (l[i].size ≠ 256 → allB l = false) := fun h => allB_no hlt h
      clear hcell HT2
      generalize l[i] = X at *
      by_cases h256 : X.size = 256
      · have HA2 := hdhid (HY.out h256)
        have hn1 : ((X.size : Int) != 256) = false := by rw [h256]; rfl
        clear HY HN HA h256
        go_wp2_with fail
        exact ⟨⟨i + 1, by omega, by go_num, HA2, trivial⟩, by simp [intOf]; omega⟩
      · have hA := HN.out h256
        have hM : MB = false := by rw [HMB.out, hA, Bool.false_and]
        have hS := HMN.out hM
        have hn1 : ((X.size : Int) != 256) = true := by rw [bne_iff_ne]; omega
        subst hM hS
        clear HY HN HA h256 HMB HMN HMY PT JT hA
        go_wp2_with fail
        go_ret2
        exact ⟨rfl, HB0.out⟩
    · have hil : i = l.length := by omega
      subst hil
      have hA : allB l = true := by
        have := HA.out
        rw [List.take_length] at this
        exact this
      have hjl := joinL_len hA
      have hjs := joinB_size hA
      have HMB2 : Hid (MB = putB ⟨house, gen, life, seq, next, clock, sb, sn, el⟩ (joinB l).size) := by
        show _ = _
        rw [HMB.out, hA, Bool.true_and]
      have JT1 := JT.out w0 HT0.out (by omega)
      have hJ : (joinB l).size ≤ 256000000 := by omega
      have PT1 := hdhid (fun w1 h => PT.out (.slice ad el.length cap) (joinB l) w1 h)
      have JT2 := hdhid (fun w1 (S : ByteArray) bv2 (h : Txts w1 bv2 [S, joinB l]) (hS : S.size ≤ 1000) => join_t bv2 [S, joinB l] w1 h (by simp) (by simp [joinL]; omega))
      have HPS : Hid (putB ⟨house, gen, life, seq, next, clock, sb, sn, el⟩ (joinB l).size = true → (putS ⟨house, gen, life, seq, next, clock, sb, sn, el⟩ (joinB l)).size = 256) := fun h => putS_size h
      clear hjl hjs HMB HA hA JT PT hlt
      simp only [joinB_two] at JT2
      generalize joinB l = J at *
      generalize putS ⟨house, gen, life, seq, next, clock, sb, sn, el⟩ J = S at *
      generalize hpb : putB ⟨house, gen, life, seq, next, clock, sb, sn, el⟩ J.size = PB at *
      clear hpb
      go_wp2_with fail
      refine JT1.mono ?_
      rintro e w1 ⟨rfl, hb⟩
      have HX1 : Hid (w1.heap[w.heap.size]? = some (.cells (headC ⟨house, gen, life, seq, next, clock, sb, sn, el⟩ (.slice ad el.length cap)) 43 (0, 0))) := (hb.block _ hw0).trans HX0.out
      have HB1 : Hid (Below w.heap.size w w1) := HB0.out.trans (hb.mono (by omega))
      have HE1 := hdhid (HE0.out.on hb)
      have hw1 : w.heap.size < w1.heap.size := by have := hb.size; omega
      clear hb HX0 HB0 HE0 HT0 HT2 JT1
      obtain ⟨x0, x1, x2, x3, x4, x5, x6, x7, x8⟩ := cells9 HX1.out
      go_wp2_with fail
      refine (PT1.out _ HE1.out).mono ?_
      rintro e w2 ⟨rfl, hb⟩
      have HB2 : Hid (Below w.heap.size w w2) := HB1.out.trans (hb.mono (by omega))
      have hw2 : w.heap.size < w2.heap.size := by have := hb.size; omega
      clear hb x0 x1 x2 x3 x4 x5 x6 x7 x8 HX1 HB1 HE1 PT1
      have hMP := HMB2.out
      subst hMP
      cases MB with
      | false =>
        have hS := HMN.out rfl
        subst hS
        clear HMN HMY JT2 HPS HMB2
        go_wp2_with fail
        go_ret2
        exact ⟨rfl, HB2.out⟩
      | true =>
        have hS := HMY.out rfl
        have hSs := HPS.out rfl
        subst hS
        have JT3 := JT2.out
        clear HMN HMY JT2 HPS HMB2
        go_wp2_with fail
        refine (JT3 _ S _ (Txts.block (l := [S, J]) (heap_alloc_new _ _) rfl (Nat.le_refl _)) (by omega)).mono ?_
        rintro e w3 ⟨rfl, hb⟩
        have HB3 : Hid (Below w.heap.size w w3) := (HB2.out.alloc (by omega) _).trans (hb.mono (by simp; omega))
        clear hb HB2 JT3
        go_wp2_with fail
        go_ret2
        exact ⟨rfl, HB3.out⟩
end Go.Proofs.Ytaiebhkjkeadoaa
