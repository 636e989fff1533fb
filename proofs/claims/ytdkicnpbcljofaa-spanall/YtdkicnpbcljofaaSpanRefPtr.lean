/- The document's Pointers and Bytes walked. -/
import Derived.Test.YtdkicnpbcljofaaSpanPtr
import Derived.Test.YtdkicnpbcljofaaBytRef
namespace Go.Proofs.Ytdkicnpbcljofaa
open Go.RowKit Span

theorem ptrsL_take (s : ByteArray) (k : Nat) (hk : k < 64) : (ptrsL s).take (k + 1) = (ptrsL s).take k ++ [(ptrAt s k : Int)] := by
  rw [List.take_succ_eq_append_getElem (by rw [ptrsL_length]; exact hk), ptrsL_get]

set_option maxRecDepth 10000 in
set_option maxHeartbeats 2000000 in
theorem rpointers_t (s : ByteArray) (w : World) (hs : s.size ≤ 9223372036854775807) :
    Calls Try.prog 16 #[.string s] w fun e w' => (∃ v, e = .returned v ∧ Ints w' v (ptrsOf s)) ∧ Below w.heap.size w w' := by
  by_cases h : s.size = 256
  · have HE : Hid (ptrsOf s = ptrsL s) := if_pos h
    have GET : Hid (∀ (k : Nat) (w1 : World), k < 64 → Calls Try.prog 21 #[.string s, .int .i64 ((2 * k : Nat) : Int), .int .i64 2] w1 fun e w' => e = .returned (.tuple #[.int .i64 (ptrAt s k : Nat), .bool true]) ∧ w1 = w') := fun k w1 hk => refGet_t s (2 * k) 2 w1 (by omega) (by omega) hs
    have HT : Hid (∀ k, k < 64 → (ptrsL s).take (k + 1) = (ptrsL s).take k ++ [(ptrAt s k : Int)]) := ptrsL_take s
    have HL : Hid ((ptrsL s).take 64 = ptrsL s) := List.take_of_length_le (by rw [ptrsL_length]; exact Nat.le_refl _)
    have HN : Hid (∀ k, k ≤ 64 → ((ptrsL s).take k).length = k) := fun k hk => by rw [List.length_take, ptrsL_length]; omega
    generalize ptrsL s = L at *
    generalize ptrAt s = p at *
    go_enter Try.func16, Try.ntmps16
    go_wp2_with fail
    go_loopw [3, 4] (fun v c wr => ∃ k : Nat, k ≤ 64 ∧ c = .int .i64 k ∧ Hid (IOwn wr w.heap.size v (L.take k)) ∧ Hid (Below w.heap.size w wr)) (fun _ c _ => 64 - (intOf c).toNat)
    case atStart => exact ⟨0, by omega, rfl, IOwn.nil _ _, Below.refl _ _⟩
    case round =>
      obtain ⟨k, hk, rfl, HO, HB⟩ := hrel
      by_cases hlt : k < 64
      · have hk2 : 2 * (k : Int) = ((2 * k : Nat) : Int) := by omega
        have G := spanhid (GET.out k wr hlt)
        have HT2 := spanhid (HT.out k hlt)
        have HN2 := spanhid (HN.out k hk)
        have hsz := HB.out.size
        rw [← hk2] at G
        clear hk2 GET HT HL HN h
        generalize L.take k = lk at *
        generalize p k = x at *
        go_wp2_with fail
        refine G.out.mono ?_
        rintro e w1 ⟨rfl, rfl⟩
        have hn2 : lk.length ≤ 64 := by rw [HN2.out]; exact hk
        go_wp2_with (first | (refine wpList_append_one rfl _ _ rfl w.heap.size _ lk rfl (HO.out.on ((Below.refl _ _).alloc (Nat.le_refl _) _)) wr.heap.size 1 [(x : Int)] rfl 3 (0, 0) (heap_alloc_new _ _) (by simp) (by simp; omega) (by simp; omega) ?_) | fail)
        intro v' w' ho hb hle
        rw [← HT2.out] at ho
        have HO2 := spanhid ho
        have HB2 : Hid (Below w.heap.size w w') := (HB.out.alloc hsz _).trans hb
        clear ho hb HO HB
        go_wp2_with fail
        exact ⟨⟨k + 1, by omega, by go_num, HO2, HB2⟩, by simp [intOf]; omega⟩
      · have hk2 : k = 64 := by omega
        subst hk2
        have HO2 : Hid (Ints wr u3 L) := by have := HO.out.ints; rw [HL.out] at this; exact this
        go_wp2_with fail
        go_ret
        exact ⟨⟨_, rfl, by rw [HE.out]; exact HO2.out⟩, HB.out⟩
  · have HE : Hid (ptrsOf s = []) := if_neg h
    have h1 : ((s.size : Int) != 256) = true := by rw [bne_iff_ne]; omega
    go_enter Try.func16, Try.ntmps16
    go_wp2
    go_ret
    exact ⟨⟨_, rfl, by rw [HE.out]; exact Ints.nil _⟩, Below.refl _ _⟩

theorem append_text (l m : List UInt8) : (⟨l.toArray⟩ : ByteArray) ++ (⟨m.toArray⟩ : ByteArray) = ⟨(l ++ m).toArray⟩ := by
  apply ByteArray.ext
  simp

set_option maxRecDepth 10000 in
set_option maxHeartbeats 2000000 in
theorem rbytes_t (v : Value) (l : List Int) (w : World) (hI : Ints w v l) (hl : l.length ≤ 4611686018427387904) (hr : ∀ x ∈ l, -9223372036854775808 ≤ x ∧ x ≤ 9223372036854775807) :
    Calls Try.prog 18 #[v] w fun e w' => e = .returned (.string (bytesS l)) ∧ Below w.heap.size w w' := by
  obtain ⟨ad, cap, rfl, _, _, hc⟩ := hI
  have HC := spanhid hc
  have HD : Hid (∀ k, -9223372036854775808 ≤ l.getD k 0 ∧ l.getD k 0 ≤ 9223372036854775807) := fun k => by
    rcases Nat.lt_or_ge k l.length with h | h
    · rw [List.getD_eq_getElem?_getD, List.getElem?_eq_getElem h]
      exact hr _ (List.getElem_mem h)
    · rw [List.getD_eq_getElem?_getD, List.getElem?_eq_none h]
      exact ⟨by decide, by decide⟩
  have PUT : Hid (∀ (k : Nat) (w1 : World), Calls Try.prog 22 #[.int .i64 (l.getD k 0), .int .i64 2] w1 fun e w' => e = .returned (.string ⟨(Bin.low 2 (l.getD k 0)).toArray⟩) ∧ Below w1.heap.size w1 w') := fun k w1 => refPut_t (l.getD k 0) 2 w1 (by decide) (HD.out k).1 (HD.out k).2
  have HT : Hid (∀ k, k < 64 → (⟨((bytesL l).take (2 * k)).toArray⟩ : ByteArray) ++ ⟨(Bin.low 2 (l.getD k 0)).toArray⟩ = ⟨((bytesL l).take (2 * (k + 1))).toArray⟩) := fun k hk => by rw [append_text, bytesL_take l k hk]
  have HZ : Hid ((⟨((bytesL l).take (2 * 64)).toArray⟩ : ByteArray) ++ zerosS 128 = bytesS l) := by
    show _ = _
    unfold zerosS bytesS
    rw [append_text, bytesL_end]
  have HN : Hid (∀ k, k ≤ 64 → (⟨((bytesL l).take (2 * k)).toArray⟩ : ByteArray).size = 2 * k) := fun k hk => by
    show ((bytesL l).take (2 * k)).toArray.size = _
    rw [List.size_toArray, List.length_take, bytesL_length]
    omega
  have HP : Hid (∀ k, (⟨(Bin.low 2 (l.getD k 0)).toArray⟩ : ByteArray).size = 2) := fun k => by
    show (Bin.low 2 (l.getD k 0)).toArray.size = _
    rw [List.size_toArray, Bin.low_length]
  have HE : Hid ((⟨((bytesL l).take (2 * 0)).toArray⟩ : ByteArray) = ⟨#[]⟩) := rfl
  have HG : Hid (∀ k (h : k < l.length), l[k] = l.getD k 0) := fun k h => by rw [List.getD_eq_getElem?_getD, List.getElem?_eq_getElem h]; rfl
  have HF : Hid (∀ k, l.length ≤ k → l.getD k 0 = 0) := fun k h => by rw [List.getD_eq_getElem?_getD, List.getElem?_eq_none h]; rfl
  have MK : Hid (∀ w1 : World, (Instr.makeSlice 41 (.int .i64 128) (.int .i64 128)).run Try.prog w1 = .ok (.slice (some ⟨w1.heap.size, 0, none⟩) 128 128) (w1.alloc (.cells (zrow 128) 5))) := fun w1 => zmake 128 (by decide) w1
  have CV : Hid (∀ (g : Nat) (w1 : World), w1.heap[g]? = some (.cells (zrow 128) 5 (0, 0)) → (convert 41 9 (.slice (some ⟨g, 0, none⟩) 128 128)).run Try.prog w1 = .ok (.string (zerosS 128)) w1) := fun g w1 h => zconv 128 g w1 h
  have HZS : Hid ((zerosS 128).size = 128) := zerosS_size 128
  clear hc hr
  generalize bytesS l = T at *
  generalize zerosS 128 = ZS at *
  generalize zrow 128 = Z at *
  obtain ⟨S, hS⟩ : ∃ S : Nat → ByteArray, S = fun k => (⟨((bytesL l).take (2 * k)).toArray⟩ : ByteArray) := ⟨_, rfl⟩
  obtain ⟨P, hP⟩ : ∃ P : Nat → ByteArray, P = fun k => (⟨(Bin.low 2 (l.getD k 0)).toArray⟩ : ByteArray) := ⟨_, rfl⟩
  have HT : Hid (∀ k, k < 64 → S k ++ P k = S (k + 1)) := by subst hS hP; exact HT
  have HZ : Hid (S 64 ++ ZS = T) := by subst hS; exact HZ
  have HN : Hid (∀ k, k ≤ 64 → (S k).size = 2 * k) := by subst hS; exact HN
  have HP : Hid (∀ k, (P k).size = 2) := by subst hP; exact HP
  have HE : Hid (S 0 = ⟨#[]⟩) := by subst hS; exact HE
  have PUT : Hid (∀ (k : Nat) (w1 : World), Calls Try.prog 22 #[.int .i64 (l.getD k 0), .int .i64 2] w1 fun e w' => e = .returned (.string (P k)) ∧ Below w1.heap.size w1 w') := by subst hP; exact PUT
  clear hS hP
  go_enter Try.func18, Try.ntmps18
  go_wp2_with fail
  go_loopw [3, 4] (fun s c wr => ∃ k : Nat, k ≤ 64 ∧ c = .int .i64 k ∧ s = .string (S k) ∧ Hid (Below w.heap.size w wr)) (fun _ c _ => 64 - (intOf c).toNat)
  case atStart => exact ⟨0, by omega, rfl, by rw [HE.out], Below.refl _ _⟩
  case round =>
    obtain ⟨k, hk, rfl, rfl, HB⟩ := hrel
    by_cases hlt : k < 64
    · have G := spanhid (PUT.out k)
      have HT2 := spanhid (HT.out k hlt)
      have n1 : (S k).size = 2 * k := HN.out k hk
      have n2 : (P k).size = 2 := HP.out k
      by_cases hkl : k < l.length
      · obtain ⟨b, off, rfl, hb, hcell⟩ := HC.out (by omega)
        have c0 : wr.cell? ⟨b, off + k, none⟩ = some (.int .i64 (l.getD k 0)) := by rw [HB.out.cell hb, hcell k hkl, HG.out k hkl]
        have n3 : (S k).size ≤ 1000 := by omega
        have n4 : (P k).size ≤ 1000 := by omega
        clear hcell HC HD PUT HT HN HP HG HF HZ MK CV HE n1 n2
        generalize l.getD k 0 = x at *
        generalize P k = p at *
        generalize hSk : S k = sk at *
        go_wp2_with fail
        refine (G.out _).mono ?_
        rintro e w1 ⟨rfl, hb1⟩
        have HB1 : Hid (Below w.heap.size w w1) := HB.out.trans (hb1.mono HB.out.size)
        clear hb1 HB G
        go_wp2_with fail
        exact ⟨⟨k + 1, by omega, by go_num, by rw [HT2.out], HB1⟩, by simp [intOf]; omega⟩
      · have n3 : (S k).size ≤ 1000 := by omega
        have n4 : (P k).size ≤ 1000 := by omega
        rw [HF.out k (by omega)] at G
        clear HC HD PUT HT HN HP HG HF HZ MK CV HE n1 n2
        generalize P k = p at *
        generalize hSk : S k = sk at *
        go_wp2_with fail
        refine (G.out _).mono ?_
        rintro e w1 ⟨rfl, hb1⟩
        have HB1 : Hid (Below w.heap.size w w1) := HB.out.trans (hb1.mono HB.out.size)
        clear hb1 HB G
        go_wp2_with fail
        exact ⟨⟨k + 1, by omega, by go_num, by rw [HT2.out], HB1⟩, by simp [intOf]; omega⟩
    · have hk2 : k = 64 := by omega
      subst hk2
      have n1 : (S 64).size = 128 := HN.out 64 hk
      have n2 : ZS.size = 128 := HZS.out
      have hmk := MK.out wr
      have hcv := CV.out wr.heap.size (wr.alloc (.cells Z 5)) (heap_alloc_new _ _)
      clear HC HD PUT HT HN HP HG HF MK CV HE
      generalize S 64 = s at *
      go_wp2_with fail
      go_ret
      exact ⟨by rw [HZ.out]; rfl, HB.out.alloc HB.out.size _⟩
end Go.Proofs.Ytdkicnpbcljofaa
