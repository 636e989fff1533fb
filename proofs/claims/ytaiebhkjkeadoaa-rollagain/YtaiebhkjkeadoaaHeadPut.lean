/- A head's bytes: what a writer does with each number; all of them; write walked. -/
import Derived.Test.YtaiebhkjkeadoaaHeadTurn
import Derived.Test.YtaiebhkjkeadoaaHeadWr
import Derived.Deep.RegionHeld3
namespace Go.Proofs.Ytaiebhkjkeadoaa
open Go.RowKit Rec Hdp

set_option maxHeartbeats 1000000 in
/-- What a writer does with a number: its bytes stand behind. -/
theorem putEach_t (a : Addr) (v : Int) (n B b : Nat) (l : List UInt8) (w : World) (hc : w.cell? a = some (.int .i64 v)) (hab : a.block < w.heap.size)
    (hk : ∀ w1 w2, Below w.heap.size w w1 → Below B w1 w2 → Oth b w1 w2 → w2.cell? a = some (.int .i64 v))
    (hn : n ≤ 7) (h1 : -9223372036854775808 ≤ v) (h2 : v ≤ 9223372036854775807) (hW : Wd w B b l) (hB : B ≤ w.heap.size) (hl : l.length ≤ 100000) :
    Calls Try.prog 62 #[.pointer (some ⟨b, 0, none⟩), .pointer (some a), .int .i64 n] w fun e w' => e = .returned (.tuple #[]) ∧ Wd w' B b (l ++ Bin.low n v) ∧ Below B w w' ∧ Oth b w w' := by
  have HW := hdhid hW
  have HK := hdhid hk
  have PUT : Hid (∀ w1, Calls Try.prog 49 #[.int .i64 v, .int .i64 n] w1 fun e w' => e = .returned (.string ⟨(Bin.low n v).toArray⟩) ∧ Below w1.heap.size w1 w') := fun w1 => by
    have := putn_t v n w1 (by omega) (by omega) h1 h2
    rw [Int.toNat_natCast] at this
    exact this
  have WR : Hid (∀ w1 : World, w.heap.size ≤ w1.heap.size → Wd w1 B b l → Calls Try.prog 57 #[.pointer (some ⟨b, 0, none⟩), .string ⟨(Bin.low n v).toArray⟩] w1 fun e w' => e = .returned (.tuple #[.int .i64 (⟨(Bin.low n v).toArray⟩ : ByteArray).size, .nilIface]) ∧ Wd w' B b (l ++ Bin.low n v) ∧ Below B w1 w' ∧ Oth b w1 w') := fun w1 h1 hb => wwrite_t B b l _ w1 hb (by rw [lowS_size]; omega) (by omega)
  clear hW hk
  generalize Bin.low n v = T at *
  go_enter Try.func62, Try.ntmps62
  go_wp2_with fail
  go_region_held3 (fun w' => w'.cell? a = some (.int .i64 v)) (first | go_keep)
    (first
      | (go_at_call 49; refine (PUT.out _).mono ?_; rintro e w1 ⟨rfl, hb1⟩; have hp1 : Below w.heap.size w w1 := ⟨hb1.os, hb1.tape, hb1.output, hb1.size, hb1.block⟩; have p0 : w1.cell? a = some (.int .i64 v) := (by rw [hp1.cell hab]; exact hc))
      | (go_at_call 57; refine (WR.out _ hp1.size (HW.out.on hp1)).mono ?_; rintro e w2 ⟨rfl, hbd2, hbe2, hot2⟩; have q0 : w2.cell? a = some (.int .i64 v) := HK.out w1 w2 hp1 hbe2 hot2))
  have HW2 := hdhid hbd2
  have HB2 : Hid (Below B w w2) := (hp1.mono hB).trans hbe2
  have HO2 : Hid (Oth b w w2) := (Oth.of hp1).trans hot2
  clear hbd2 hbe2 hot2 q0 p0 hp1 hb1 HW HK PUT WR
  go_wp2_with fail
  go_end0
  exact ⟨rfl, HW2.out, HB2.out, HO2.out⟩

theorem Try.putEnters (args : Array Value) (w : World) : (callFunc 62 args).run Try.prog w = .ok (.enter 62 args) w := enters_of Try.func62 (by kernel_rfl) rfl args w

theorem nwids_fields (x : Hd) (k : Nat) (hk : k < 8) : nwids[k]'hk = ((fieldsOf x)[k]'hk).1 := by
  have hc : k = 0 ∨ k = 1 ∨ k = 2 ∨ k = 3 ∨ k = 4 ∨ k = 5 ∨ k = 6 ∨ k = 7 := by omega
  rcases hc with rfl | rfl | rfl | rfl | rfl | rfl | rfl | rfl <;> rfl
theorem nwids_le : ∀ n ∈ nwids, n ≤ 6 := by decide
theorem ewids_le : ∀ n ∈ ewids, n ≤ 2 := by decide
theorem ewids_fields (e : En) (j : Nat) (hj : j < 3) : ewids[j]'hj = ((enFields e)[j]'hj).1 := by
  have hc : j = 0 ∨ j = 1 ∨ j = 2 := by omega
  rcases hc with rfl | rfl | rfl <;> rfl
theorem head_cell {w : World} {b : Nat} {x : Hd} {v : Value} {t : TypeId} (h : w.heap[b]? = some (.cells (headC x v) t (0, 0))) (k : Nat) (hk : k < 8) : w.cell? ⟨b, k, none⟩ = some (.int .i64 ((fieldsOf x)[k]'hk).2) := by
  have hc : k = 0 ∨ k = 1 ∨ k = 2 ∨ k = 3 ∨ k = 4 ∨ k = 5 ∨ k = 6 ∨ k = 7 := by omega
  rcases hc with rfl | rfl | rfl | rfl | rfl | rfl | rfl | rfl <;> exact (cell_of_row w _ _ _ _ _ h).trans rfl
theorem listFields_len : ∀ l : List En, (listFields l).length = l.length * 3
  | [] => rfl
  | e :: l => by
    rw [listFields_cons, List.length_append, listFields_len l, List.length_cons]
    show 3 + _ = _
    omega
theorem listFields_get (l : List En) (i j : Nat) (hi : i < l.length) (hj : j < 3) (h : i * 3 + j < (listFields l).length) : (listFields l)[i * 3 + j] = (enFields l[i])[j]'hj := by
  have hl : (listFields (l.take i)).length = i * 3 := by rw [listFields_len, List.length_take, Nat.min_eq_left (by omega)]
  have hje : j < (enFields l[i]).length := hj
  have e : (listFields l)[i * 3 + j]? = some ((enFields l[i])[j]'hj) := by
    rw [listFields_cut l i hi, List.getElem?_append_right (by omega), hl, Nat.add_sub_cancel_left, List.getElem?_append_left hje, List.getElem?_eq_getElem hje]
    rfl
  rw [List.getElem?_eq_getElem h] at e
  exact Option.some.inj e

/-- All numbers, put. -/
theorem putNumbers_t (xb B : Nat) (x : Hd) (v : Value) (t : TypeId) (l : List UInt8) (w : World) (hx : w.heap[xb]? = some (.cells (headC x v) t (0, 0))) (hxb : xb < B) (hB : B ≤ w.heap.size) (hW : Wd w B B l) (hl : l.length ≤ 1000) (hf : FitsL (fieldsOf x)) :
    Calls Try.prog 61 #[.pointer (some ⟨xb, 0, none⟩), .func (.func 62) #[.pointer (some ⟨B, 0, none⟩)] #[]] w fun e w' => e = .returned (.tuple #[]) ∧ Wd w' B B (l ++ nums (fieldsOf x)) ∧ Below B w w' := by
  have := numbers_t xb 62 (.pointer (some ⟨B, 0, none⟩)) (fun k w1 => Wd w1 B B (l ++ nums ((fieldsOf x).take k)) ∧ Below B w w1) w ⟨by rw [List.take_zero, nums_nil, List.append_nil]; exact hW, Below.refl _ _⟩ Try.putEnters (fun k hk w1 ⟨hb1, hw1⟩ => by
    have hx8 := hf ((fieldsOf x)[k]'hk) (List.getElem_mem _)
    have hw : nwids[k]'hk ≤ 6 := nwids_le _ (List.getElem_mem _)
    have hp : ((256 ^ (((fieldsOf x)[k]'hk).1) : Nat) : Int) ≤ 281474976710656 := by
      rw [← nwids_fields x k hk]
      have : 256 ^ (nwids[k]'hk) ≤ 256 ^ 6 := Nat.pow_le_pow_right (by decide) hw
      omega
    have hlen : (l ++ nums ((fieldsOf x).take k)).length ≤ 100000 := by
      have h5 := nums_take_length (fieldsOf x) k
      have h6 : (nums (fieldsOf x)).length = 32 := by rw [nums_length]; rfl
      rw [List.length_append]
      omega
    have hs1 := hw1.size
    have hx1 : w1.heap[xb]? = some (.cells (headC x v) t (0, 0)) := by rw [hw1.block _ hxb]; exact hx
    refine (putEach_t ⟨xb, k, none⟩ ((fieldsOf x)[k]'hk).2 _ B B _ w1 (head_cell hx1 k hk) (by show xb < _; omega) (fun w2 w3 k2 k3 _ => ?_) (by omega) (by omega) (by omega) hb1 (by omega) hlen).mono ?_
    · rw [((k2.mono (show B ≤ _ by omega)).trans k3).cell (by exact hxb)]
      exact head_cell hx1 k hk
    rintro e w2 ⟨rfl, hb2, hw2, _⟩
    refine ⟨rfl, ?_, hw1.trans hw2⟩
    rw [nums_snoc (fieldsOf x) k hk, ← nwids_fields x k hk, ← List.append_assoc]
    exact hb2)
  exact this

/-- All entries, put. -/
theorem putEntries_t (v : Value) (B : Nat) (L : List En) (l : List UInt8) (w0 w : World) (hE : Ents w0 v L) (hB0 : w0.heap.size ≤ B) (h0 : Below w0.heap.size w0 w) (hB : B ≤ w.heap.size) (hW : Wd w B B l) (hl : l.length ≤ 1000) (hL : L.length ≤ 24) (hf : FitsL (listFields L)) :
    Calls Try.prog 63 #[v, .func (.func 62) #[.pointer (some ⟨B, 0, none⟩)] #[]] w fun e w' => e = .returned (.tuple #[]) ∧ Wd w' B B (l ++ nums (listFields L)) ∧ Below B w w' := by
  obtain ⟨ad, cap, rfl, _, hc⟩ := hE
  by_cases hz : L.length = 0
  · have hn : L = [] := List.length_eq_zero_iff.1 hz
    subst hn
    refine (entries_none ad cap _ w).mono ?_
    rintro e w' ⟨rfl, rfl⟩
    exact ⟨rfl, by rw [listFields_nil, nums_nil, List.append_nil]; exact hW, Below.refl _ _⟩
  obtain ⟨b, off, rfl, hb, hcell⟩ := hc (by omega)
  have hFl := listFields_len L
  have := entries_t b off L.length cap 62 (.pointer (some ⟨B, 0, none⟩)) (fun q w1 => Wd w1 B B (l ++ nums ((listFields L).take q)) ∧ Below B w w1) w ⟨by rw [List.take_zero, nums_nil, List.append_nil]; exact hW, Below.refl _ _⟩ (by omega) Try.putEnters (fun i j hi hj w1 ⟨hb1, hw1⟩ => by
    have hq : i * 3 + j < (listFields L).length := by omega
    have hg := listFields_get L i j hi hj hq
    have hx8 := hf ((listFields L)[i * 3 + j]) (List.getElem_mem _)
    have hwd : ewids[j]'hj ≤ 2 := ewids_le _ (List.getElem_mem _)
    have hp : ((256 ^ (((listFields L)[i * 3 + j]).1) : Nat) : Int) ≤ 65536 := by
      rw [hg, ← ewids_fields _ j hj]
      have : 256 ^ (ewids[j]'hj) ≤ 256 ^ 2 := Nat.pow_le_pow_right (by decide) hwd
      omega
    have hlen : (l ++ nums ((listFields L).take (i * 3 + j))).length ≤ 100000 := by
      have h5 := nums_take_length (listFields L) (i * 3 + j)
      rw [List.length_append]
      rw [listFields_length] at h5
      omega
    have hs1 := hw1.size
    have hc0 : w0.cell? ⟨b, off + i * 3 + j, none⟩ = some (.int .i64 ((listFields L)[i * 3 + j]).2) := by
      rw [hg]
      obtain ⟨c0, c1, c2⟩ := hcell i hi
      have hc : j = 0 ∨ j = 1 ∨ j = 2 := by omega
      rcases hc with rfl | rfl | rfl
      · exact c0
      · exact c1
      · exact c2
    have hw01 : Below w0.heap.size w0 w1 := h0.trans (hw1.mono hB0)
    refine (putEach_t ⟨b, off + i * 3 + j, none⟩ ((listFields L)[i * 3 + j]).2 _ B B _ w1 (by rw [hw01.cell (by exact hb)]; exact hc0) (by show b < _; omega) (fun w2 w3 k2 k3 _ => ?_) (by omega) (by omega) (by omega) hb1 (by omega) hlen).mono ?_
    · rw [(hw01.trans ((k2.mono (show w0.heap.size ≤ _ by omega)).trans (k3.mono hB0))).cell (by exact hb)]
      exact hc0
    rintro e w2 ⟨rfl, hb2, hw2, _⟩
    refine ⟨rfl, ?_, hw1.trans hw2⟩
    rw [nums_snoc (listFields L) (i * 3 + j) hq, hg, ← ewids_fields _ j hj, ← List.append_assoc, ← hg]
    exact hb2)
  refine this.mono ?_
  rintro e w' ⟨he, h1, h2⟩
  rw [← hFl, List.take_length] at h1
  exact ⟨he, h1, h2⟩
end Go.Proofs.Ytaiebhkjkeadoaa
