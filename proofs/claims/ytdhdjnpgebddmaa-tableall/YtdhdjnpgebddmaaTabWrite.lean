/- The library's Builder, Repeat and Sort by their contracts, in this program's words. -/
import Derived.Test.YtdhdjnpgebddmaaTabShelf
import Derived.Test.YtdhdjnpgebddmaaTabLay
import Derived.Test.YtdhdjnpgebddmaaBinCode
namespace Go.Proofs.Ytdhdjnpgebddmaa
open Go.RowKit Go.Shelf Go.Sort Tab

theorem tabWrite : Go.Proofs.Lays.n166 Try.prog tabRepeat_ren := { mixed := tabRepeat.mixed, f166 := tabRepeat.f166, f240 := tabRepeat.f240, f276 := tabRepeat.f276, t0 := tabRepeat.t0, a0 := tabRepeat.a0, z0 := tabRepeat.z0, v0 := tabRepeat.v0, t3 := tabRepeat.t3, a3 := tabRepeat.a3, z3 := tabRepeat.z3, v3 := tabRepeat.v3, t4 := tabRepeat.t4, a4 := tabRepeat.a4, z4 := tabRepeat.z4, v4 := tabRepeat.v4, t9 := tabRepeat.t9, a9 := tabRepeat.a9, z9 := tabRepeat.z9, v9 := tabRepeat.v9, t20 := tabRepeat.t20, a20 := tabRepeat.a20, z20 := tabRepeat.z20, v20 := tabRepeat.v20, t37 := tabRepeat.t37, a37 := tabRepeat.a37, z37 := tabRepeat.z37, v37 := tabRepeat.v37, t70 := tabRepeat.t70, a70 := tabRepeat.a70, z70 := tabRepeat.z70, v70 := tabRepeat.v70, t72 := tabRepeat.t72, a72 := tabRepeat.a72, z72 := tabRepeat.z72, v72 := tabRepeat.v72, t75 := tabRepeat.t75, a75 := tabRepeat.a75, z75 := tabRepeat.z75, v75 := tabRepeat.v75, t164 := tabRepeat.t164, a164 := tabRepeat.a164, z164 := tabRepeat.z164, v164 := tabRepeat.v164 }
theorem tabString : Go.Proofs.Lays.n169 Try.prog tabRepeat_ren := { mixed := tabRepeat.mixed, f169 := tabRepeat.f169, t0 := tabRepeat.t0, a0 := tabRepeat.a0, z0 := tabRepeat.z0, v0 := tabRepeat.v0, t3 := tabRepeat.t3, a3 := tabRepeat.a3, z3 := tabRepeat.z3, v3 := tabRepeat.v3, t9 := tabRepeat.t9, a9 := tabRepeat.a9, z9 := tabRepeat.z9, v9 := tabRepeat.v9, t37 := tabRepeat.t37, a37 := tabRepeat.a37, z37 := tabRepeat.z37, v37 := tabRepeat.v37, t70 := tabRepeat.t70, a70 := tabRepeat.a70, z70 := tabRepeat.z70, v70 := tabRepeat.v70, t72 := tabRepeat.t72, a72 := tabRepeat.a72, z72 := tabRepeat.z72, v72 := tabRepeat.v72, t127 := tabRepeat.t127, a127 := tabRepeat.a127, z127 := tabRepeat.z127, v127 := tabRepeat.v127 }
theorem tabLength : Go.Proofs.Lays.n170 Try.prog tabRepeat_ren := { mixed := tabRepeat.mixed, f170 := tabRepeat.f170, t0 := tabRepeat.t0, a0 := tabRepeat.a0, z0 := tabRepeat.z0, v0 := tabRepeat.v0, t3 := tabRepeat.t3, a3 := tabRepeat.a3, z3 := tabRepeat.z3, v3 := tabRepeat.v3, t37 := tabRepeat.t37, a37 := tabRepeat.a37, z37 := tabRepeat.z37, v37 := tabRepeat.v37, t70 := tabRepeat.t70, a70 := tabRepeat.a70, z70 := tabRepeat.z70, v70 := tabRepeat.v70, t72 := tabRepeat.t72, a72 := tabRepeat.a72, z72 := tabRepeat.z72, v72 := tabRepeat.v72 }

/-- A Builder of the call's own, that holds these bytes; its blocks are B and above. -/
def Bd (w : World) (B b : Nat) (l : List UInt8) : Prop := Lib.IsBuilderF 52 5 B b (Lib.byteCells l) w
/-- What is not the Builder's, and no row of bytes, is as it was. -/
def Oth (b : Nat) (w w' : World) : Prop := Lib.OthersKept 5 (some b) w w'

theorem Bd.low {w : World} {B b : Nat} {l : List UInt8} (h : Bd w B b l) : B ≤ b := by
  rcases h with h | h <;> exact h.1
theorem Bd.lt {w : World} {B b : Nat} {l : List UInt8} (h : Bd w B b l) : b < w.heap.size := by
  rcases h with h | h <;> exact h.lt
theorem bdAt_on {w w' : World} {B b : Nat} {p : Value} {l : List Value} (h : Lib.BuilderAtF 52 5 B b p l w) (k : Below w.heap.size w w') : Lib.BuilderAtF 52 5 B b p l w' := by
  have hlt := h.lt
  obtain ⟨hB, v, hb, ho, hne⟩ := h
  refine ⟨hB, v, by rw [k.block b hlt]; exact hb, ⟨ho.1, ?_⟩, hne⟩
  rcases ho.2 with ho | ⟨g, cap, cur, fz, hv, hbg, hg, rest⟩
  · exact .inl ho
  · exact .inr ⟨g, cap, cur, fz, hv, hbg, by rw [k.block g (Array.getElem?_eq_some_iff.1 hg).1]; exact hg, rest⟩
theorem Bd.on {w w' : World} {B b : Nat} {l : List UInt8} (h : Bd w B b l) (k : Below w.heap.size w w') : Bd w' B b l := by
  rcases h with h | h
  · exact .inl (bdAt_on h k)
  · exact .inr (bdAt_on h k)
theorem Bd.new (w : World) : Bd (w.alloc (.cells #[.pointer none, .slice none 0 0] 52)) w.heap.size w.heap.size [] := by
  refine .inl ⟨Nat.le_refl _, .slice none 0 0, heap_alloc_new _ _, World.ownsRowF_nil .., by simp [Value.ownBlock]⟩

theorem Oth.refl (b : Nat) (w : World) : Oth b w w := Lib.OthersKept.refl _ _ _
theorem Oth.trans {b : Nat} {a c d : World} (h : Oth b a c) (k : Oth b c d) : Oth b a d := Lib.OthersKept.trans h k
theorem Oth.of {b : Nat} {w w' : World} (k : Below w.heap.size w w') : Oth b w w' := by
  intro j o h _ _
  have : j < w.heap.size := (Array.getElem?_eq_some_iff.1 h).1
  rw [k.block j this]
  exact h
theorem Oth.block {b : Nat} {w w' : World} (h : Oth b w w') {k : Nat} {c : Array Value} {t : TypeId} {fz : Nat × Nat} (hk : w.heap[k]? = some (.cells c t fz)) (hb : k ≠ b) (ht : t ≠ 5) : w'.heap[k]? = some (.cells c t fz) :=
  h k _ hk (by simp; exact hb) (by intro c' fz' e; cases e; exact ht rfl)

theorem write_t (B b : Nat) (l : List UInt8) (s : ByteArray) (w : World) (h : Bd w B b l) (hl : l.length + s.size ≤ 140737488355328) (hB : B ≤ w.heap.size) :
    Calls Try.prog 24 #[.pointer (some ⟨b, 0, none⟩), .string s] w fun e w' => e = .returned (.tuple #[.int .i64 s.size, .nilIface]) ∧ Bd w' B b (l ++ s.data.toList) ∧ Below B w w' ∧ Oth b w w' :=
  (Any.Builder_WriteString_k tabWrite tabExtra B b (Lib.byteCells l) s w h (by rw [Lib.byteCells_length]; exact hl) hB).mono fun _ _ ⟨he, hA, hb, ho⟩ => ⟨he, .inr (by rw [Lib.byteCells_append]; exact hA), hb, ho⟩

theorem text_t (B b : Nat) (l : List UInt8) (w : World) (h : Bd w B b l) (hB : B ≤ w.heap.size) :
    Calls Try.prog 30 #[.pointer (some ⟨b, 0, none⟩)] w fun e w' => e = .returned (.string ⟨l.toArray⟩) ∧ Bd w' B b l ∧ Below B w w' ∧ Oth b w w' :=
  Any.Builder_String_any_k tabString tabExtra B b l w h hB

theorem len_t (B b : Nat) (l : List UInt8) (w : World) (h : Bd w B b l) :
    Calls Try.prog 28 #[.pointer (some ⟨b, 0, none⟩)] w fun e w' => e = .returned (.int .i64 l.length) ∧ w = w' :=
  (Any.Builder_Len_f tabLength B b (Lib.byteCells l) w h).mono fun _ _ ⟨he, hw⟩ => ⟨by rw [he, Lib.byteCells_length], hw.symm⟩

theorem rep0 : ∀ n : Nat, Lib.repeatL [0] n = List.replicate n 0
  | 0 => rfl
  | n + 1 => by rw [Lib.repeatL, rep0 n, List.replicate_succ]; rfl
theorem zeros_t (n : Nat) (w : World) (hn : n ≤ 4194304) :
    Calls Try.prog 27 #[.string ⟨#[0]⟩, .int .i64 n] w fun e w' => e = .returned (.string ⟨(List.replicate n 0).toArray⟩) ∧ Below w.heap.size w w' := by
  have := Any.strings_Repeat tabRepeat tabExtra ⟨#[0]⟩ n w (by omega) (by show 1 * n ≤ _; omega)
  have e : Lib.repeatL (⟨#[0]⟩ : ByteArray).data.toList n = List.replicate n 0 := rep0 n
  rw [e] at this
  exact this

/-- Numbers, sorted. -/
def sorted (l : List Int) : List Int := l.mergeSort fun x y => decide (x ≤ y)
theorem sorted_perm (l : List Int) : (sorted l).Perm l := List.mergeSort_perm l _
theorem sorted_length (l : List Int) : (sorted l).length = l.length := (sorted_perm l).length_eq
theorem sorted_le (l : List Int) : (sorted l).Pairwise (· ≤ ·) := by
  have := List.pairwise_mergeSort (le := fun x y : Int => decide (x ≤ y)) (fun a b c h1 h2 => by simp at *; omega) (fun a b => by simp; omega) l
  exact this.imp (fun h => by simpa using h)

theorem sort_t (g cap : Nat) (zs : List Int) (w : World) (cur : Array Value) (hg : w.heap[g]? = some (.cells cur 3 (0, 0))) (hc : ∀ i (h : i < zs.length), cur[i]? = some (.int .i64 zs[i])) (hl : zs.length ≤ 4611686018427387) :
    Calls Try.prog 53 #[.slice (some ⟨g, 0, none⟩) zs.length cap] w fun e w' => e = .returned (.tuple #[]) ∧ Below g w w' ∧ (∀ i (h : i < (sorted zs).length), w'.cell? ⟨g, i, none⟩ = some (.int .i64 (sorted zs)[i])) ∧ w.heap.size ≤ w'.heap.size := by
  have hgl : g < w.heap.size := (Array.getElem?_eq_some_iff.1 hg).1
  have hH : Holds (Value.int .i64) w g 0 zs.toArray := by
    intro j hj
    have hj' : j < zs.length := by simpa using hj
    refine ⟨?_, frozen_of_row w g _ cur 3 hg⟩
    rw [cell_of_row w g _ cur 3 _ hg, Nat.zero_add, hc j hj']
    simp [hj']
  refine (Any.slices_Sort_int tabSort g 0 cap zs w hH hgl (by omega)).mono ?_
  rintro e w' ⟨rfl, n, os, rfl⟩
  have hsz : (sorted zs).toArray.size = zs.toArray.size := by simp [sorted_length]
  have hho := holds_putRow (Value.int .i64) (Sort.ahead w n) g 0 zs.toArray (sorted zs).toArray (holds_ahead _ _ _ _ _ _ hH) hsz
  refine ⟨rfl, ⟨rfl, rfl, rfl, by simp, fun k hk => ?_⟩, fun i hi => ?_, by simp⟩
  · rw [heap_grow_old _ _ (by simp; omega)]
    have : g ≠ k := by omega
    simp [Go.Sort.putRow, mapBlock, Sort.ahead, Array.getElem?_modify, this]
  · have h1 := (hho i (by simpa using hi)).1
    have h2 : (grow (Go.Sort.putRow (Value.int .i64) (Sort.ahead w n) g 0 (sorted zs).toArray) os).cell? ⟨g, i, none⟩ = (Go.Sort.putRow (Value.int .i64) (Sort.ahead w n) g 0 (sorted zs).toArray).cell? ⟨g, i, none⟩ := World.cell?_of_block (heap_grow_old _ _ (by simpa using hgl))
    rw [Nat.zero_add] at h1
    refine h2.trans (h1.trans ?_)
    simp [hi]
theorem sort_none (ad : Option Addr) (cap : Nat) (w : World) : Calls Try.prog 53 #[.slice ad 0 cap] w fun e w' => e = .returned (.tuple #[]) ∧ w = w' :=
  (Any.slices_Sort_int_none tabSort ad cap w).mono fun _ _ ⟨he, hw⟩ => ⟨he, hw.symm⟩
end Go.Proofs.Ytdhdjnpgebddmaa
