/- The library's Builder and Repeat by their contracts, in this program's words. -/
import Derived.Test.YtaiebhkjkeadoaaBldShelf
import Derived.Test.YtaiebhkjkeadoaaBinPut
namespace Go.Proofs.Ytaiebhkjkeadoaa
open Go.RowKit Go.Shelf

theorem bldWrite : Go.Proofs.Lays.n166 Try.prog bldRepeat_ren := { mixed := bldRepeat.mixed, f166 := bldRepeat.f166, f240 := bldRepeat.f240, f276 := bldRepeat.f276, t0 := bldRepeat.t0, a0 := bldRepeat.a0, z0 := bldRepeat.z0, v0 := bldRepeat.v0, t3 := bldRepeat.t3, a3 := bldRepeat.a3, z3 := bldRepeat.z3, v3 := bldRepeat.v3, t4 := bldRepeat.t4, a4 := bldRepeat.a4, z4 := bldRepeat.z4, v4 := bldRepeat.v4, t9 := bldRepeat.t9, a9 := bldRepeat.a9, z9 := bldRepeat.z9, v9 := bldRepeat.v9, t20 := bldRepeat.t20, a20 := bldRepeat.a20, z20 := bldRepeat.z20, v20 := bldRepeat.v20, t37 := bldRepeat.t37, a37 := bldRepeat.a37, z37 := bldRepeat.z37, v37 := bldRepeat.v37, t70 := bldRepeat.t70, a70 := bldRepeat.a70, z70 := bldRepeat.z70, v70 := bldRepeat.v70, t72 := bldRepeat.t72, a72 := bldRepeat.a72, z72 := bldRepeat.z72, v72 := bldRepeat.v72, t75 := bldRepeat.t75, a75 := bldRepeat.a75, z75 := bldRepeat.z75, v75 := bldRepeat.v75, t164 := bldRepeat.t164, a164 := bldRepeat.a164, z164 := bldRepeat.z164, v164 := bldRepeat.v164 }
theorem bldString : Go.Proofs.Lays.n169 Try.prog bldRepeat_ren := { mixed := bldRepeat.mixed, f169 := bldRepeat.f169, t0 := bldRepeat.t0, a0 := bldRepeat.a0, z0 := bldRepeat.z0, v0 := bldRepeat.v0, t3 := bldRepeat.t3, a3 := bldRepeat.a3, z3 := bldRepeat.z3, v3 := bldRepeat.v3, t9 := bldRepeat.t9, a9 := bldRepeat.a9, z9 := bldRepeat.z9, v9 := bldRepeat.v9, t37 := bldRepeat.t37, a37 := bldRepeat.a37, z37 := bldRepeat.z37, v37 := bldRepeat.v37, t70 := bldRepeat.t70, a70 := bldRepeat.a70, z70 := bldRepeat.z70, v70 := bldRepeat.v70, t72 := bldRepeat.t72, a72 := bldRepeat.a72, z72 := bldRepeat.z72, v72 := bldRepeat.v72, t127 := bldRepeat.t127, a127 := bldRepeat.a127, z127 := bldRepeat.z127, v127 := bldRepeat.v127 }
theorem bldLength : Go.Proofs.Lays.n170 Try.prog bldRepeat_ren := { mixed := bldRepeat.mixed, f170 := bldRepeat.f170, t0 := bldRepeat.t0, a0 := bldRepeat.a0, z0 := bldRepeat.z0, v0 := bldRepeat.v0, t3 := bldRepeat.t3, a3 := bldRepeat.a3, z3 := bldRepeat.z3, v3 := bldRepeat.v3, t37 := bldRepeat.t37, a37 := bldRepeat.a37, z37 := bldRepeat.z37, v37 := bldRepeat.v37, t70 := bldRepeat.t70, a70 := bldRepeat.a70, z70 := bldRepeat.z70, v70 := bldRepeat.v70, t72 := bldRepeat.t72, a72 := bldRepeat.a72, z72 := bldRepeat.z72, v72 := bldRepeat.v72 }

/-- A Builder of the call's own, that holds these bytes; its blocks are B and above. -/
def Bd (w : World) (B b : Nat) (l : List UInt8) : Prop := Lib.IsBuilderF 111 5 B b (Lib.byteCells l) w
/-- What is not the Builder's, and no row of bytes, is as it was. -/
def Oth (b : Nat) (w w' : World) : Prop := Lib.OthersKept 5 (some b) w w'

theorem Bd.low {w : World} {B b : Nat} {l : List UInt8} (h : Bd w B b l) : B ≤ b := by
  rcases h with h | h <;> exact h.1
theorem Bd.lt {w : World} {B b : Nat} {l : List UInt8} (h : Bd w B b l) : b < w.heap.size := by
  rcases h with h | h <;> exact h.lt
theorem bdAt_on {w w' : World} {B b : Nat} {p : Value} {l : List Value} (h : Lib.BuilderAtF 111 5 B b p l w) (k : Below w.heap.size w w') : Lib.BuilderAtF 111 5 B b p l w' := by
  have hlt := h.lt
  obtain ⟨hB, v, hb, ho, hne⟩ := h
  refine ⟨hB, v, by rw [k.block b hlt]; exact hb, ⟨ho.1, ?_⟩, hne⟩
  rcases ho.2 with ho | ⟨g, cap, cur, fz, hv, hbg, hg, rest⟩
  · exact .inl ho
  · exact .inr ⟨g, cap, cur, fz, hv, hbg, by rw [k.block g (Array.getElem?_eq_some_iff.1 hg).1]; exact hg, rest⟩
theorem Bd.on {w w' : World} {B b : Nat} {l : List UInt8} (h : Bd w B b l) (k : Below w.heap.size w w') : Bd w' B b l := by
  rcases h with h | h
  · exact .inl (bdAt_on h k)
  · exact .inr (bdAt_on h k)
theorem Bd.new (w : World) : Bd (w.alloc (.cells #[.pointer none, .slice none 0 0] 111)) w.heap.size w.heap.size [] := by
  refine .inl ⟨Nat.le_refl _, .slice none 0 0, heap_alloc_new _ _, World.ownsRowF_nil .., by simp [Value.ownBlock]⟩

theorem Oth.refl (b : Nat) (w : World) : Oth b w w := Lib.OthersKept.refl _ _ _
theorem Oth.trans {b : Nat} {a c d : World} (h : Oth b a c) (k : Oth b c d) : Oth b a d := Lib.OthersKept.trans h k
theorem Oth.of {b : Nat} {w w' : World} (k : Below w.heap.size w w') : Oth b w w' := by
  intro j o h _ _
  have : j < w.heap.size := (Array.getElem?_eq_some_iff.1 h).1
  rw [k.block j this]
  exact h
theorem Oth.block {b : Nat} {w w' : World} (h : Oth b w w') {k : Nat} {c : Array Value} {t : TypeId} {fz : Nat × Nat} (hk : w.heap[k]? = some (.cells c t fz)) (hb : k ≠ b) (ht : t ≠ 5) : w'.heap[k]? = some (.cells c t fz) :=
  h k _ hk (by simp; exact hb) (by intro c' fz' e; cases e; exact ht rfl)

theorem write_t (B b : Nat) (l : List UInt8) (s : ByteArray) (w : World) (h : Bd w B b l) (hl : l.length + s.size ≤ 140737488355328) (hB : B ≤ w.heap.size) :
    Calls Try.prog 57 #[.pointer (some ⟨b, 0, none⟩), .string s] w fun e w' => e = .returned (.tuple #[.int .i64 s.size, .nilIface]) ∧ Bd w' B b (l ++ s.data.toList) ∧ Below B w w' ∧ Oth b w w' :=
  (Any.Builder_WriteString_k bldWrite bldExtra B b (Lib.byteCells l) s w h (by rw [Lib.byteCells_length]; exact hl) hB).mono fun _ _ ⟨he, hA, hb, ho⟩ => ⟨he, .inr (by rw [Lib.byteCells_append]; exact hA), hb, ho⟩

theorem text_t (B b : Nat) (l : List UInt8) (w : World) (h : Bd w B b l) (hB : B ≤ w.heap.size) :
    Calls Try.prog 58 #[.pointer (some ⟨b, 0, none⟩)] w fun e w' => e = .returned (.string ⟨l.toArray⟩) ∧ Bd w' B b l ∧ Below B w w' ∧ Oth b w w' :=
  Any.Builder_String_any_k bldString bldExtra B b l w h hB

theorem len_t (B b : Nat) (l : List UInt8) (w : World) (h : Bd w B b l) :
    Calls Try.prog 65 #[.pointer (some ⟨b, 0, none⟩)] w fun e w' => e = .returned (.int .i64 l.length) ∧ w = w' :=
  (Any.Builder_Len_f bldLength B b (Lib.byteCells l) w h).mono fun _ _ ⟨he, hw⟩ => ⟨by rw [he, Lib.byteCells_length], hw.symm⟩

theorem rep0 : ∀ n : Nat, Lib.repeatL [0] n = List.replicate n 0
  | 0 => rfl
  | n + 1 => by rw [Lib.repeatL, rep0 n, List.replicate_succ]; rfl
theorem zeros_t (n : Nat) (w : World) (hn : n ≤ 4194304) :
    Calls Try.prog 64 #[.string ⟨#[0]⟩, .int .i64 n] w fun e w' => e = .returned (.string ⟨(List.replicate n 0).toArray⟩) ∧ Below w.heap.size w w' := by
  have := Any.strings_Repeat bldRepeat bldExtra ⟨#[0]⟩ n w (by omega) (by show 1 * n ≤ _; omega)
  have e : Lib.repeatL (⟨#[0]⟩ : ByteArray).data.toList n = List.replicate n 0 := rep0 n
  rw [e] at this
  exact this

/-- Put, of a number of bytes as it is. -/
theorem putn_t (v n : Int) (w : World) (h0 : 0 ≤ n) (h7 : n ≤ 7) (h1 : -9223372036854775808 ≤ v) (h2 : v ≤ 9223372036854775807) :
    Calls Try.prog 49 #[.int .i64 v, .int .i64 n] w fun e w' => e = .returned (.string ⟨(Bin.low n.toNat v).toArray⟩) ∧ Below w.heap.size w w' :=
  put_t v n n.toNat w (by omega) h1 h2
theorem lowS_size (n : Nat) (v : Int) : (⟨(Bin.low n v).toArray⟩ : ByteArray).size = n := by
  show (Bin.low n v).toArray.size = n
  simp [Bin.low_length]
/-- So many bytes 0. -/
def zerosS (n : Nat) : ByteArray := ⟨(List.replicate n (0 : UInt8)).toArray⟩
theorem zerosS_size (n : Nat) : (zerosS n).size = n := by
  show (List.replicate n (0 : UInt8)).toArray.size = n
  simp
theorem zerosS_list (n : Nat) : (zerosS n).data.toList = List.replicate n 0 := rfl
theorem zerosS_t (n : Nat) (w : World) (hn : n ≤ 4194304) :
    Calls Try.prog 64 #[.string ⟨#[0]⟩, .int .i64 n] w fun e w' => e = .returned (.string (zerosS n)) ∧ Below w.heap.size w w' := zeros_t n w hn
end Go.Proofs.Ytaiebhkjkeadoaa
