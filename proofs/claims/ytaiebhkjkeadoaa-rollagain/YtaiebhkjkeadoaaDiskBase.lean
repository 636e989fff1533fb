/- How a disk lies in memory: its head, its sectors, the rows of its waiting writes; and that a world which keeps these blocks keeps the disk. -/
import Derived.Test.YtaiebhkjkeadoaaRows
import Derived.WalkKit
import Derived.WalkSpells
import Derived.WalkLawsBesides
import Derived.Lib.SlBytesRow
import Derived.Lib.BufferWrite
import Derived.Lib.UnsafeStr
import Derived.Deep.AppendLies
import Derived.Deep.MidRow
namespace Go.Proofs.Ytaiebhkjkeadoaa
open Go.RowKit

theorem dkhid {p : Prop} (h : p) : Hid p := h

/-- A write that waits. -/
structure Wr where
  order : Nat
  pos : Nat
  bytes : ByteArray

def Wr.cells (x : Wr) : List Value := [.int .i64 x.order, .int .i64 x.pos, .string x.bytes]
def wcells (l : List Wr) : List Value := l.flatMap Wr.cells

theorem Wr.cells_length (x : Wr) : x.cells.length = 3 := rfl

theorem wcells_nil : wcells [] = [] := rfl
theorem wcells_cons (x : Wr) (l : List Wr) : wcells (x :: l) = x.cells ++ wcells l := by simp [wcells]
theorem wcells_append (a b : List Wr) : wcells (a ++ b) = wcells a ++ wcells b := by simp [wcells]
theorem wcells_one (x : Wr) : wcells [x] = x.cells := by simp [wcells]

theorem wcells_length (l : List Wr) : (wcells l).length = l.length * 3 := by
  induction l with
  | nil => rfl
  | cons x l ih => rw [wcells_cons, List.length_append, ih, Wr.cells_length, List.length_cons]; omega

theorem wcells_get : ∀ (l : List Wr) (k r : Nat) (hk : k < l.length) (_ : r < 3), (wcells l)[k * 3 + r]? = (l[k]).cells[r]?
  | x :: l, 0, r, hk, hr => by
    rw [wcells_cons, List.getElem?_append_left (by rw [Wr.cells_length]; omega)]
    simp
  | x :: l, k + 1, r, hk, hr => by
    have h : k < l.length := by simpa using hk
    rw [wcells_cons, List.getElem?_append_right (by rw [Wr.cells_length]; omega), Wr.cells_length]
    have e : (k + 1) * 3 + r - 3 = k * 3 + r := by omega
    rw [e, wcells_get l k r h hr]
    simp

theorem wcells_one_cell (l : List Wr) : ∀ u ∈ wcells l, u.oneCell' = true := by
  intro u hu
  obtain ⟨x, _, h⟩ := List.mem_flatMap.1 hu
  simp only [Wr.cells, List.mem_cons, List.not_mem_nil, or_false] at h
  rcases h with rfl | rfl | rfl <;> rfl

/-- One place of a table of numbers, turned. -/
def upd {α : Type} (f : Nat → α) (k : Nat) (v : α) : Nat → α := fun i => if i = k then v else f i
theorem upd_same {α : Type} (f : Nat → α) (k : Nat) (v : α) : upd f k v k = v := by simp [upd]
theorem upd_other {α : Type} (f : Nat → α) {k i : Nat} (v : α) (h : i ≠ k) : upd f k v i = f i := by simp [upd, h]

/-- What a disk is. -/
structure St where
  n : Nat
  dur : Nat → ByteArray
  waits : Nat → List Wr
  writes : Nat
  left : Nat
  down : Bool

structure St.Ok (S : St) : Prop where
  n1 : 1 ≤ S.n
  n2 : S.n ≤ 16384
  w2 : S.writes ≤ 1000000
  l2 : S.left ≤ 9223372036854775807
  each : ∀ o, o < 17 → ∀ x ∈ S.waits o, x.pos < S.n ∧ x.bytes.size = 256 ∧ 1 ≤ x.order ∧ x.order ≤ S.writes
  many : ∀ o, o < 17 → (S.waits o).length ≤ S.writes

/-- The head of a disk, in block b. -/
def DHd (w : World) (b n gd : Nat) (V : Nat → Value) (wr lf : Nat) (dn : Bool) : Prop :=
  ∃ C : Array Value, w.heap[b]? = some (.cells C 58 (0, 0)) ∧ C.size = 21 ∧ C[0]? = some (.slice (some ⟨gd, 0, none⟩) n n) ∧ (∀ o, o < 17 → C[1 + o]? = some (V o)) ∧
    C[18]? = some (.int .i64 wr) ∧ C[19]? = some (.int .i64 lf) ∧ C[20]? = some (.bool dn)

section
variable {w w' : World} {b n gd wr lf : Nat} {V : Nat → Value} {dn : Bool}

theorem DHd.c0 (h : DHd w b n gd V wr lf dn) : w.cell? ⟨b, 0, none⟩ = some (.slice (some ⟨gd, 0, none⟩) n n) := by
  obtain ⟨C, hb, _, h0, _⟩ := h
  rw [cell_of_row w b 0 C 58 _ hb]; exact h0
theorem DHd.cV (h : DHd w b n gd V wr lf dn) (o : Nat) (ho : o < 17) : w.cell? ⟨b, 1 + o, none⟩ = some (V o) := by
  obtain ⟨C, hb, _, _, hV, _⟩ := h
  rw [cell_of_row w b (1 + o) C 58 _ hb]; exact hV o ho
theorem DHd.c18 (h : DHd w b n gd V wr lf dn) : w.cell? ⟨b, 18, none⟩ = some (.int .i64 wr) := by
  obtain ⟨C, hb, _, _, _, h18, _⟩ := h
  rw [cell_of_row w b 18 C 58 _ hb]; exact h18
theorem DHd.c19 (h : DHd w b n gd V wr lf dn) : w.cell? ⟨b, 19, none⟩ = some (.int .i64 lf) := by
  obtain ⟨C, hb, _, _, _, _, h19, _⟩ := h
  rw [cell_of_row w b 19 C 58 _ hb]; exact h19
theorem DHd.c20 (h : DHd w b n gd V wr lf dn) : w.cell? ⟨b, 20, none⟩ = some (.bool dn) := by
  obtain ⟨C, hb, _, _, _, _, _, h20⟩ := h
  rw [cell_of_row w b 20 C 58 _ hb]; exact h20
theorem DHd.fr (h : DHd w b n gd V wr lf dn) (k : Nat) : w.frozen? ⟨b, k, none⟩ = false := by
  obtain ⟨C, hb, _⟩ := h
  exact frozen_of_row w b k C 58 hb
theorem DHd.lt (h : DHd w b n gd V wr lf dn) : b < w.heap.size := by
  obtain ⟨C, hb, _⟩ := h
  exact (Array.getElem?_eq_some_iff.1 hb).1
theorem DHd.of_block (h : DHd w b n gd V wr lf dn) (e : w'.heap[b]? = w.heap[b]?) : DHd w' b n gd V wr lf dn := by
  obtain ⟨C, hb, r⟩ := h
  exact ⟨C, by rw [e]; exact hb, r⟩

theorem DHd.set18 (h : DHd w b n gd V wr lf dn) (m : Nat) : DHd (w.setCell ⟨b, 18, none⟩ (.int .i64 m)) b n gd V m lf dn := by
  obtain ⟨C, hb, hs, h0, hV, h18, h19, h20⟩ := h
  refine ⟨_, heap_setCell_same w b 18 C 58 _ hb, by simp [hs], ?_, fun o ho => ?_, ?_, ?_, ?_⟩
  · rw [Array.getElem?_setIfInBounds_ne (by omega)]; exact h0
  · rw [Array.getElem?_setIfInBounds_ne (by omega)]; exact hV o ho
  · rw [Array.getElem?_setIfInBounds_self_of_lt (by omega)]
  · rw [Array.getElem?_setIfInBounds_ne (by omega)]; exact h19
  · rw [Array.getElem?_setIfInBounds_ne (by omega)]; exact h20
theorem DHd.set19 (h : DHd w b n gd V wr lf dn) (m : Nat) : DHd (w.setCell ⟨b, 19, none⟩ (.int .i64 m)) b n gd V wr m dn := by
  obtain ⟨C, hb, hs, h0, hV, h18, h19, h20⟩ := h
  refine ⟨_, heap_setCell_same w b 19 C 58 _ hb, by simp [hs], ?_, fun o ho => ?_, ?_, ?_, ?_⟩
  · rw [Array.getElem?_setIfInBounds_ne (by omega)]; exact h0
  · rw [Array.getElem?_setIfInBounds_ne (by omega)]; exact hV o ho
  · rw [Array.getElem?_setIfInBounds_ne (by omega)]; exact h18
  · rw [Array.getElem?_setIfInBounds_self_of_lt (by omega)]
  · rw [Array.getElem?_setIfInBounds_ne (by omega)]; exact h20
theorem DHd.set20 (h : DHd w b n gd V wr lf dn) (m : Bool) : DHd (w.setCell ⟨b, 20, none⟩ (.bool m)) b n gd V wr lf m := by
  obtain ⟨C, hb, hs, h0, hV, h18, h19, h20⟩ := h
  refine ⟨_, heap_setCell_same w b 20 C 58 _ hb, by simp [hs], ?_, fun o ho => ?_, ?_, ?_, ?_⟩
  · rw [Array.getElem?_setIfInBounds_ne (by omega)]; exact h0
  · rw [Array.getElem?_setIfInBounds_ne (by omega)]; exact hV o ho
  · rw [Array.getElem?_setIfInBounds_ne (by omega)]; exact h18
  · rw [Array.getElem?_setIfInBounds_ne (by omega)]; exact h19
  · rw [Array.getElem?_setIfInBounds_self_of_lt (by omega)]
theorem DHd.setV (h : DHd w b n gd V wr lf dn) (o : Nat) (ho : o < 17) (v : Value) : DHd (w.setCell ⟨b, 1 + o, none⟩ v) b n gd (upd V o v) wr lf dn := by
  obtain ⟨C, hb, hs, h0, hV, h18, h19, h20⟩ := h
  refine ⟨_, heap_setCell_same w b (1 + o) C 58 _ hb, by simp [hs], ?_, fun p hp => ?_, ?_, ?_, ?_⟩
  · rw [Array.getElem?_setIfInBounds_ne (by omega)]; exact h0
  · by_cases e : p = o
    · subst e; rw [Array.getElem?_setIfInBounds_self_of_lt (by omega), upd_same]
    · rw [Array.getElem?_setIfInBounds_ne (by omega), upd_other _ _ e]; exact hV p hp
  · rw [Array.getElem?_setIfInBounds_ne (by omega)]; exact h18
  · rw [Array.getElem?_setIfInBounds_ne (by omega)]; exact h19
  · rw [Array.getElem?_setIfInBounds_ne (by omega)]; exact h20
end

/-- The sectors, in block gd. -/
def Du (w : World) (gd n : Nat) (dur : Nat → ByteArray) : Prop :=
  ∃ cur : Array Value, w.heap[gd]? = some (.cells cur 90 (0, 0)) ∧ cur.size = n * 256 ∧
    ∀ i, i < n → (dur i).size = 256 ∧ ∀ j (h : j < (dur i).size), cur[i * 256 + j]? = some (.int .u8 ((dur i)[j].toNat : Int))

section
variable {w w' : World} {n gd : Nat} {dur : Nat → ByteArray}
theorem Du.lt (h : Du w gd n dur) : gd < w.heap.size := by
  obtain ⟨C, hb, _⟩ := h
  exact (Array.getElem?_eq_some_iff.1 hb).1
theorem Du.of_block (h : Du w gd n dur) (e : w'.heap[gd]? = w.heap[gd]?) : Du w' gd n dur := by
  obtain ⟨C, hb, r⟩ := h
  exact ⟨C, by rw [e]; exact hb, r⟩
theorem Du.size (h : Du w gd n dur) {i : Nat} (hi : i < n) : (dur i).size = 256 := by
  obtain ⟨C, _, _, r⟩ := h
  exact (r i hi).1
theorem Du.bytes (h : Du w gd n dur) {i : Nat} (hi : i < n) : Lib.Bytes w gd (i * 256) (dur i) := by
  obtain ⟨C, hb, _, r⟩ := h
  intro j hj
  rw [cell_of_row w gd _ C 90 _ hb]
  exact (r i hi).2 j hj
end

/-- A row that is owned stays so in a world that has its block as it was. -/
theorem owns_of_block {w w' : World} {base : Nat} {e : TypeId} {size : Nat} {v : Value} {n : Nat} {xs : List Value} (h : w.ownsRow base e size v n xs)
    (k : ∀ g, v.ownBlock = some g → w'.heap[g]? = w.heap[g]?) : w'.ownsRow base e size v n xs := by
  obtain ⟨h1, h2⟩ := h
  refine ⟨h1, ?_⟩
  rcases h2 with h2 | ⟨g, cap, cur, rfl, hg, hh, r⟩
  · exact Or.inl h2
  · exact Or.inr ⟨g, cap, cur, rfl, hg, by rw [k g rfl]; exact hh, r⟩

/-- The blocks of a disk. -/
def foot (b gd : Nat) (V : Nat → Value) (k : Nat) : Prop := k = b ∨ k = gd ∨ ∃ o, o < 17 ∧ (V o).ownBlock = some k

/-- A disk that is S lies in block b. -/
structure Disk (w : World) (b : Nat) (S : St) (gd : Nat) (V : Nat → Value) : Prop where
  hd : DHd w b S.n gd V S.writes S.left S.down
  du : Du w gd S.n S.dur
  row : ∀ o, o < 17 → w.ownsRow 0 71 3 (V o) (S.waits o).length (wcells (S.waits o))
  bg : gd ≠ b
  vb : ∀ o, o < 17 → ∀ g, (V o).ownBlock = some g → g ≠ b ∧ g ≠ gd
  vv : ∀ o o', o < 17 → o' < 17 → o ≠ o' → ∀ g, (V o).ownBlock = some g → (V o').ownBlock ≠ some g
  ok : S.Ok

theorem Disk.lt {w : World} {b : Nat} {S : St} {gd : Nat} {V : Nat → Value} (h : Disk w b S gd V) {k : Nat} (hk : foot b gd V k) : k < w.heap.size := by
  rcases hk with rfl | rfl | ⟨o, ho, hv⟩
  · exact h.hd.lt
  · exact h.du.lt
  · exact ((h.row o ho).lt k hv).2

theorem Disk.keep {w w' : World} {b : Nat} {S : St} {gd : Nat} {V : Nat → Value} (h : Disk w b S gd V) (k : ∀ i, foot b gd V i → w'.heap[i]? = w.heap[i]?) : Disk w' b S gd V :=
  ⟨h.hd.of_block (k b (.inl rfl)), h.du.of_block (k gd (.inr (.inl rfl))), fun o ho => owns_of_block (h.row o ho) (fun g hg => k g (.inr (.inr ⟨o, ho, hg⟩))), h.bg, h.vb, h.vv, h.ok⟩

/-- But for the blocks in F, what there was is as it was. -/
structure Keep (F : Nat → Prop) (w w' : World) : Prop where
  os : w'.os = w.os
  tape : w'.tape = w.tape
  output : w'.output = w.output
  size : w.heap.size ≤ w'.heap.size
  block : ∀ k, k < w.heap.size → ¬ F k → w'.heap[k]? = w.heap[k]?

section
variable {F G : Nat → Prop} {a w w' : World}
theorem Keep.refl (F : Nat → Prop) (w : World) : Keep F w w := ⟨rfl, rfl, rfl, Nat.le_refl _, fun _ _ _ => rfl⟩
theorem Keep.mono (h : Keep F w w') (k : ∀ i, i < w.heap.size → F i → G i) : Keep G w w' := ⟨h.os, h.tape, h.output, h.size, fun i hi hn => h.block i hi (fun hf => hn (k i hi hf))⟩
theorem Keep.trans (h : Keep F a w) (k : Keep F w w') : Keep F a w' :=
  ⟨k.os.trans h.os, k.tape.trans h.tape, k.output.trans h.output, Nat.le_trans h.size k.size, fun i hi hn => (k.block i (Nat.lt_of_lt_of_le hi h.size) hn).trans (h.block i hi hn)⟩
/-- A second step that touches, of what there was at first, F alone. -/
theorem Keep.trans' (h : Keep F a w) (k : Keep G w w') (hg : ∀ i, i < a.heap.size → G i → F i) : Keep F a w' :=
  ⟨k.os.trans h.os, k.tape.trans h.tape, k.output.trans h.output, Nat.le_trans h.size k.size, fun i hi hn => (k.block i (Nat.lt_of_lt_of_le hi h.size) (fun hgi => hn (hg i hi hgi))).trans (h.block i hi hn)⟩
theorem Keep.drew (h : Keep F a w) : Keep F a w.drew := ⟨h.os, h.tape, h.output, h.size, h.block⟩
theorem Keep.alloc (h : Keep F a w) (o : Obj) : Keep F a (w.alloc o) :=
  h.trans ⟨rfl, rfl, rfl, by simp, fun k hk _ => Below.heap_alloc _ _ _ hk⟩
theorem Keep.setCell (h : Keep F a w) {p : Addr} (hp : p.block < a.heap.size → F p.block) (u : Value) : Keep F a (w.setCell p u) :=
  ⟨h.os, h.tape, h.output, by simpa [World.setCell] using h.size, fun k hk hn => by
    rw [Below.heap_setCell _ _ _ _ (fun e => hn (by subst e; exact hp hk))]; exact h.block k hk hn⟩
theorem Keep.below (h : Keep F w w') {B : Nat} (hB : B ≤ w.heap.size) (hF : ∀ i, F i → B ≤ i) : Below B w w' :=
  ⟨h.os, h.tape, h.output, h.size, fun k hk => h.block k (by omega) (fun hf => by have := hF k hf; omega)⟩
theorem keep_of_below (h : Below w.heap.size w w') (F : Nat → Prop) : Keep F w w' := ⟨h.os, h.tape, h.output, h.size, fun k hk _ => h.block k hk⟩
theorem Keep.grown {row : Option Nat} (hg : w.grownBy w' row) : Keep (fun k => row = some k) w w' :=
  ⟨hg.os, hg.tape, hg.output, hg.size, fun k hk hn => hg.block k hk (fun e => hn e.symm)⟩
end

theorem Disk.below {w w' : World} {b : Nat} {S : St} {gd : Nat} {V : Nat → Value} (h : Disk w b S gd V) (k : Below w.heap.size w w') : Disk w' b S gd V :=
  h.keep fun i hi => k.block i (h.lt hi)

/-- A disk lies apart from what another step touched. -/
theorem Disk.apart {w w' : World} {b : Nat} {S : St} {gd : Nat} {V : Nat → Value} {F : Nat → Prop} (h : Disk w b S gd V) (k : Keep F w w') (hF : ∀ i, foot b gd V i → ¬ F i) : Disk w' b S gd V :=
  h.keep fun i hi => k.block i (h.lt hi) (hF i hi)

end Go.Proofs.Ytaiebhkjkeadoaa
