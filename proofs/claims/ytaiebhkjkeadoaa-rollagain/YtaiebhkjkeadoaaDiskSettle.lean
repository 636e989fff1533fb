/- A copy of a text; what waits becomes durable, write by write. -/
import Derived.Test.YtaiebhkjkeadoaaDiskEasy
import Derived.Deep.RegionHeld3
import Derived.Deep.RegionLaw
import Derived.BigRegion
import Derived.Lib.LazyBuf
namespace Go.Proofs.Ytaiebhkjkeadoaa
open Go.RowKit

theorem Try.dkCells5 : Try.prog.cellsOf 5 = 1 := by kernel_rfl

set_option maxHeartbeats 400000 in
set_option maxRecDepth 100000 in
theorem clone33 (s : ByteArray) (w : World) (hs : s.size = 256) :
    Calls Try.prog 37 #[.string s] w fun e w' => e = .returned (.string s) ∧ Below w.heap.size w w' := by
  have h0 : ((s.size : Int) == 0) = false := by rw [hs]; rfl
  obtain ⟨i0, hi, hz0, hz1, hz2⟩ := info_parts Try.dkInfoB
  have hinfo : (Try.prog.info? 5).map (·.size) = some 1 := by rw [hi]; simp [hz1]
  obtain ⟨M, hM⟩ : ∃ M, M = zcells s.size := ⟨_, rfl⟩
  have hMs : M.size = s.size := by rw [hM]; simp [zcells]
  have hmk : ∀ W : World, (Instr.makeSlice 50 (.int .i64 (s.size : Int)) (.int .i64 (s.size : Int))).run Try.prog W = .ok (.slice (some ⟨W.heap.size, 0, none⟩) s.size s.size) (W.alloc (.cells M 5)) := fun W => by
    rw [hM]; exact make_bytes s.size (by omega) W
  clear hM
  have hcp := Lib.run_copy_row_string (P := Try.prog) (w.alloc (.cells M 5)) 50 9 3 5 w.heap.size 0 s.size s.size s M 5 Try.underlying50 hinfo (heap_alloc_new w _) (Nat.le_refl _) (by omega)
  obtain ⟨Y, hY⟩ : ∃ Y, Y = (M.toList.take 0 ++ Lib.byteCells s.data.toList ++ M.toList.drop (0 + s.size)).toArray := ⟨_, rfl⟩
  rw [← hY] at hcp
  have hYl : Y.toList = Lib.byteCells s.data.toList := by
    rw [hY, List.toList_toArray, List.take_zero, List.nil_append, List.drop_of_length_le (by rw [Array.length_toList]; omega), List.append_nil]
  have hYs : Y.size = s.size := by rw [← Array.length_toList, hYl, Lib.byteCells_length, ← Lib.size_eq]
  have hgY : ((w.alloc (.cells M 5)).setRow w.heap.size Y).heap[w.heap.size]? = some (.cells Y 5 (0, 0)) := setRow_heap _ _ M _ 5 (0, 0) (heap_alloc_new w _)
  have hne : s.data.toList ≠ [] := fun e => by
    have : s.size = 0 := by rw [Lib.size_eq, e]; rfl
    omega
  have hUS := Lib.run_unsafeString_row (P := Try.prog) ((w.alloc (.cells M 5)).setRow w.heap.size Y) 98 3 9 5 Try.underlying98 Try.dkCells5 w.heap.size Y.size (by unfold World.shape?; rw [hgY]) s.data.toList hne (by rw [← Lib.size_eq]; omega) (by rw [← Lib.size_eq]; omega)
    (fun j x hx => Lib.cells_of_row hgY Y.size j _ (by rw [List.take_of_length_le (by rw [Array.length_toList]; exact Nat.le_refl _), hYl]; simp [Lib.byteCells, hx]))
  rw [← Lib.size_eq] at hUS
  have hpos : 0 < s.size := by omega
  clear hY hs
  go_enter Try.func37, Try.ntmps37
  go_wp2
  go_ret
  have hb1 : Below w.heap.size w (w.alloc (.cells M 5)) := (Below.refl _ w).alloc (Nat.le_refl _) _
  have hb2 : Below w.heap.size (w.alloc (.cells M 5)) ((w.alloc (.cells M 5)).setRow w.heap.size Y) := ⟨rfl, rfl, rfl, by simp, fun k hk => setRow_other _ _ _ _ (by omega)⟩
  exact ⟨rfl, Lib.below_freeze (hb1.trans hb2) (p := ⟨w.heap.size, 0, none⟩) (Nat.le_refl _) _⟩

set_option maxHeartbeats 400000 in
theorem clone_t (s : ByteArray) (w : World) (hs : s.size = 256) :
    Calls Try.prog 27 #[.string s] w fun e w' => e = .returned (.string s) ∧ Below w.heap.size w w' := by
  go_enter Try.func27, Try.ntmps27
  go_wp2_with (first | (go_at_call 37; refine (clone33 _ _ hs).mono ?_; rintro e w' ⟨rfl, hb⟩))
  go_ret
  exact ⟨rfl, hb⟩

/-- The writes of a list, laid over the sectors one behind the other. -/
def settleL (dur : Nat → ByteArray) (L : List Wr) : Nat → ByteArray := L.foldl (fun d x => upd d x.pos x.bytes) dur

set_option maxHeartbeats 400000 in
theorem settle_nil (p : Value) (w : World) : Calls Try.prog 51 #[p, .slice none 0 0] w fun e w' => e = .returned (.tuple #[]) ∧ w = w' := by
  go_enter Try.func51, Try.ntmps51
  go_wp2
  refine wp_loop_rounds 1 ?_
  rw [rounds_succ]
  go_wp2
  go_end0
  exact ⟨rfl, rfl⟩

theorem Try.dkSize5 : ∀ w, (Go.sizeOf 5).run Try.prog w = .ok 1 w := fun _ => by kernel_rfl

theorem setCells_drew (b : Nat) : ∀ (vs : List Value) (o : Nat) (w : World), w.drew.setCells b o vs = (w.setCells b o vs).drew
  | [], _, _ => rfl
  | _ :: r, o, w => setCells_drew b r (o + 1) (w.setCell ⟨b, o, none⟩ _)

theorem copy_sector (w : World) (gd n i : Nat) (s : ByteArray) (dur : Nat → ByteArray) (h : Du w gd n dur) (hi : i < n) (hs : s.size = 256) :
    (Builtin.copy_ #[50, 9] 3 #[.slice (some ⟨gd, i * 256, none⟩) 256 256, .string s]).run Try.prog w = .ok (.int .i64 256) (w.setCells gd (i * 256) (Lib.byteCells s.data.toList)) := by
  obtain ⟨cur, hb, hsz, hr⟩ := h
  have := Go.run_copy_string (P := Try.prog) w 50 9 3 5 gd (i * 256) 256 256 s Try.underlying50 Try.dkSize5 (by omega) (fun j hj => by
      rw [cell_of_row w gd _ _ 90 _ hb]
      have : i * 256 + j < cur.size := by omega
      simp [this]) (fun j hj => frozen_of_row w gd _ cur 90 hb)
  rw [this, hs]
  rfl

theorem setCells_row (g : Nat) (t : TypeId) : ∀ (vs : List Value) (o : Nat) (w : World) (cur : Array Value), w.heap[g]? = some (.cells cur t (0, 0)) →
    ∃ cur', (w.setCells g o vs).heap[g]? = some (.cells cur' t (0, 0)) ∧ cur'.size = cur.size
  | [], _, _, cur, h => ⟨cur, h, rfl⟩
  | v :: r, o, w, cur, h => by
    obtain ⟨c, h1, h2⟩ := setCells_row g t r (o + 1) (w.setCell ⟨g, o, none⟩ v) (cur.setIfInBounds o v) (heap_setCell_same w g o cur t v h)
    exact ⟨c, h1, by rw [h2]; simp⟩

theorem setCells_keep (g : Nat) : ∀ (vs : List Value) (o : Nat) (w : World), Keep (fun k => k = g) w (w.setCells g o vs)
  | [], _, w => Keep.refl _ w
  | v :: r, o, w => Keep.trans (F := fun k => k = g) ((Keep.refl (fun k => k = g) w).setCell (p := ⟨g, o, none⟩) (fun _ => rfl) v) (setCells_keep g r (o + 1) _)

/-- A sector that is written over. -/
theorem Du.setSector {w : World} {gd n i : Nat} {s : ByteArray} {dur : Nat → ByteArray} (h : Du w gd n dur) (hi : i < n) (hs : s.size = 256) :
    Du (w.setCells gd (i * 256) (Lib.byteCells s.data.toList)) gd n (upd dur i s) := by
  obtain ⟨cur, hb, hsz, hr⟩ := h
  have hl : (Lib.byteCells s.data.toList).length = 256 := by rw [Lib.byteCells_length, ← Lib.size_eq]; exact hs
  obtain ⟨cur', hb', hs'⟩ := setCells_row gd 90 (Lib.byteCells s.data.toList) (i * 256) w cur hb
  refine ⟨cur', hb', by omega, fun j hj => ⟨?_, fun m hm => ?_⟩⟩
  · by_cases e : j = i
    · subst e; rw [upd_same]; exact hs
    · rw [upd_other _ _ e]; exact (hr j hj).1
  · have key := cell_of_row _ gd (j * 256 + m) cur' 90 _ hb'
    rw [← key]
    by_cases e : j = i
    · subst e
      have hm' : m < s.size := by rw [upd_same] at hm; exact hm
      have := World.cell?_setCells_in gd (Lib.byteCells s.data.toList) (j * 256) w (fun q hq => by
        rw [cell_of_row w gd _ cur 90 _ hb]
        have : j * 256 + q < cur.size := by omega
        simp [this]) m (by omega)
      rw [this]
      simp only [upd_same]
      simp [Lib.byteCells]
      rfl
    · have hj' := (hr j hj).1
      have hm' : m < 256 := by rw [upd_other _ _ e, hj'] at hm; exact hm
      rw [World.cell?_setCells_out gd _ _ w _ (fun _ _ => by rw [hl]; show j * 256 + m < i * 256 ∨ i * 256 + 256 ≤ j * 256 + m; omega), cell_of_row w gd _ cur 90 _ hb]
      have := (hr j hj).2 m (by omega)
      simp only [upd_other _ _ e]
      exact this

set_option maxHeartbeats 400000 in
theorem settle_row (b gd n g cap : Nat) (dur : Nat → ByteArray) (L : List Wr) (w : World)
    (c0 : w.cell? ⟨b, 0, none⟩ = some (.slice (some ⟨gd, 0, none⟩) n n)) (hdu : Du w gd n dur)
    (hrow : w.ownsRow 0 71 3 (.slice (some ⟨g, 0, none⟩) L.length cap) L.length (wcells L)) (hlen : L.length ≤ 1000000) (_hn : n ≤ 16384)
    (hL : ∀ x ∈ L, x.pos < n ∧ x.bytes.size = 256) (hbg : gd ≠ b) (hg : g ≠ gd) :
    Calls Try.prog 51 #[.pointer (some ⟨b, 0, none⟩), .slice (some ⟨g, 0, none⟩) L.length cap] w fun e w' => e = .returned (.tuple #[]) ∧ Du w' gd n (settleL dur L) ∧ Keep (fun k => k = gd) w w' := by
  have hgl : g < w.heap.size := (hrow.lt g rfl).2
  have hbl : b < w.heap.size := block_lt_of_cell c0
  have hgdl : gd < w.heap.size := hdu.lt
  go_enter Try.func51, Try.ntmps51
  go_wp2
  go_loopw [8] (fun i wr => ∃ k : Nat, k ≤ L.length ∧ i = .int .i64 k ∧ Du wr gd n (settleL dur (L.take k)) ∧ Keep (fun k => k = gd) w wr) (fun i _ => L.length - (intOf i).toNat)
  case atStart => exact ⟨0, by omega, rfl, hdu, Keep.refl _ _⟩
  case round =>
    obtain ⟨k, hk, rfl, hd, hkeep⟩ := hrel
    by_cases hlt : k < L.length
    · have hx : ∃ x, L[k] = x := ⟨_, rfl⟩
      obtain ⟨x, hx⟩ := hx
      have hrw : wr.ownsRow 0 71 3 (.slice (some ⟨g, 0, none⟩) L.length cap) L.length (wcells L) := owns_of_block hrow (fun q hq => hkeep.block q (by simp [Value.ownBlock] at hq; omega) (by simp [Value.ownBlock] at hq; omega))
      have k0 : wr.cell? ⟨g, k * 3, none⟩ = some (.int .i64 x.order) := by
        rw [hrw.cellAt (k * 3) (by omega)]
        have := wcells_get L k 0 hlt (by omega)
        rw [hx] at this; simpa [Wr.cells] using this
      have k1 : wr.cell? ⟨g, k * 3 + 1, none⟩ = some (.int .i64 x.pos) := by
        rw [hrw.cellAt (k * 3 + 1) (by omega)]
        have := wcells_get L k 1 hlt (by omega)
        rw [hx] at this; simpa [Wr.cells] using this
      have k2 : wr.cell? ⟨g, k * 3 + 2, none⟩ = some (.string x.bytes) := by
        rw [hrw.cellAt (k * 3 + 2) (by omega)]
        have := wcells_get L k 2 hlt (by omega)
        rw [hx] at this; simpa [Wr.cells] using this
      have kb : wr.cell? ⟨b, 0, none⟩ = some (.slice (some ⟨gd, 0, none⟩) n n) := by
        rw [World.cell?_of_block (w := w) (hkeep.block b hbl (by omega))]; exact c0
      have hxm := hL x (hx ▸ List.getElem_mem hlt)
      have Hx := dkhid hx
      clear hx hrow hrw hdu
      have HL := dkhid hL
      clear hL
      have hp1 : (0 : Int) ≤ (x.pos : Int) := by omega
      have hp2 : (x.pos : Int) < (n : Int) := by omega
      have DHd := dkhid hd
      have Hxm := dkhid hxm
      clear hd hxm
      have hwl : w.heap.size ≤ wr.heap.size := hkeep.size
      have kb' : ∀ o, (wr.alloc o).cell? ⟨b, 0, none⟩ = some (.slice (some ⟨gd, 0, none⟩) n n) := fun o => by
        rw [World.cell?_alloc_lt _ _ _ (show b < wr.heap.size by omega)]; exact kb
      have hcp : ∀ o, (Builtin.copy_ #[50, 9] 3 #[.slice (some ⟨gd, x.pos * 256, none⟩) 256 256, .string x.bytes]).run Try.prog (wr.alloc o).drew = .ok (.int .i64 256) (((wr.alloc o).setCells gd (x.pos * 256) (Lib.byteCells x.bytes.data.toList)).drew) := fun o => by
        have := copy_sector (wr.alloc o).drew gd n x.pos x.bytes _ (DHd.out.of_block (w' := (wr.alloc o).drew) (Below.heap_alloc _ _ _ (by omega))) Hxm.out.1 Hxm.out.2
        rw [this, setCells_drew]
      go_wp2
      go_region
      go_wp2
      refine ⟨⟨k + 1, by omega, by go_num, ?_, ?_⟩, by simp [intOf]; omega⟩
      · have e : settleL dur (L.take (k + 1)) = upd (settleL dur (L.take k)) x.pos x.bytes := by
          rw [List.take_succ_eq_append_getElem hlt, Hx.out]
          simp [settleL]
        rw [e]
        exact Du.setSector (DHd.out.of_block (w' := wr.alloc _) (Below.heap_alloc _ _ _ (by omega))) Hxm.out.1 Hxm.out.2
      · exact ((hkeep.alloc _).trans (setCells_keep gd _ _ _)).drew
    · have e : k = L.length := by omega
      subst e
      rw [List.take_length] at hd
      have DHd := dkhid hd
      clear hd
      go_wp2
      go_end0
      exact ⟨rfl, DHd.out, hkeep⟩

end Go.Proofs.Ytaiebhkjkeadoaa
