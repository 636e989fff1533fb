/- slices.SortFunc at the writes, by the library's contract: a permutation, sorted by their orders (SortSaid). -/
import Derived.Test.YtaiebhkjkeadoaaGreatDiskSortPlain
import Derived.Test.YtaiebhkjkeadoaaGreatDiskBackL
namespace Go.Proofs.YtaiebhkjkeadoaaGreat
open Go.RowKit Go.Shelf Go.Sort

/-- A write as three parts. -/
def tup (x : Wr) : Nat × Nat × ByteArray := (x.order, x.pos, x.bytes)
def untup (x : Nat × Nat × ByteArray) : Wr := ⟨x.1, x.2.1, x.2.2⟩
theorem untup_tup (x : Wr) : untup (tup x) = x := rfl
theorem tup_untup (x : Nat × Nat × ByteArray) : tup (untup x) = x := rfl
def enc3 (x : Nat × Nat × ByteArray) : List Value := [.int .i64 x.1, .int .i64 x.2.1, .string x.2.2]
theorem enc3_tup (x : Wr) : enc3 (tup x) = x.cells := rfl

theorem flat_eq (L : List Wr) : flatK enc3 3 (L.map tup).toArray = (wcells L).toArray := by
  refine ext_get! (by simp [wcells_length]) fun t ht => ?_
  have ht' : t < L.length * 3 := by simpa using ht
  have hk : t / 3 < L.length := by omega
  have hr : t % 3 < 3 := Nat.mod_lt _ (by omega)
  rw [get_flatK _ _ _ _ (by simpa using ht')]
  have e1 : ((L.map tup).toArray)[t / 3]! = tup L[t / 3] := by simp [hk]
  have e2 := wcells_get L (t / 3) (t % 3) hk hr
  have e3 : t / 3 * 3 + t % 3 = t := by omega
  rw [e3] at e2
  have hl : t < (wcells L).length := by rw [wcells_length]; exact ht'
  have e4 : ((wcells L).toArray)[t]! = (wcells L)[t] := by simp [hl]
  rw [e1, enc3_tup, e4]
  have hc : t % 3 < L[t / 3].cells.length := hr
  rw [List.getElem?_eq_getElem hl, List.getElem?_eq_getElem hc] at e2
  rw [Option.some.inj e2]
  simp [hc]

theorem lt_eq (x y : Nat × Nat × ByteArray) : ltOf (fun x y : Nat × Nat × ByteArray => cmpN x.1 y.1) x y = decide (x.1 < y.1) := by
  unfold ltOf cmpN
  by_cases h1 : x.1 < y.1
  · simp [h1]
  · by_cases h2 : y.1 < x.1 <;> simp [h1, h2]

theorem swo : SWO (ltOf fun x y : Nat × Nat × ByteArray => cmpN x.1 y.1) :=
  ⟨fun x => by rw [lt_eq]; simp, fun x y z h1 h2 => by rw [lt_eq] at *; simp at *; omega, fun x y z h1 h2 => by rw [lt_eq] at *; simp at *; omega⟩

theorem cmpLays (blk off size : Nat) (w : World) : CmpLays Tryz.prog 30 #[] enc3 3 (fun x y => cmpN x.1 y.1) blk off size w :=
  fun _ _ _ _ x y => closure_t x.1 x.2.1 y.1 y.2.1 x.2.2 y.2.2 _

theorem take_put (cur : Array Value) (F : List Value) (h : F.length ≤ cur.size) : (putCells id 0 F.toArray cur).toList.take F.length = F := by
  apply List.ext_getElem?
  intro j
  by_cases hj : j < F.length
  · rw [List.getElem?_take_of_lt hj, Array.getElem?_toList]
    simp [putCells, hj, show j < cur.size by omega]
  · rw [List.getElem?_take_eq_none (by omega), List.getElem?_eq_none (by omega)]

theorem sort_said : SortSaid := by
  intro g cap L w hown hL
  obtain ⟨hlen, h2⟩ := hown
  rcases h2 with ⟨hv, _⟩ | ⟨g', cap', cur, hv, hbase, hg, hnc, hcm, hcs, htk⟩
  · cases hv
  · simp only [Value.slice.injEq, Option.some.injEq, Addr.mk.injEq, true_and] at hv
    obtain ⟨⟨rfl, _⟩, rfl⟩ := hv
    have hgl : g < w.heap.size := (Array.getElem?_eq_some_iff.1 hg).1
    have eg : ∀ args w, (callFunc 30 args).run Tryz.prog w = .ok (.enter 30 args) w := enters_of Tryz.func30 (by kernel_rfl) rfl
    have hH : HoldsK enc3 3 w g 0 (L.map tup).toArray := by
      show Holds id w g 0 (flatK enc3 3 (L.map tup).toArray)
      rw [flat_eq]
      intro t ht
      have ht' : t < (wcells L).length := by simpa using ht
      refine ⟨?_, frozen_of_row w g _ cur 69 hg⟩
      rw [cell_of_row w g _ cur 69 _ hg, Nat.zero_add, ← Array.getElem?_toList]
      have : (cur.toList.take (L.length * 3))[t]? = (wcells L)[t]? := by rw [htk]
      rw [List.getElem?_take_of_lt (by rw [wcells_length] at ht'; exact ht')] at this
      rw [this, List.getElem?_eq_getElem ht']
      simp [ht']
    have hsize : (L.map tup).toArray.size = L.length := by simp
    have hcon := AnyQ.slices_SortFunc sortW 3 Tryz.isAgg69 Tryz.sizeOf69 enc3 (fun _ => rfl) (fun x v hv => by simp [enc3] at hv; rcases hv with rfl | rfl | rfl <;> rfl) (fun x y => cmpN x.1 y.1) swo 30 #[] g 0 cap (L.map tup).toArray w eg (cmpLays g 0 _ w) hH hgl (by rw [hsize]; omega)
    change Calls Tryz.prog 29 _ _ _ at hcon
    rw [hsize] at hcon
    refine hcon.mono ?_
    rintro e w' ⟨rfl, d', n, os, hp, hs, rfl⟩
    obtain ⟨hps, _, hpp⟩ := hp
    have hds : d'.size = L.length := by rw [hps, hsize]
    obtain ⟨L', hL'⟩ : ∃ L' : List Wr, L' = d'.toList.map untup := ⟨_, rfl⟩
    have hd' : d' = (L'.map tup).toArray := by
      rw [hL', List.map_map]
      have : (tup ∘ untup) = id := by funext x; rfl
      rw [this]; simp
    have hLl : L'.length = L.length := by rw [hL']; simp [hds]
    refine ⟨rfl, L', ?_, ?_, ?_, ?_⟩
    · have e1 : d'.extract 0 L.length = d' := by rw [← hds]; simp
      have e2 : (L.map tup).toArray.extract 0 L.length = (L.map tup).toArray := by
        have := Array.extract_size (xs := (L.map tup).toArray)
        rw [hsize] at this; exact this
      rw [e1, e2] at hpp
      have := hpp.map untup
      rw [← hL'] at this
      simpa [List.map_map, Function.comp_def, untup_tup] using this
    · rw [List.pairwise_iff_getElem]
      intro i j hi hj hij
      have := hs i j (Nat.zero_le _) hij (by omega)
      rw [lt_eq, hd'] at this
      have hi' : i < L'.length := hi
      have hj' : j < L'.length := hj
      simp [hi', hj', tup] at this
      exact this
    · have hw : (sortWorldK enc3 3 w g 0 n d' os).heap[g]? = some (.cells (putCells id 0 (wcells L').toArray cur) 69 (0, 0)) := by
        unfold sortWorldK putRowK
        rw [hd', flat_eq, heap_grow_old _ _ (by simpa using hgl)]
        simp [putRow, mapBlock, Sort.ahead, Array.getElem?_modify, hg, onCells]
      refine ⟨by rw [wcells_length, hLl], .inr ⟨g, cap, _, rfl, Nat.zero_le _, hw, hnc, hcm, by simp [putCells, hcs], ?_⟩⟩
      have hk := take_put cur (wcells L') (by rw [wcells_length, hLl, hcs]; omega)
      rw [wcells_length, hLl] at hk
      exact hk
    · refine ⟨rfl, rfl, rfl, ?_, fun k hk hne => ?_⟩
      · unfold sortWorldK putRowK
        simp
      · unfold sortWorldK putRowK
        rw [heap_grow_old _ _ (by simpa using hk)]
        have : g ≠ k := fun e => hne e.symm
        simp [putRow, mapBlock, Sort.ahead, Array.getElem?_modify, this]

end Go.Proofs.YtaiebhkjkeadoaaGreat
