/- appendPlaces: the writes at the places that are named, each once, in their order, behind what there was. -/
import Derived.Test.YtaiebhkjkeadoaaGreatDiskSel
import Derived.Test.YtaiebhkjkeadoaaGreatDiskBack
namespace Go.Proofs.YtaiebhkjkeadoaaGreat
open Go.RowKit

/-- The row 'named' behind t places. -/
def nmRow (n : Nat) (ps : List Int) (t : Nat) : Array Value := ((List.range n).map fun (j : Nat) => Value.bool (decide ((j : Int) ∈ ps.take t))).toArray
theorem nmRow_size (n : Nat) (ps : List Int) (t : Nat) : (nmRow n ps t).size = n := by simp [nmRow]
theorem nmRow_get (n : Nat) (ps : List Int) (t j : Nat) (hj : j < n) : (nmRow n ps t)[j]? = some (.bool (decide ((j : Int) ∈ ps.take t))) := by
  simp [nmRow, List.getElem?_range hj]
theorem nmRow_skip (n : Nat) (ps : List Int) (t : Nat) (ht : t < ps.length) (h : ps[t] < 0 ∨ (n : Int) ≤ ps[t]) : nmRow n ps (t + 1) = nmRow n ps t := by
  apply Array.ext_getElem?
  intro j
  by_cases hj : j < n
  · rw [nmRow_get n ps _ j hj, nmRow_get n ps _ j hj, List.take_succ_eq_append_getElem ht]
    have : ((j : Int) ∈ ps.take t ++ [ps[t]]) = ((j : Int) ∈ ps.take t) := by
      simp only [List.mem_append, List.mem_singleton, eq_iff_iff]
      exact ⟨fun h' => h'.elim id (fun e => by omega), Or.inl⟩
    simp only [this]
  · rw [Array.getElem?_eq_none (by rw [nmRow_size]; omega), Array.getElem?_eq_none (by rw [nmRow_size]; omega)]
theorem nmRow_set (n : Nat) (ps : List Int) (t p : Nat) (ht : t < ps.length) (h : ps[t] = (p : Int)) (hp : p < n) : (nmRow n ps t).setIfInBounds p (.bool true) = nmRow n ps (t + 1) := by
  apply Array.ext_getElem?
  intro j
  by_cases hj : j < n
  · rw [nmRow_get n ps _ j hj, List.take_succ_eq_append_getElem ht]
    by_cases e : p = j
    · subst e
      rw [Array.getElem?_setIfInBounds_self_of_lt (by rw [nmRow_size]; exact hp)]
      simp [h]
    · rw [Array.getElem?_setIfInBounds_ne e, nmRow_get n ps _ j hj]
      have : ((j : Int) ∈ ps.take t ++ [ps[t]]) = ((j : Int) ∈ ps.take t) := by
        simp only [List.mem_append, List.mem_singleton, eq_iff_iff]
        exact ⟨fun h' => h'.elim id (fun e' => by omega), Or.inl⟩
      simp only [this]
  · rw [Array.getElem?_eq_none (by simp [nmRow_size]; omega), Array.getElem?_eq_none (by rw [nmRow_size]; omega)]
theorem nmRow_zero (n : Nat) (ps : List Int) : nmRow n ps 0 = (List.replicate n (Value.bool false)).toArray := by
  unfold nmRow
  congr 1
  simp only [List.take_zero, List.not_mem_nil, decide_false]
  rw [List.map_const']
  simp

theorem Tryz.dkInfoBool : (Tryz.prog.info? 4).map (fun i => (i.zero, i.size, i.bytes)) = some (some (.bool false), 1, 1) := by kernel_rfl

theorem madeCells_false (n : Nat) : madeCells #[Value.bool false] n = (List.replicate n (Value.bool false)).toArray := by
  apply Array.ext_getElem?
  intro j
  simp only [madeCells, Array.getElem?_map, List.getElem?_toArray, List.getElem?_replicate]
  by_cases hj : j < n
  · rw [Array.getElem?_range]
    simp [hj, Nat.mod_one]
  · rw [Array.getElem?_range]
    simp [hj]

theorem make_bools (n : Nat) (ps : List Int) (hn2 : n ≤ 16777216) (w : World) : (Instr.makeSlice 91 (.int .i64 n) (.int .i64 n)).run Tryz.prog w = .ok (.slice (some ⟨w.heap.size, 0, none⟩) n n) (w.alloc (.cells (nmRow n ps 0) 4)) := by
  obtain ⟨i0, hi, hz0, hz1, hz2⟩ := info_parts Tryz.dkInfoBool
  have := run_make (P := Tryz.prog) w 91 4 i0 (.bool false) Tryz.underlying91 hi hz0 .i64 .i64 n n (by omega) (by omega) (by rw [hz2]; omega) (by omega)
  rw [this, hz1]
  have e : madeCells (Value.bool false).cells ((n : Int).toNat * 1) = nmRow n ps 0 := by
    simp only [Int.toNat_natCast, Nat.mul_one]
    rw [nmRow_zero]
    exact madeCells_false n
  rw [e]; simp

set_option maxHeartbeats 1000000 in
theorem places_t (tv : Value) (T L : List Wr) (lad pad : Option Addr) (g pb po lcap pcap : Nat) (ps : List Int) (w : World)
    (hT : w.ownsRow 0 69 3 tv T.length (wcells T)) (hlad : 0 < L.length → lad = some ⟨g, 0, none⟩ ∧ g < w.heap.size ∧ tv.ownBlock ≠ some g)
    (hL : ∀ k, k < L.length → ∀ r, r < 3 → w.cell? ⟨g, k * 3 + r, none⟩ = (wcells L)[k * 3 + r]?)
    (hpad : 0 < ps.length → pad = some ⟨pb, po, none⟩ ∧ pb < w.heap.size)
    (hP : ∀ t (h : t < ps.length), w.cell? ⟨pb, po + t, none⟩ = some (.int .i64 ps[t]))
    (hTl : T.length ≤ 1000000) (hLl : L.length ≤ 1000000) (hpl : ps.length ≤ 1000000) :
    Calls Tryz.prog 28 #[tv, .slice lad L.length lcap, .slice pad ps.length pcap] w fun e w' => ∃ tv', e = .returned tv' ∧ w'.ownsRow 0 69 3 tv' (T ++ sel L ps).length (wcells (T ++ sel L ps)) ∧
      Keep (fun k => tv.ownBlock = some k) w w' ∧ ∀ k, tv'.ownBlock = some k → tv.ownBlock = some k ∨ w.heap.size ≤ k := by
  have hmk := make_bools L.length ps (by omega) w
  have HT := dkhid hT
  have HL := dkhid hL
  have HP := dkhid hP
  clear hT hL hP
  go_enter Tryz.func28, Tryz.ntmps28
  go_wp2
  clear hmk
  go_loopw [17] (fun c wr => ∃ t : Nat, t ≤ ps.length ∧ c = .int .i64 t ∧ Hid (wr.heap[w.heap.size]? = some (.cells (nmRow L.length ps t) 4 (0, 0))) ∧ Below w.heap.size w wr) (fun c _ => ps.length - (intOf c).toNat)
  case atStart => exact ⟨0, by omega, rfl, heap_alloc_new _ _, (Below.refl _ w).alloc (Nat.le_refl _) _⟩
  case round =>
    obtain ⟨t, ht, rfl, hg, hb⟩ := hrel
    by_cases hlt : t < ps.length
    · obtain ⟨hp1, hp2⟩ := hpad (by omega)
      subst hp1
      have hc : wr.cell? ⟨pb, po + t, none⟩ = some (.int .i64 ps[t]) := by rw [hb.cell (by exact hp2)]; exact HP.out t hlt
      obtain ⟨p, hp⟩ : ∃ p, ps[t] = p := ⟨_, rfl⟩
      rw [hp] at hc
      have Hp := dkhid hp
      clear hp
      by_cases hin : 0 ≤ p ∧ p < L.length
      · obtain ⟨q, hq⟩ := Int.eq_ofNat_of_zero_le hin.1
        subst hq
        have hq2 : q < L.length := by omega
        have hnc : wr.cell? ⟨w.heap.size, q, none⟩ = some (.bool (decide ((q : Int) ∈ ps.take t))) := by rw [cell_of_row wr _ _ _ 4 _ hg.out]; exact nmRow_get _ _ _ _ hq2
        have hnf := frozen_of_row wr w.heap.size q _ 4 hg.out
        obtain ⟨ob, hob⟩ : ∃ ob, decide ((q : Int) ∈ ps.take t) = ob := ⟨_, rfl⟩
        rw [hob] at hnc
        clear hob hin
        go_wp2
        go_roundw
        case rel =>
          refine ⟨t + 1, by omega, by go_num, ?_, hb.setCell (by simp) _⟩
          show _ = _
          rw [heap_setCell_same wr _ q _ 4 _ hg.out, nmRow_set _ _ _ _ hlt Hp.out hq2]
        case measure => simp [intOf]; omega
      · have hsk : Hid (nmRow L.length ps (t + 1) = nmRow L.length ps t) := nmRow_skip _ _ _ hlt (by rw [Hp.out]; omega)
        by_cases h0 : 0 ≤ p
        · have h1 : (L.length : Int) ≤ p := by omega
          clear hin
          have h1' : decide (p < (L.length : Int)) = false := by simp; omega
          go_wp2
          go_roundw
          case rel =>
            refine ⟨t + 1, by omega, by go_num, ?_, hb⟩
            rw [hsk.out]; exact hg
          case measure => simp [intOf]; omega
        · have h1 : decide (0 ≤ p) = false := by simp; omega
          clear hin
          go_wp2
          go_roundw
          case rel =>
            refine ⟨t + 1, by omega, by go_num, ?_, hb⟩
            rw [hsk.out]; exact hg
          case measure => simp [intOf]; omega
    · have e : t = ps.length := by omega
      subst e
      have hnm : Hid (wr.heap[w.heap.size]? = some (.cells (nmRow L.length ps ps.length) 4 (0, 0))) := hg
      have hown0 : Hid (wr.ownsRow 0 69 3 tv T.length (wcells T)) := owns_of_block HT.out (fun q hq => hb.block q (HT.out.lt q hq).2)
      have hTlt : ∀ q, tv.ownBlock = some q → q < w.heap.size := fun q hq => (HT.out.lt q hq).2
      have HTlt := dkhid hTlt
      have hsz0 := hb.size
      have hsz1 : w.heap.size < wr.heap.size := (Array.getElem?_eq_some_iff.1 hg.out).1
      have hk0 : Hid (Keep (fun k => tv.ownBlock = some k) w wr) := keep_of_below hb _
      obtain ⟨i0, hi0, hz0, hz1, hz2⟩ := info_parts Tryz.dkInfoW
      clear hTlt hg hb ht hlt hpad HP
      go_wp2
      go_loopw [0, 35] (fun v c wq => ∃ k : Nat, k ≤ L.length ∧ c = .int .i64 k ∧ Hid (wq.heap[w.heap.size]? = some (.cells (nmRow L.length ps ps.length) 4 (0, 0))) ∧
          Hid (wq.ownsRow 0 69 3 v (T ++ selTo L ps k).length (wcells (T ++ selTo L ps k))) ∧ Hid (Keep (fun k => tv.ownBlock = some k) w wq) ∧ Hid (∀ q, v.ownBlock = some q → tv.ownBlock = some q ∨ w.heap.size + 1 ≤ q))
        (fun _ c _ => L.length - (intOf c).toNat)
      case atStart => exact ⟨0, by omega, rfl, hnm, by simpa [selTo] using hown0, hk0, fun q hq => .inl hq⟩
      case round =>
        obtain ⟨k, hk, rfl, hg, hown, hkeep, hblk⟩ := hrel
        have hsl := selTo_length L ps k
        have hwl : w.heap.size < wr.heap.size := (Array.getElem?_eq_some_iff.1 hg.out).1
        by_cases hlt : k < L.length
        · obtain ⟨hl1, hl2, hl3⟩ := hlad (by omega)
          subst hl1
          obtain ⟨x, hx⟩ : ∃ x, L[k] = x := ⟨_, rfl⟩
          have hgb : wr.heap[g]? = w.heap[g]? := hkeep.out.block g hl2 hl3
          have k0 : wr.cell? ⟨g, k * 3, none⟩ = some (.int .i64 x.order) := by
            rw [World.cell?_of_block (w := w) (a := ⟨g, k * 3, none⟩) hgb]
            have h1 := HL.out k hlt 0 (by omega)
            rw [wcells_get L k 0 hlt (by omega), hx] at h1; simpa [Wr.cells] using h1
          have k1 : wr.cell? ⟨g, k * 3 + 1, none⟩ = some (.int .i64 x.pos) := by
            rw [World.cell?_of_block (w := w) (a := ⟨g, k * 3 + 1, none⟩) hgb]
            have h1 := HL.out k hlt 1 (by omega)
            rw [wcells_get L k 1 hlt (by omega), hx] at h1; simpa [Wr.cells] using h1
          have k2 : wr.cell? ⟨g, k * 3 + 2, none⟩ = some (.string x.bytes) := by
            rw [World.cell?_of_block (w := w) (a := ⟨g, k * 3 + 2, none⟩) hgb]
            have h1 := HL.out k hlt 2 (by omega)
            rw [wcells_get L k 2 hlt (by omega), hx] at h1; simpa [Wr.cells] using h1
          obtain ⟨nb, hnb⟩ : ∃ nb, decide ((k : Int) ∈ ps) = nb := ⟨_, rfl⟩
          have hnc : ∀ o1, (wr.alloc o1).cell? ⟨w.heap.size, k, none⟩ = some (.bool nb) := fun o1 => by
            rw [World.cell?_alloc_lt _ _ _ hwl, cell_of_row wr _ _ _ 4 _ hg.out, nmRow_get _ _ _ _ hlt, List.take_length, hnb]
          have hselE : selTo L ps (k + 1) = selTo L ps k ++ (if nb = true then [x] else []) := by
            have hxk : L[k]? = some x := by rw [List.getElem?_eq_getElem hlt, hx]
            simp only [selTo, hxk, Option.toList]
            by_cases hm : (k : Int) ∈ ps
            · have : nb = true := by rw [← hnb]; simp [hm]
              rw [if_pos hm, if_pos this]
            · have : nb = false := by rw [← hnb]; simp [hm]
              rw [if_neg hm, this]; rfl
          have HselE := dkhid hselE
          clear hx hnb hselE hgb
          cases nb
          · go_wp2
            go_roundw
            case rel =>
              refine ⟨k + 1, by omega, by go_num, ?_, ?_, hkeep.out.alloc _, hblk⟩
              · show _ = _
                rw [Below.heap_alloc _ _ _ hwl]; exact hg.out
              · have e : selTo L ps (k + 1) = selTo L ps k := by have := HselE.out; simpa using this
                rw [e]
                exact hown.out.alloc _
            case measure => simp [intOf]; omega
          · have hN : (T ++ selTo L ps k).length ≤ 2000000 := by simp; omega
            have hN1 : (T ++ selTo L ps k).length + 1 ≤ maxLen := by unfold maxLen; omega
            have hN2 : ((T ++ selTo L ps k).length + 1) * 32 ≤ 140737488355328 := by omega
            have HN1 := dkhid hN1
            have HN2 := dkhid hN2
            clear hN hN1 hN2
            go_wp2_with (at_builtin; refine wpList_append_lies _ rfl _ _ _ rfl 0 69 i0 _ 3 32 Tryz.underlying57 hi0 hz0 hz1 hz2 rfl (by omega) u0 _ _ rfl ((hown.out.alloc _).alloc _) ⟨wr.heap.size + 1, 0, none⟩ 1 1 [.int .i64 x.order, .int .i64 x.pos, .string x.bytes] rfl rfl (World.news_of_block (cs := #[.int .i64 x.order, .int .i64 x.pos, .string x.bytes]) (t := 69) (fr := (0, 0)) (heap_alloc2_new wr _ _)) (by simp [Value.oneCell']) (by omega) HN1.out HN2.out (by simp) (wr.heap.size + 2) (by simp) ?_; intro g' cap' w1 hown1 hgrow hat hlt1)
            refine ⟨⟨k + 1, by omega, by go_num, ?_, ?_, ?_, ?_⟩, by simp [intOf]; omega⟩
            · show _ = _
              rw [hgrow.block w.heap.size (by simp; omega) (fun e => by
                rcases hblk.out w.heap.size e.symm with h1 | h1
                · have := HTlt.out _ h1; omega
                · omega), Below.heap_alloc _ _ _ (by simp; omega), Below.heap_alloc _ _ _ hwl]
              exact hg.out
            · have e : T ++ selTo L ps (k + 1) = T ++ selTo L ps k ++ [x] := by rw [HselE.out, if_pos rfl, List.append_assoc]
              rw [e, wcells_append, wcells_one]
              have e2 : (T ++ selTo L ps k ++ [x]).length = (T ++ selTo L ps k).length + 1 := by simp; omega
              rw [e2]
              rw [List.length_append] at hown1 ⊢
              exact hown1
            · refine ((hkeep.out.alloc _).alloc _).trans' (Keep.grown hgrow) (fun i hi hu => ?_)
              rcases hblk.out i hu with h1 | h1
              · exact h1
              · omega
            · intro q hq
              have : q = g' := by simp [Value.ownBlock] at hq; exact hq.symm
              subst this
              rcases hat with h1 | h1
              · exact hblk.out q h1
              · right; omega
        · have e : k = L.length := by omega
          subst e
          go_wp2
          go_ret
          exact ⟨u0, rfl, hown.out, hkeep.out, fun q hq => (hblk.out q hq).imp id (fun h => by omega)⟩

end Go.Proofs.YtaiebhkjkeadoaaGreat
