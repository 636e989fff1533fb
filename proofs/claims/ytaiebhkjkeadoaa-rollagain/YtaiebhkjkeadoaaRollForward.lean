/- Forward walked: what a log has behind a place. -/
import Derived.Test.YtaiebhkjkeadoaaRollRange
namespace Go.Proofs.Ytaiebhkjkeadoaa
open Go.RowKit Go.Shelf Go.Great Lo Hdp Rol Chk Rec
attribute [local go_sem] Oper.semAt_some

theorem ro_addr (g o j : Nat) : (⟨g, o, none⟩ : Addr).add j = ⟨g, o + j, none⟩ := by unfold Addr.add; split <;> simp_all
theorem Keep.putObj {F : Nat → Prop} {a w : World} (h : Keep F a w) {r : Nat} (hr : r < a.heap.size → F r) (o : Obj) : Keep F a (w.putObj r o) :=
  ⟨h.os, h.tape, h.output, by rw [World.putObj_size]; exact h.size, fun k hk hn => by
    rw [World.putObj_heap_other (fun e => hn (by subst e; exact hr hk))]
    exact h.block k hk hn⟩
theorem Keep.grownBy {F : Nat → Prop} {a w w' : World} (h : Keep F a w) {row : Option Nat} (hg : w.grownBy w' row) (hF : ∀ q, row = some q → q < a.heap.size → F q) : Keep F a w' :=
  ⟨hg.os.trans h.os, hg.tape.trans h.tape, hg.output.trans h.output, Nat.le_trans h.size hg.size, fun k hk hn => by
    rw [hg.block k (Nat.lt_of_lt_of_le hk h.size) (fun e => hn (hF k e.symm hk))]
    exact h.block k hk hn⟩

theorem set13_is (w : World) (b : Nat) (v0 v1 v2 v3 v4 v5 v6 v7 v8 v9 v10 v11 v12 : Value) : (((((((((((((w.setCell ⟨b, 0, none⟩ v0).setCell ⟨b, 1, none⟩ v1).setCell ⟨b, 2, none⟩ v2).setCell ⟨b, 3, none⟩ v3).setCell ⟨b, 4, none⟩ v4).setCell ⟨b, 5, none⟩ v5).setCell ⟨b, 6, none⟩ v6).setCell ⟨b, 7, none⟩ v7).setCell ⟨b, 8, none⟩ v8).setCell ⟨b, 9, none⟩ v9).setCell ⟨b, 10, none⟩ v10).setCell ⟨b, 11, none⟩ v11).setCell ⟨b, 12, none⟩ v12) = set13 w b v0 v1 v2 v3 v4 v5 v6 v7 v8 v9 v10 v11 v12 := rfl
theorem set13_keep (w : World) (b : Nat) (v0 v1 v2 v3 v4 v5 v6 v7 v8 v9 v10 v11 v12 : Value) : Keep (fun q => q = b) w (set13 w b v0 v1 v2 v3 v4 v5 v6 v7 v8 v9 v10 v11 v12) :=
  (Keep.setCell (Keep.setCell (Keep.setCell (Keep.setCell (Keep.setCell (Keep.setCell (Keep.setCell (Keep.setCell (Keep.setCell (Keep.setCell (Keep.setCell (Keep.setCell (Keep.setCell (Keep.refl (fun q => q = b) w) (p := ⟨b, 0, none⟩) (fun _ => rfl) _) (p := ⟨b, 1, none⟩) (fun _ => rfl) _) (p := ⟨b, 2, none⟩) (fun _ => rfl) _) (p := ⟨b, 3, none⟩) (fun _ => rfl) _) (p := ⟨b, 4, none⟩) (fun _ => rfl) _) (p := ⟨b, 5, none⟩) (fun _ => rfl) _) (p := ⟨b, 6, none⟩) (fun _ => rfl) _) (p := ⟨b, 7, none⟩) (fun _ => rfl) _) (p := ⟨b, 8, none⟩) (fun _ => rfl) _) (p := ⟨b, 9, none⟩) (fun _ => rfl) _) (p := ⟨b, 10, none⟩) (fun _ => rfl) _) (p := ⟨b, 11, none⟩) (fun _ => rfl) _) (p := ⟨b, 12, none⟩) (fun _ => rfl) _)
theorem results_tc_row {P : Program} {fn : Func} {p u : Tmp} {ty : TypeId} (h : fn.results = #[.tmp u, .cell p ty]) (tmps : Array Value) (w : World) (g : Nat) (t : TypeId) (cs : Array Value) (fr : Nat × Nat) (d : TypeDesc)
    (hp : tmps.getD p undef = .pointer (some ⟨g, 0, none⟩)) (hg : w.heap[g]? = some (.cells cs t fr))
    (hu : P.underlying ty = some d) (hd : (match d with | .struct _ | .array _ _ => true | _ => false) = true) (hi : (P.info? ty).map (·.size) = some cs.size) :
    (results fn tmps).run P w = .ok (.tuple #[tmps.getD u undef, .agg cs]) w := by
  have hp' : tmps[p]?.getD undef = .pointer (some ⟨g, 0, none⟩) := by simpa using hp
  simp [results, h, hp', asAddr, run_loadVar_row w g t ty cs fr d hg hu hd hi]

set_option maxRecDepth 100000 in
set_option maxHeartbeats 4000000 in
theorem forward_in (b gd n : Nat) (D : St) (V : Nat → Value) (L L' : Lg) (v : Value) (segs : List Int) (fs : List Fnd) (w : World)
    (hI : Ints w v segs) (hl : segs.length ≤ 100000) (hD : Disk w b D gd V) (hn : D.n = 48 + 32 * n) (hn2 : 8 ≤ n) (hn3 : n ≤ 100) (hup : D.down = false) (hR : Rolls D.read n segs L fs L') (hf : fs.length ≤ 1000) :
    CallsIn Fence.wide 6 Try.prog 13 #[.pointer (some ⟨b, 0, none⟩), geomV (48 + 32 * (n : Int)) 32, .int .i64 L.house, .int .i64 L.gen, v, plV L] w fun e w' => ∃ v' Lv, e = .returned (.tuple #[v', plV L']) ∧ FOwn w' w.heap.size v' Lv ∧ Lv.map (·.f) = fs ∧ Below w.heap.size w w' := by
  have CH := rohid (fun (W : World) (hW : Below w.heap.size w W) (m l wb B : Nat) (hm : 2 ≤ m) (J : Nat → World → (Nat → Prop) → Prop) (hwb : W.heap.size ≤ wb) (hwB : wb < B) => rchunks_in m l wb b gd n hm D V L L' v segs fs 67 (by decide) W B J (hI.on hW) hl (hD.below hW) hn hn2 hn3 hup hwb hwB)
  have HR := rohid hR
  have hsl : ∃ ad nn cap, v = .slice ad nn cap := by
    obtain ⟨ad, cap, h1, -⟩ := hI
    exact ⟨ad, _, cap, h1⟩
  obtain ⟨vad, vn, vcap, rfl⟩ := hsl
  clear hI hD hn hup hR
  obtain ⟨house, gen, num, life, clock, seg, pos, next, seq, m0, m1, m2, m3, sb, sn, fl⟩ := L
  dsimp only [plV, plC]
  have r0 : (((w.alloc (.cells #[.int .i64 (48 + 32 * (n : Int)), .int .i64 32] 37)).alloc (.cells #[.int .i64 num, .int .i64 life, .int .i64 clock, .int .i64 seg, .int .i64 pos, .int .i64 next, .int .i64 seq, .int .i64 m0, .int .i64 m1, .int .i64 m2, .int .i64 m3, .int .i64 sb, .int .i64 sn] 29)).alloc (.cells #[.int .i64 0, .int .i64 0, .int .i64 0, .int .i64 0, .int .i64 0, .int .i64 0, .int .i64 0, .int .i64 0, .int .i64 0, .int .i64 0, .int .i64 0, .int .i64 0, .int .i64 0] 29)).heap[w.heap.size]? = some (.cells #[.int .i64 (48 + 32 * (n : Int)), .int .i64 32] 37 (0, 0)) := by
    rw [Below.heap_alloc _ _ _ (by simp; omega)]
    exact heap_alloc2_old _ _ _
  have r1 : (((w.alloc (.cells #[.int .i64 (48 + 32 * (n : Int)), .int .i64 32] 37)).alloc (.cells #[.int .i64 num, .int .i64 life, .int .i64 clock, .int .i64 seg, .int .i64 pos, .int .i64 next, .int .i64 seq, .int .i64 m0, .int .i64 m1, .int .i64 m2, .int .i64 m3, .int .i64 sb, .int .i64 sn] 29)).alloc (.cells #[.int .i64 0, .int .i64 0, .int .i64 0, .int .i64 0, .int .i64 0, .int .i64 0, .int .i64 0, .int .i64 0, .int .i64 0, .int .i64 0, .int .i64 0, .int .i64 0, .int .i64 0] 29)).heap[w.heap.size + 1]? = some (.cells #[.int .i64 num, .int .i64 life, .int .i64 clock, .int .i64 seg, .int .i64 pos, .int .i64 next, .int .i64 seq, .int .i64 m0, .int .i64 m1, .int .i64 m2, .int .i64 m3, .int .i64 sb, .int .i64 sn] 29 (0, 0)) := by
    rw [Below.heap_alloc _ _ _ (by simp)]
    exact heap_alloc2_new _ _ _
  have r2 : (((w.alloc (.cells #[.int .i64 (48 + 32 * (n : Int)), .int .i64 32] 37)).alloc (.cells #[.int .i64 num, .int .i64 life, .int .i64 clock, .int .i64 seg, .int .i64 pos, .int .i64 next, .int .i64 seq, .int .i64 m0, .int .i64 m1, .int .i64 m2, .int .i64 m3, .int .i64 sb, .int .i64 sn] 29)).alloc (.cells #[.int .i64 0, .int .i64 0, .int .i64 0, .int .i64 0, .int .i64 0, .int .i64 0, .int .i64 0, .int .i64 0, .int .i64 0, .int .i64 0, .int .i64 0, .int .i64 0, .int .i64 0] 29)).heap[w.heap.size + 1 + 1]? = some (.cells #[.int .i64 0, .int .i64 0, .int .i64 0, .int .i64 0, .int .i64 0, .int .i64 0, .int .i64 0, .int .i64 0, .int .i64 0, .int .i64 0, .int .i64 0, .int .i64 0, .int .i64 0] 29 (0, 0)) := by
    have e : ((w.alloc (.cells #[.int .i64 (48 + 32 * (n : Int)), .int .i64 32] 37)).alloc (.cells #[.int .i64 num, .int .i64 life, .int .i64 clock, .int .i64 seg, .int .i64 pos, .int .i64 next, .int .i64 seq, .int .i64 m0, .int .i64 m1, .int .i64 m2, .int .i64 m3, .int .i64 sb, .int .i64 sn] 29)).heap.size = w.heap.size + 1 + 1 := by simp
    rw [← e]
    exact heap_alloc_new _ _
  have rs : (((w.alloc (.cells #[.int .i64 (48 + 32 * (n : Int)), .int .i64 32] 37)).alloc (.cells #[.int .i64 num, .int .i64 life, .int .i64 clock, .int .i64 seg, .int .i64 pos, .int .i64 next, .int .i64 seq, .int .i64 m0, .int .i64 m1, .int .i64 m2, .int .i64 m3, .int .i64 sb, .int .i64 sn] 29)).alloc (.cells #[.int .i64 0, .int .i64 0, .int .i64 0, .int .i64 0, .int .i64 0, .int .i64 0, .int .i64 0, .int .i64 0, .int .i64 0, .int .i64 0, .int .i64 0, .int .i64 0, .int .i64 0] 29)).heap.size = w.heap.size + 3 := by simp
  have rb : Below w.heap.size w (((w.alloc (.cells #[.int .i64 (48 + 32 * (n : Int)), .int .i64 32] 37)).alloc (.cells #[.int .i64 num, .int .i64 life, .int .i64 clock, .int .i64 seg, .int .i64 pos, .int .i64 next, .int .i64 seq, .int .i64 m0, .int .i64 m1, .int .i64 m2, .int .i64 m3, .int .i64 sb, .int .i64 sn] 29)).alloc (.cells #[.int .i64 0, .int .i64 0, .int .i64 0, .int .i64 0, .int .i64 0, .int .i64 0, .int .i64 0, .int .i64 0, .int .i64 0, .int .i64 0, .int .i64 0, .int .i64 0, .int .i64 0] 29)) := (((Below.refl _ w).alloc (Nat.le_refl _) _).alloc (by simp) _).alloc (by simp; omega) _
  have hmf : ∀ (fn : Fn) (first cap : Array Value) (w : World), (Instr.makeFunc fn first cap).run Try.prog w = .ok (.func fn first cap) w := fun _ _ _ _ => rfl
  refine callsIn_of_wp_marks Try.func13 rfl trivial ?_ rfl
  simp only [Try.ntmps13, List.size_toArray, List.length_cons, List.length_nil, Nat.reduceAdd, Nat.reduceSub, Array.replicate_succ, Array.replicate_zero, List.push_toArray, List.append_toArray, List.nil_append, List.cons_append]
  refine wpIn_wide.2 ?_
  go_wp2_with (first
    | (refine wpList_load_row rfl 37 (.tmp 7) rfl w.heap.size rfl 37 _ (0, 0) _ r0 Try.underlying37 rfl Try.geomSize ?_; refine Hid.out ?_)
    | fail)
  refine rohid ?_
  generalize hW : ((w.alloc (.cells #[.int .i64 (48 + 32 * (n : Int)), .int .i64 32] 37)).alloc (.cells #[.int .i64 num, .int .i64 life, .int .i64 clock, .int .i64 seg, .int .i64 pos, .int .i64 next, .int .i64 seq, .int .i64 m0, .int .i64 m1, .int .i64 m2, .int .i64 m3, .int .i64 sb, .int .i64 sn] 29)).alloc (.cells #[.int .i64 0, .int .i64 0, .int .i64 0, .int .i64 0, .int .i64 0, .int .i64 0, .int .i64 0, .int .i64 0, .int .i64 0, .int .i64 0, .int .i64 0, .int .i64 0, .int .i64 0] 29) = W at *
  have R2 := rohid r2
  have RS := rohid rs
  have RB := rohid rb
  clear hW r0 r2 rs rb
  go_wp2_with (first
    | (refine wpList_load_row rfl 29 (.tmp 11) rfl (w.heap.size + 1) rfl 29 _ (0, 0) _ r1 Try.underlying29 rfl Try.slotSize ?_)
    | (refine wpList_buildTo rfl 67 _ rfl (some 23) rfl (wkC b (48 + 32 * (n : Int)) 32 ⟨house, gen, num, life, clock, seg, pos, next, seq, m0, m1, m2, m3, sb, sn, fl⟩ (.slice vad vn vcap)) (by kernel_rfl) ?_)
    | (refine wpList_allocTo rfl (some 14) rfl (.pointer (some ⟨W.heap.size, 0, none⟩)) (.cells #[.pointer none, .int .i64 0, .int .i64 0, .int .i64 0, .int .i64 0, .slice none 0 0, .int .i64 0, .int .i64 0, .int .i64 0, .int .i64 0, .int .i64 0, .int .i64 0, .int .i64 0, .int .i64 0, .int .i64 0, .int .i64 0, .int .i64 0, .int .i64 0, .int .i64 0] 67) (by kernel_rfl) ?_)
    | (refine wpList_store_row rfl 67 (.tmp 14) (.tmp 23) rfl W.heap.size (wkC b (48 + 32 * (n : Int)) 32 ⟨house, gen, num, life, clock, seg, pos, next, seq, m0, m1, m2, m3, sb, sn, fl⟩ (.slice vad vn vcap)) rfl rfl 67 _ (heap_alloc_new _ _) Try.walkSize rfl (wkC_one _ _ _ _ _ _ _) ?_; rw [World.setRow_alloc_new])
    | fail)
  clear r1
  generalize hX : World.alloc (World.alloc W _) _ = X
  have RW : Hid (X.heap[W.heap.size]? = some (.cells (wkC b (48 + 32 * (n : Int)) 32 ⟨house, gen, num, life, clock, seg, pos, next, seq, m0, m1, m2, m3, sb, sn, fl⟩ (.slice vad vn vcap)) 67 (0, 0))) := by rw [← hX]; exact heap_alloc2_old _ _ _
  have BX : Hid (X.heap[W.heap.size + 1]? = some (.cells #[.slice none 0 0] 33 (0, 0))) := by rw [← hX]; exact heap_alloc2_new _ _ _
  have hXs : X.heap.size = W.heap.size + 2 := by rw [← hX]; simp
  have XB : Hid (Below W.heap.size W X) := by rw [← hX]; exact ((Below.refl _ W).alloc (Nat.le_refl _) _).alloc (by simp) _
  clear hX
  have hws : w.heap.size ≤ W.heap.size := RB.out.size
  obtain ⟨B, hB⟩ : ∃ B, B = X.heap.size + 2 := ⟨_, rfl⟩
  refine (wpIn_wide (n := 6)).1 ?_
  refine range_method (by decide) (gf := 22) (c := .pointer (some ⟨W.heap.size, 0, none⟩)) rfl (enters_of Try.func22 (by kernel_rfl) rfl) ?_
  intro fn
  generalize hrec : ({ state := LoopState.ready, pending := none, fn := fn, tmps := _, params := _, assign := _, body := _, defers := _ } : Loop) = rec
  have rst : rec.state = .ready := by rw [← hrec]
  have rpe : rec.pending = none := by rw [← hrec]
  have rpa : rec.params.size = 1 := by rw [← hrec]; rfl
  obtain ⟨X1, hX1⟩ : ∃ X1, (X.alloc (.deferred (some []))).alloc (.loop rec) = X1 := ⟨_, rfl⟩
  rw [hX1]
  have hl1 : X1.heap[X.heap.size + 1]? = some (.loop rec) := by
    rw [← hX1]; have := World.alloc_heap_new (X.alloc (.deferred (some []))) (.loop rec); rwa [World.size_alloc] at this
  have hd0 : X1.heap[X.heap.size]? = some (.deferred (some [])) := by
    rw [← hX1]; exact (Below.heap_alloc _ _ _ (by simp)).trans (World.alloc_heap_new X _)
  have hXX : Below X.heap.size X X1 := by rw [← hX1]; exact ((Below.refl _ X).alloc (Nat.le_refl _) _).alloc (by simp) _
  have hX1s : X1.heap.size = X.heap.size + 2 := by rw [← hX1]; simp
  clear hX1
  refine (CH.out W RB.out (6 - 1) (X.heap.size + 1) W.heap.size B (by decide) (FwJ fs B (W.heap.size + 1) (X.heap.size + 1) X.heap.size rec) (Nat.le_refl _) (by omega) (fun k W1 W' P F hJ hk hF => ?_) ?_ X1 (fun q => q = W.heap.size + 1 ∨ q = X.heap.size + 1 ∨ q = X.heap.size) (fun q hq => by omega) (row_on RW.out hXX) (XB.out.trans (hXX.mono (by omega))) (by omega) ?_ HR.out hf).mono ?_
  · obtain ⟨v2, Lv, hJ⟩ := hJ
    exact ⟨v2, Lv, hJ.keep hk hF⟩
  · intro k hk Wk P g ad bad cap bcap hJ PA hk1
    obtain ⟨v2, Lv, hJ⟩ := hJ
    refine yield_round (rec := rec) hJ.lp rst rpe (by rw [rpa]; rfl) ?_
    have HJ := rohid hJ
    have PA := rohid PA
    have hFf : fs[k] = fs[k] := rfl
    have HTK : Hid (fs.take (k + 1) = fs.take k ++ [fs[k]]) := List.take_succ_eq_append_getElem hk
    clear hJ hFf CH HR
    generalize fs[k] = f at *
    rw [← hrec]
    dsimp only
    obtain ⟨vd2, vc2, rfl⟩ := HJ.out.own.slice
    gi_wp2
    have hlp := HJ.out.lp
    have hWk := (Array.getElem?_eq_some_iff.1 hlp).1
    have hbl := (Array.getElem?_eq_some_iff.1 HJ.out.bx).1
    refine ⟨(Below.heap_alloc Wk _ _ (by omega)).trans (by rw [← hXs, hrec]; exact hlp), ?_⟩
    generalize hV : World.putObj _ _ _ = W5
    have K5 : Keep (fun q => q = X.heap.size + 1) Wk W5 := by
      rw [← hV, ← hXs]
      exact ((Keep.refl (fun q => q = X.heap.size + 1) Wk).alloc _).putObj (fun _ => rfl) _
    have bx5 : W5.heap[W.heap.size + 1]? = some (.cells #[.slice vd2 Lv.length vc2] 33 (0, 0)) := (K5.block _ hbl (by omega)).trans HJ.out.bx
    have fr5 : W5.heap[Wk.heap.size]? = some (.cells (fdC f (.slice ad f.head.list.length cap) (.slice bad f.bl.length bcap)) 46 (0, 0)) := by
      rw [← hV]
      exact (World.putObj_heap_other (by omega)).trans (heap_alloc_new _ _)
    have l5 : W5.heap[X.heap.size + 1]? = some (.loop { rec with state := .busy }) := by
      rw [← hV, ← hXs, ← hrec]
      exact World.putObj_heap_same (by simp; omega)
    have S5 : Hid (W5.heap.size = Wk.heap.size + 1) := by
      show _ = _
      rw [← hV]
      simp
    have O5 : Hid (FOwn W5 B (.slice vd2 Lv.length vc2) Lv) := HJ.out.own.keep K5 (fun q hq => by omega)
    have I5 : Hid (FvOk W5 B (Value.slice vd2 Lv.length vc2).ownBlock ⟨f, .slice ad f.head.list.length cap, .slice bad f.bl.length bcap⟩) := by
      have hv := HJ.out.pv
      refine FvOk.keep (w := Wk) ⟨PA.out.ents, PA.out.txts, PA.out.ha.mono fun q hq => ⟨hq.1, hq.2.1, fun e => hq.2.2 (hv q e)⟩, PA.out.ba.mono fun q hq => ⟨hq.1, hq.2.1, fun e => hq.2.2 (hv q e)⟩⟩ K5 (fun q hq => by omega)
    have d5 : W5.heap[X.heap.size]? = some (.deferred (some [])) := (K5.block _ (by omega) (by omega)).trans HJ.out.df
    have zx : W5.cell? ⟨W.heap.size + 1, 0, none⟩ = some (.slice vd2 Lv.length vc2) := (cell_of_row _ _ _ _ _ _ bx5).trans rfl
    obtain ⟨x0, x1, x2, x3, x4, x5, x6, x7, x8, x9, x10, x11⟩ := cellsOf12 fr5
    obtain ⟨j0, hj0, hy0, hy1, hy2⟩ := info_parts Try.finfo
    have BX5 := rohid bx5
    have L5 := rohid l5
    have D5 := rohid d5
    clear hV bx5 fr5 l5 d5
    have HK2 : Hid (Lv.length = k) := by
      show _ = _
      have h9 := congrArg List.length HJ.out.come
      rw [List.length_map, List.length_take, Nat.min_eq_left (Nat.le_of_lt hk)] at h9
      exact h9
    have BA : Below W5.heap.size W5 (W5.alloc (.cells (fdC f (.slice ad f.head.list.length cap) (.slice bad f.bl.length bcap)) 46)) := (Below.refl _ _).alloc (Nat.le_refl _) _
    have OA := O5.out.on BA
    gi_wp2_with (gi_at_builtin; refine Hid.out ?_)
    refine rohid ?_
    refine wpListIn_append_own_at _ rfl _ _ 33 rfl B 46 j0 _ 12 128 Try.underlying33 hj0 hy0 hy1 hy2 rfl (by decide) (.slice vd2 Lv.length vc2) Lv.length (fcells Lv) rfl OA.1 ⟨W5.heap.size, 0, none⟩ 1 1 (fdC f (.slice ad f.head.list.length cap) (.slice bad f.bl.length bcap)).toList rfl rfl ?c1 ?c2 ?c3 ?c4 ?c5 ?_
    case c1 =>
      intro j u hj
      rw [ro_addr, cell_of_row _ _ _ _ _ _ (heap_alloc_new W5 _), Nat.zero_add, ← hj, Array.getElem?_toList]
    case c2 =>
      intro u hu
      simp only [List.mem_cons, List.not_mem_nil, or_false] at hu
      rcases hu with rfl | rfl | rfl | rfl | rfl | rfl | rfl | rfl | rfl | rfl | rfl | rfl <;> rfl
    case c3 => have := HK2.out; unfold maxLen; omega
    case c4 => have := HK2.out; omega
    case c5 => have := S5.out; simp; omega
    have s5 := S5.out
    intro v6 w6 hown hgrow _ hat
    have FO6 : Hid (FOwn w6 B v6 (Lv ++ [⟨f, .slice ad f.head.list.length cap, .slice bad f.bl.length bcap⟩])) := O5.out.more I5.out BA (by omega) hown hgrow hat
    obtain ⟨g6, cap6, rfl⟩ := ownsRow_succ hown
    have bx6 : w6.heap[W.heap.size + 1]? = some (.cells #[.slice vd2 Lv.length vc2] 33 (0, 0)) := by
      rw [hgrow.block _ (by simp; omega) (fun e => by have := (O5.out.lt _ e.symm).1; omega)]
      exact (BA.block _ (by omega)).trans BX5.out
    have K6 : Keep (fun q => q = X.heap.size + 1 ∨ q = W.heap.size + 1 ∨ (Value.slice vd2 Lv.length vc2).ownBlock = some q) Wk w6 :=
      ((K5.mono (fun q _ e => .inl e)).trans (keep_of_below BA _)).grownBy hgrow (fun q e _ => .inr (.inr e))
    have zx6 : w6.cell? ⟨W.heap.size + 1, 0, none⟩ = some (.slice vd2 Lv.length vc2) := (cell_of_row _ _ _ _ _ _ bx6).trans rfl
    have zf6 := frozen_of_row w6 (W.heap.size + 1) 0 _ _ bx6
    have BX6 := rohid bx6
    have K6h := rohid K6
    have l6 : w6.heap[X.heap.size + 1]? = some (.loop { rec with state := .busy }) := by
      rw [hgrow.block _ (by simp; omega) (fun e => by have := (O5.out.lt _ e.symm).1; omega)]
      exact (BA.block _ (by omega)).trans L5.out
    have d6 : w6.heap[X.heap.size]? = some (.deferred (some [])) := by
      rw [hgrow.block _ (by simp; omega) (fun e => by have := (O5.out.lt _ e.symm).1; omega)]
      exact (BA.block _ (by omega)).trans D5.out
    have hs6 : Wk.heap.size ≤ w6.heap.size := K6.size
    have L6 := rohid l6
    have D6 := rohid d6
    clear bx6 K6 hown l6 d6 hgrow hat
    gi_wp2
    generalize hU : World.setCell w6 _ _ = U
    have KU : Keep (fun q => q = W.heap.size + 1) w6 U := by
      rw [← hU]
      exact (Keep.refl (fun q => q = W.heap.size + 1) w6).setCell (p := ⟨W.heap.size + 1, 0, none⟩) (fun _ => rfl) _
    have bU : U.heap[W.heap.size + 1]? = some (.cells #[.slice (some ⟨g6, 0, none⟩) (Lv.length + 1) cap6] 33 (0, 0)) := by
      rw [← hU]
      exact heap_setCell_same w6 (W.heap.size + 1) 0 _ _ _ BX6.out
    have lU := (KU.block (X.heap.size + 1) (by omega) (by omega)).trans L6.out
    have dU := (KU.block X.heap.size (by omega) (by omega)).trans D6.out
    have FU := FO6.out.keep KU (fun q hq => by omega)
    have hUs : U.heap.size = w6.heap.size := by
      rw [← hU]
      simp
    have KWU : Keep (fun q => q = X.heap.size + 1 ∨ q = W.heap.size + 1 ∨ (Value.slice vd2 Lv.length vc2).ownBlock = some q) Wk U := K6h.out.trans (KU.mono fun q _ e => .inr (.inl e))
    clear hU KU
    have hlow := HJ.out.low
    refine ⟨by rw [← hrec] at lU; rw [← hXs]; exact lU, fun q => q < U.heap.size ∧ (P q ∨ B ≤ q), ?_, ?_, ?_⟩
    · rw [← hXs, hrec, ← hB]
      refine ⟨_, _, ?_, FU.keep ((Keep.refl (fun q => q = X.heap.size + 1) U).putObj (fun _ => rfl) _) (fun q hq => by omega), (World.putObj_heap_other (by omega)).trans bU, World.putObj_heap_same (by omega), (World.putObj_heap_other (by omega)).trans dU, ⟨by omega, .inl HJ.out.pb⟩, ⟨by omega, .inl HJ.out.pl⟩, ⟨by omega, .inl HJ.out.pd⟩, ?_, ?_, fun q hq => by rw [World.putObj_size]; exact hq.1⟩
      · rw [List.map_append, HJ.out.come, HTK.out]
        rfl
      · intro q hq
        obtain ⟨h1, h2⟩ := FU.lt q hq
        exact ⟨h2, .inr h1⟩
      · intro p hp
        have h1 := FU.2 p hp
        exact ⟨h1.ha.mono fun q hq => ⟨hq.2.1, .inr hq.1⟩, h1.ba.mono fun q hq => ⟨hq.2.1, .inr hq.1⟩⟩
    · rw [← hXs, hrec]
      have hv := HJ.out.pv
      have hpb := HJ.out.pb
      have hpl := HJ.out.pl
      refine Keep.putObj (KWU.mono fun q _ e => ?_) (fun _ => hpl) _
      rcases e with e | e | e
      · rw [e]; exact hpl
      · rw [e]; exact hpb
      · exact hv q e
    · rintro q ⟨h1, h2⟩
      rw [← hXs, ← hB]
      exact ⟨by omega, h2⟩
  · exact ⟨.slice none 0 0, [], rfl, FOwn.nil _ _, row_on BX.out hXX, hl1, hd0, .inl rfl, .inr (.inl rfl), .inr (.inr rfl), (fun q h => by simp [Value.ownBlock] at h), (fun _ h => by cases h), fun q hq => by omega⟩
  · rintro e W2 ⟨hv, ⟨P', v2, Lv, hF⟩, hrow, hbb⟩
    refine ⟨hv, hF.lp, ?_⟩
    have hll := (Array.getElem?_eq_some_iff.1 hF.lp).1
    clear hrec hl1 hd0 hXX CH HR
    generalize hZ : World.putObj W2 _ _ = Z
    have hZo : ∀ q, q ≠ X.heap.size + 1 → Z.heap[q]? = W2.heap[q]? := fun q hq => by rw [← hZ]; exact World.putObj_heap_other hq
    have ZD : Hid (Z.heap[X.heap.size]? = some (.deferred (some []))) := (hZo _ (by omega)).trans hF.df
    have ZX := (hZo (W.heap.size + 1) (by omega)).trans hF.bx
    have ZW := (hZo W.heap.size (by omega)).trans hrow
    have ZR := ((hZo (w.heap.size + 1 + 1) (by have := RS.out; omega)).trans (hbb.block _ (by have := RS.out; omega))).trans R2.out
    have KZ : Keep (fun q => q = X.heap.size + 1) W2 Z := by rw [← hZ]; exact (Keep.refl (fun q => q = X.heap.size + 1) W2).putObj (fun _ => rfl) _
    have hown := hF.own
    have hcome := hF.come
    have ZO : Hid (FOwn Z B v2 Lv) := hown.keep KZ (fun q hq => by omega)
    have hZb : Hid (Below w.heap.size w Z) := (RB.out.trans (hbb.mono RB.out.size)).trans (KZ.below (Nat.le_trans RB.out.size hbb.size) (fun q hq => by omega))
    have hZs : Z.heap.size = W2.heap.size := by rw [← hZ]; exact World.putObj_size
    obtain ⟨vd2, vc2, rfl⟩ := hown.slice
    have HC := rohid hcome
    clear hZ hZo hF hrow hbb KZ hown hcome
    have zx : Z.cell? ⟨W.heap.size + 1, 0, none⟩ = some (.slice vd2 Lv.length vc2) := (cell_of_row _ _ _ _ _ _ ZX).trans rfl
    obtain ⟨house', gen', num', life', clock', seg', pos', next', seq', m0', m1', m2', m3', sb', sn', fl'⟩ := L'
    have y6 : Z.cell? ⟨W.heap.size, 6, none⟩ = some (.int .i64 num') := (cell_of_row _ _ _ _ _ _ ZW).trans rfl
    have y7 : Z.cell? ⟨W.heap.size, 7, none⟩ = some (.int .i64 life') := (cell_of_row _ _ _ _ _ _ ZW).trans rfl
    have y8 : Z.cell? ⟨W.heap.size, 8, none⟩ = some (.int .i64 clock') := (cell_of_row _ _ _ _ _ _ ZW).trans rfl
    have y9 : Z.cell? ⟨W.heap.size, 9, none⟩ = some (.int .i64 seg') := (cell_of_row _ _ _ _ _ _ ZW).trans rfl
    have y10 : Z.cell? ⟨W.heap.size, 10, none⟩ = some (.int .i64 pos') := (cell_of_row _ _ _ _ _ _ ZW).trans rfl
    have y11 : Z.cell? ⟨W.heap.size, 11, none⟩ = some (.int .i64 next') := (cell_of_row _ _ _ _ _ _ ZW).trans rfl
    have y12 : Z.cell? ⟨W.heap.size, 12, none⟩ = some (.int .i64 seq') := (cell_of_row _ _ _ _ _ _ ZW).trans rfl
    have y13 : Z.cell? ⟨W.heap.size, 13, none⟩ = some (.int .i64 m0') := (cell_of_row _ _ _ _ _ _ ZW).trans rfl
    have y14 : Z.cell? ⟨W.heap.size, 14, none⟩ = some (.int .i64 m1') := (cell_of_row _ _ _ _ _ _ ZW).trans rfl
    have y15 : Z.cell? ⟨W.heap.size, 15, none⟩ = some (.int .i64 m2') := (cell_of_row _ _ _ _ _ _ ZW).trans rfl
    have y16 : Z.cell? ⟨W.heap.size, 16, none⟩ = some (.int .i64 m3') := (cell_of_row _ _ _ _ _ _ ZW).trans rfl
    have y17 : Z.cell? ⟨W.heap.size, 17, none⟩ = some (.int .i64 sb') := (cell_of_row _ _ _ _ _ _ ZW).trans rfl
    have y18 : Z.cell? ⟨W.heap.size, 18, none⟩ = some (.int .i64 sn') := (cell_of_row _ _ _ _ _ _ ZW).trans rfl
    obtain ⟨a0, a1, a2, a3, a4, a5, a6, a7, a8, a9, a10, a11, a12⟩ := cells13 ZR
    have f0 := frozen_of_row Z (w.heap.size + 1 + 1) 0 _ _ ZR
    have f1 := frozen_of_row Z (w.heap.size + 1 + 1) 1 _ _ ZR
    have f2 := frozen_of_row Z (w.heap.size + 1 + 1) 2 _ _ ZR
    have f3 := frozen_of_row Z (w.heap.size + 1 + 1) 3 _ _ ZR
    have f4 := frozen_of_row Z (w.heap.size + 1 + 1) 4 _ _ ZR
    have f5 := frozen_of_row Z (w.heap.size + 1 + 1) 5 _ _ ZR
    have f6 := frozen_of_row Z (w.heap.size + 1 + 1) 6 _ _ ZR
    have f7 := frozen_of_row Z (w.heap.size + 1 + 1) 7 _ _ ZR
    have f8 := frozen_of_row Z (w.heap.size + 1 + 1) 8 _ _ ZR
    have f9 := frozen_of_row Z (w.heap.size + 1 + 1) 9 _ _ ZR
    have f10 := frozen_of_row Z (w.heap.size + 1 + 1) 10 _ _ ZR
    have f11 := frozen_of_row Z (w.heap.size + 1 + 1) 11 _ _ ZR
    have f12 := frozen_of_row Z (w.heap.size + 1 + 1) 12 _ _ ZR
    have ZRR := rohid ZR
    have ZLT : w.heap.size + 1 + 1 < Z.heap.size := (Array.getElem?_eq_some_iff.1 ZR).1
    clear ZX ZW ZR
    go_wp2_with fail
    go_region
    go_wp2_with fail
    rw [set13_is]
    generalize hY0 : set13 Z _ _ _ _ _ _ _ _ _ _ _ _ _ _ = Y0
    have YR0 : Y0.heap[w.heap.size + 1 + 1]? = some (.cells #[.int .i64 num', .int .i64 life', .int .i64 clock', .int .i64 seg', .int .i64 pos', .int .i64 next', .int .i64 seq', .int .i64 m0', .int .i64 m1', .int .i64 m2', .int .i64 m3', .int .i64 sb', .int .i64 sn'] 29 (0, 0)) := by
      rw [← hY0]
      exact set13_row rfl ZRR.out _ _ _ _ _ _ _ _ _ _ _ _ _
    have YO0 : ∀ k, k ≠ w.heap.size + 1 + 1 → Y0.heap[k]? = Z.heap[k]? := fun k hk => by
      rw [← hY0]
      exact set13_other hk _ _ _ _ _ _ _ _ _ _ _ _ _
    have YS0 : Y0.heap.size = Z.heap.size := by
      rw [← hY0]
      exact set13_size _ _ _ _ _ _ _ _ _ _ _ _ _ _ _
    have YB0 : Below w.heap.size w Y0 := by
      rw [← hY0]
      exact set13_below hZb.out (by omega) _ _ _ _ _ _ _ _ _ _ _ _ _
    have YK0 : Keep (fun q => q = w.heap.size + 1 + 1) Z Y0 := by
      rw [← hY0]
      exact set13_keep _ _ _ _ _ _ _ _ _ _ _ _ _ _ _
    clear hY0
    have YR : Y0.drew.heap[w.heap.size + 1 + 1]? = _ := YR0
    have YO : ∀ k, k ≠ w.heap.size + 1 + 1 → Y0.drew.heap[k]? = Z.heap[k]? := YO0
    have YB := ro_drew YB0
    have YK := YK0.drew
    clear YR0 YO0 YB0 YK0
    generalize hY : World.drew Y0 = Y at *
    clear hY
    have hsx := RS.out
    have YD : Y.heap[W.heap.size + 2]? = some (.deferred (some [])) := by
      rw [← hXs, YO _ (by omega)]
      exact ZD.out
    refine ⟨by simp, .inl ⟨_, _, rfl, run_takeDeferred YD, ?_⟩⟩
    have Y2R := (World.putObj_heap_other (w := Y) (r := W.heap.size + 2) (o := .deferred none) (k := w.heap.size + 1 + 1) (by omega)).trans YR
    refine ⟨_, results_tc_row Try.results13 _ _ (w.heap.size + 1 + 1) 29 _ (0, 0) _ rfl Y2R Try.underlying29 rfl Try.slotSize, ?_⟩
    refine ⟨.slice vd2 Lv.length vc2, rfl, Lv, ?_, ?_, ?_⟩
    · refine FOwn.low (base := B) ?_ (by omega)
      refine FOwn.keep (F := fun q => q = W.heap.size + 2) (ZO.out.keep YK (fun q hq => by omega)) ((Keep.refl (fun q => q = W.heap.size + 2) _).putObj (fun _ => rfl) _) (fun q hq => by omega)
    · rw [HC.out, List.take_of_length_le (Nat.le_refl _)]
    · exact YB.trans (Keep.below (F := fun q => q = W.heap.size + 2) ((Keep.refl (fun q => q = W.heap.size + 2) _).putObj (fun _ => rfl) _) YB.size (fun q hq => by omega))
/-- What is found behind a place, and the place behind it. -/
theorem forward_t (b gd n : Nat) (D : St) (V : Nat → Value) (L L' : Lg) (v : Value) (segs : List Int) (fs : List Fnd) (w : World)
    (hI : Ints w v segs) (hl : segs.length ≤ 100000) (hD : Disk w b D gd V) (hn : D.n = 48 + 32 * n) (hn2 : 8 ≤ n) (hn3 : n ≤ 100) (hup : D.down = false) (hR : Rolls D.read n segs L fs L') (hf : fs.length ≤ 1000) :
    Calls Try.prog 13 #[.pointer (some ⟨b, 0, none⟩), geomV (48 + 32 * (n : Int)) 32, .int .i64 L.house, .int .i64 L.gen, v, plV L] w fun e w' => ∃ ad cap Lv, e = .returned (.tuple #[.slice ad fs.length cap, plV L']) ∧ FOwn w' w.heap.size (.slice ad fs.length cap) Lv ∧ Lv.map (·.f) = fs ∧ Below w.heap.size w w' :=
  (callsIn_wide.1 (forward_in b gd n D V L L' v segs fs w hI hl hD hn hn2 hn3 hup hR hf)).mono fun e w' ⟨v', Lv, he, hO, hm, hb⟩ => by
    obtain ⟨ad, cap, rfl⟩ := hO.slice
    have e1 : Lv.length = fs.length := by rw [← hm, List.length_map]
    rw [e1] at he hO
    exact ⟨ad, cap, Lv, he, hO, hm, hb⟩
end Go.Proofs.Ytaiebhkjkeadoaa
