/- Forward walked: what a log has behind a place. -/
import Derived.Test.YtaiebhkjkeadoaaRollIter
import Derived.Test.YtaiebhkjkeadoaaLogNew
import Derived.Great.BuildSlice
import Derived.Great.Walk
import Derived.Maps.OwnIn
namespace Go.Proofs.Ytaiebhkjkeadoaa
open Go.RowKit Go.Shelf Go.Great Lo Hdp Rol Chk Rec
attribute [local go_sem] Oper.semAt_some

theorem Away.and {P Q : Nat → Prop} {v : Value} (h : Away P v) (k : Away Q v) : Away (fun q => P q ∧ Q q) v := fun b off n c e hn => ⟨h b off n c e hn, k b off n c e hn⟩
/-- What turns other blocks alone lets it be. -/
theorem FOwn.keepP {w w' : World} {base : Nat} {v : Value} {L : List Fv} {F P : Nat → Prop} (h : FOwn w base v L) (k : Keep F w w') (hF : ∀ q, F q → ¬ P q) (hv : ∀ q, v.ownBlock = some q → P q) (hL : ∀ p ∈ L, Away P p.hv ∧ Away P p.bv) : FOwn w' base v L :=
  ⟨owns_of_block h.1 fun g hg => k.block g (h.lt g hg).2 (fun hf => hF g hf (hv g hg)), fun p hp => by
    have hp2 := h.2 p hp
    obtain ⟨h1, h2⟩ := hL p hp
    exact ⟨hp2.ents.away h1 k.size fun q hq hl => k.block q hl (fun hf => hF q hf hq), hp2.txts.away h2 k.size fun q hq hl => k.block q hl (fun hf => hF q hf hq),
      hp2.ha.mono fun q hq => ⟨hq.1, Nat.lt_of_lt_of_le hq.2.1 k.size, hq.2.2⟩, hp2.ba.mono fun q hq => ⟨hq.1, Nat.lt_of_lt_of_le hq.2.1 k.size, hq.2.2⟩⟩⟩
theorem FOwn.low {w : World} {base base' : Nat} {v : Value} {L : List Fv} (h : FOwn w base v L) (hb : base' ≤ base) : FOwn w base' v L := by
  refine ⟨⟨h.1.1, ?_⟩, fun p hp => ⟨(h.2 p hp).ents, (h.2 p hp).txts, (h.2 p hp).ha.mono fun q hq => ⟨by omega, hq.2⟩, (h.2 p hp).ba.mono fun q hq => ⟨by omega, hq.2⟩⟩⟩
  rcases h.1.2 with h2 | ⟨g, cap, cur, rfl, hg, r⟩
  · exact .inl h2
  · exact .inr ⟨g, cap, cur, rfl, by omega, r⟩

/-- Between two rounds: what has come lies in a row of the loop's own; the loop's record, the block for deferred calls. -/
structure FwAt (fs : List Fnd) (B box l dd : Nat) (rec : Loop) (k : Nat) (W : World) (P : Nat → Prop) (v : Value) (Lv : List Fv) : Prop where
  come : Lv.map (·.f) = fs.take k
  own : FOwn W B v Lv
  bx : W.heap[box]? = some (.cells #[v] 33 (0, 0))
  lp : W.heap[l]? = some (.loop rec)
  df : W.heap[dd]? = some (.deferred (some []))
  pb : P box
  pl : P l
  pd : P dd
  pv : ∀ q, v.ownBlock = some q → P q
  pa : ∀ p ∈ Lv, Away P p.hv ∧ Away P p.bv
  low : ∀ q, P q → q < W.heap.size
def FwJ (fs : List Fnd) (B box l dd : Nat) (rec : Loop) (k : Nat) (W : World) (P : Nat → Prop) : Prop := ∃ v Lv, FwAt fs B box l dd rec k W P v Lv
theorem FwAt.keep {fs : List Fnd} {B box l dd : Nat} {rec : Loop} {k : Nat} {W W' : World} {P F : Nat → Prop} {v : Value} {Lv : List Fv} (h : FwAt fs B box l dd rec k W P v Lv) (hk : Keep F W W') (hF : ∀ q, F q → ¬ P q) : FwAt fs B box l dd rec k W' P v Lv := by
  have hb : ∀ {q : Nat} {o : Obj}, P q → W.heap[q]? = some o → W'.heap[q]? = some o := fun hp ho => (hk.block _ (Array.getElem?_eq_some_iff.1 ho).1 (fun hf => hF _ hf hp)).trans ho
  exact ⟨h.come, h.own.keepP hk hF h.pv h.pa, hb h.pb h.bx, hb h.pl h.lp, hb h.pd h.df, h.pb, h.pl, h.pd, h.pv, h.pa, fun q hq => Nat.lt_of_lt_of_le (h.low q hq) hk.size⟩

theorem Try.walkSize : (Try.prog.info? 67).map (·.size) = some 19 := by kernel_rfl
theorem wkC_one (b : Nat) (S G : Int) (L : Lg) (ad : Option Addr) (n cap : Nat) : (wkC b S G L (.slice ad n cap)).all (·.oneCell') = true := by simp [wkC, Value.oneCell']

/-- A range over a method value, outermost: the two blocks, the call, what lies behind. -/
theorem range_method {P : Program} {n : Nat} (h1 : 1 ≤ n) {g : Operand} {ps : Array Tmp} {assign body : Code} {Q : Exit → Act → World → Prop} {a : Act} {w : World} {gf : Nat} {c : Value} (hg : a.eval g = .func (.func gf) #[c] #[]) (eg : ∀ args w, (callFunc gf args).run P w = .ok (.enter gf args) w)
    (h : ∀ fn, CallsIn Fence.wide (n - 1) P gf #[c, .func (.yield (w.heap.size + 1)) #[] #[]] ((w.alloc (.deferred (some []))).alloc (.loop { state := .ready, pending := none, fn, tmps := a.tmps, params := ps, assign, body, defers := w.heap.size }))
      fun e W2 => (∃ v, e = .returned v) ∧ W2.heap[w.heap.size + 1]? = some (.loop { state := .ready, pending := none, fn, tmps := a.tmps, params := ps, assign, body, defers := w.heap.size }) ∧
        Q .normal { a with defers := { target := .collected w.heap.size, args := #[] } :: a.defers } (W2.putObj (w.heap.size + 1) (.loop { state := .exhausted, pending := none, fn, tmps := a.tmps, params := ps, assign, body, defers := w.heap.size }))) :
    (Code.rangeFunc g ps assign body).wpIn Fence.wide n P Q a w := by
  refine wpIn_rangeFunc ?_
  intro fn _
  have hfn := h fn
  obtain ⟨W1, hW1⟩ : ∃ W1, (w.alloc (.deferred (some []))).alloc (.loop { state := .ready, pending := none, fn, tmps := a.tmps, params := ps, assign, body, defers := w.heap.size }) = W1 := ⟨_, rfl⟩
  rw [hW1] at hfn
  refine ⟨w.heap.size + 1, [{ target := .collected w.heap.size, args := #[] }], W1, { target := .fn (.func gf) #[], args := #[c, .func (.yield (w.heap.size + 1)) #[] #[]] }, W1, gf,
    #[c, .func (.yield (w.heap.size + 1)) #[] #[]], W1, ?_, ?_, fun _ _ => trivial, ?_, fun _ => h1, ?_⟩
  · rw [← hW1]
    exact run_enterLoop_outer _ _ _ _ _
  · simp only [resolve, hg]
    simp [go_sem]
  · simp [invoke, go_sem, eg]
  · refine hfn.mono ?_
    rintro e W2 ⟨⟨v, rfl⟩, hl, hq⟩
    exact ⟨none, _, run_endLoop (P := P) hl (by simp), hq⟩

/-- One round. -/
theorem yield_round {P : Program} {m l : Nat} {W : World} {rec : Loop} {args : Array Value} {R : Ending → World → Prop} (hl : W.heap[l]? = some (.loop rec)) (hr : rec.state = .ready) (hp : rec.pending = none) (hs : args.size = rec.params.size)
    (h : rec.assign.wpIn (Fence.wide.inRound l) m P (Exit.then (fun a1 w1 => w1.heap[l]? = some (.loop rec) ∧ rec.body.wpIn (Fence.wide.inRound l) m P (fun e _ w3 => e = .normal ∧ w3.heap[l]? = some (.loop { rec with state := .busy }) ∧ R (.returned (.bool true)) (w3.putObj l (.loop rec))) a1 (w1.putObj l (.loop { rec with state := .busy }))) (fun _ _ _ => False))
      { tmps := (rec.params.zip args).foldl (fun t (p, v) => t.setIfInBounds p v) rec.tmps, defers := [] } W) :
    YieldAt Fence.wide m P l args W R := by
  refine ⟨_, _, _, _, run_yield (P := P) hl hs, roundIn_of_wpIn trivial (wpIn_mono h ?_)⟩
  intro e a1 w1 hq
  cases e with
  | normal =>
    obtain ⟨h1, h2⟩ := hq
    refine ⟨_, run_beginRound h1 hr, wpIn_mono h2 ?_⟩
    rintro e a3 w3 ⟨rfl, h3, h4⟩
    refine ⟨_, _, run_endRound (P := P) none h3, ?_⟩
    have e1 : ({ { rec with state := LoopState.busy } with state := if (none : Option Code).isNone then LoopState.ready else LoopState.done, pending := none } : Loop) = rec := by
      cases rec
      simp at hr hp
      subst hr hp
      rfl
    rw [e1]
    exact h4
  | ret => exact hq.elim
  | exit id => exact hq.elim
  | goto t => exact hq.elim
  | panic c => exact hq.elim
  | outgrown => exact hq.elim
end Go.Proofs.Ytaiebhkjkeadoaa
