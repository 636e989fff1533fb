/- The iterator of a log's chunks: chunks walked, whatever the loop's body. -/
import Derived.RangeFuncNested
import Derived.RangeFuncBound
import Derived.RangeFuncCalls
import Derived.RangeFuncLeaves
import Derived.Shelf.Abstract
import Derived.Shelf.RegionOpen
import Derived.WalkKit
import Derived.OwnWalkIn
import Derived.TacticsInMore
import Derived.LoopNIn
import Derived.LoopIn
import Derived.Test.YtaiebhkjkeadoaaRollRow
import Derived.Test.YtaiebhkjkeadoaaRollPass
namespace Go.Proofs.Ytaiebhkjkeadoaa
open Go.RowKit Go.Shelf Lo Hdp Rol Chk Rec
attribute [local go_sem] Oper.semAt_some

/-- The number of the place, read off the world. -/
def seqAt (w : World) (wb : Nat) : Int := match w.cell? ⟨wb, 12, none⟩ with | some (.int _ x) => x | _ => 0
theorem seqAt_row {w : World} {wb b : Nat} {S G : Int} {L : Lg} {v : Value} {t : TypeId} (h : w.heap[wb]? = some (.cells (wkC b S G L v) t (0, 0))) : seqAt w wb = L.seq := by
  unfold seqAt
  rw [cell_of_row _ _ _ _ _ _ h]
  rfl

/-- The places of a walk. -/
def placeAt (L : Lg) : List Fnd → Lg
  | [] => L
  | f :: fs => placeAt (past L f) fs
theorem Rolls.last {rd : Nat → ByteArray} {n : Nat} {segs : List Int} {L L' : Lg} {fs : List Fnd} (h : Rolls rd n segs L fs L') : placeAt L fs = L' := by
  induction h with
  | done _ => rfl
  | more _ _ ih => exact ih
/-- What there is of a walk at a round's beginning: the walk's place, the chunks that come; P: the body's own blocks. -/
structure ItAt (rd : Nat → ByteArray) (n : Nat) (segs : List Int) (wb b : Nat) (v : Value) (t : TypeId) (J : Nat → World → (Nat → Prop) → Prop) (fs : List Fnd) (L' : Lg) (s0 : Int) (w0 : World) (k : Nat) (M : Lg) (P : Nat → Prop) (wr : World) : Prop where
  le : k ≤ fs.length
  row : wr.heap[wb]? = some (.cells (wkC b (48 + 32 * (n : Int)) 32 M v) t (0, 0))
  rolls : Rolls rd n segs M (fs.drop k) L'
  seq : M.seq = s0 + k
  inv : J k wr P
  own : ∀ q, P q → w0.heap.size ≤ q ∧ q ≠ wb ∧ q < wr.heap.size
  below : Below w0.heap.size w0 wr

section
variable {rd : Nat → ByteArray} {n : Nat} {segs : List Int} {wb b : Nat} {v : Value} {t : TypeId} {J : Nat → World → (Nat → Prop) → Prop} {fs : List Fnd} {L' : Lg} {s0 : Int} {w0 : World} {k : Nat} {M : Lg} {P : Nat → Prop} {wr : World}
theorem ItAt.nxt_some (h : ItAt rd n segs wb b v t J fs L' s0 w0 k M P wr) (hk : k < fs.length) : nxt rd n segs M = some fs[k] ∧ Rolls rd n segs (past M fs[k]) (fs.drop (k + 1)) L' := by
  have hr := h.rolls
  rw [List.drop_eq_getElem_cons hk] at hr
  cases hr with
  | more h1 h2 => exact ⟨h1, h2⟩
theorem ItAt.nxt_none (h : ItAt rd n segs wb b v t J fs L' s0 w0 k M P wr) (hk : k = fs.length) : nxt rd n segs M = none ∧ M = L' := by
  have hr := h.rolls
  rw [List.drop_eq_nil_of_le (by omega)] at hr
  cases hr with
  | done h1 => exact ⟨h1, rfl⟩
/-- New blocks. -/
theorem ItAt.on {w' : World} (h : ItAt rd n segs wb b v t J fs L' s0 w0 k M P wr) (hJ : ∀ k W W' P F, J k W P → Keep F W W' → (∀ q, F q → ¬ P q) → J k W' P) (hb : Below wr.heap.size wr w') : ItAt rd n segs wb b v t J fs L' s0 w0 k M P w' :=
  ⟨h.le, row_on h.row hb, h.rolls, h.seq, hJ _ _ _ _ (fun _ => False) h.inv (keep_of_below hb _) (fun _ hf => hf.elim), fun q hq => ⟨(h.own q hq).1, (h.own q hq).2.1, Nat.lt_of_lt_of_le (h.own q hq).2.2 hb.size⟩, h.below.trans (hb.mono h.below.size)⟩
end

/-- A chunk's numbers that is found. -/
theorem nxt_nums {rd : Nat → ByteArray} {n : Nat} {segs : List Int} {M : Lg} {f : Fnd} (h : nxt rd n segs M = some f) : 0 ≤ f.pos ∧ f.pos < 32 ∧ f.bl.length ≤ 24 ∧ 1 ≤ M.seq ∧ M.seq ≤ 1099511627776 := by
  have key : ∀ seg pos, atB rd n segs M seg pos = true → f = fnd rd n segs seg pos → 0 ≤ f.pos ∧ f.pos < 32 ∧ f.bl.length ≤ 24 ∧ 1 ≤ M.seq ∧ M.seq ≤ 1099511627776 := by
    intro seg pos ha hf
    obtain ⟨h1, h2, -⟩ := atB_in ha
    subst hf
    unfold atB at ha
    rw [Bool.and_eq_true] at ha
    obtain ⟨hp, hfol⟩ := ha
    have hok : okB (parX (atT rd n segs seg pos)) = true := by
      have hp2 := hp
      unfold parB getB at hp2
      rw [Bool.and_eq_true, Bool.and_eq_true, Bool.and_eq_true] at hp2
      rw [parX_yes hp]
      exact hp2.1.2.1
    have hnum := okB_num hok
    simp only [numB, Bool.and_eq_true, inB_iff] at hnum
    simp only [folB, Bool.and_eq_true, decide_eq_true_eq] at hfol
    have hl : (parL (atT rd n segs seg pos)).length ≤ 24 := by
      rw [parL_yes hp, cutL_length]
      exact getX_len _
    refine ⟨h1, h2, hl, ?_, ?_⟩ <;> omega
  unfold nxt at h
  split at h
  · next h0 => exact key _ _ h0 (Option.some.inj h).symm
  · split at h
    · next h0 => exact key _ _ h0 (Option.some.inj h).symm
    · cases h

/-- The chunk that is handed over next lies in a block of its own. -/
structure PendAt (f : Fnd) (B : Nat) (P : Nat → Prop) (g : Nat) (ad : Option Addr) (cap : Nat) (bad : Option Addr) (bcap : Nat) (wr : World) : Prop where
  row : wr.heap[g]? = some (.cells (fdC f (.slice ad f.head.list.length cap) (.slice bad f.bl.length bcap)) 46 (0, 0))
  off : ¬ P g
  ents : Ents wr (.slice ad f.head.list.length cap) f.head.list
  txts : Txts wr (.slice bad f.bl.length bcap) f.bl
  ha : Away (fun q => B ≤ q ∧ q < wr.heap.size ∧ ¬ P q) (.slice ad f.head.list.length cap)
  ba : Away (fun q => B ≤ q ∧ q < wr.heap.size ∧ ¬ P q) (.slice bad f.bl.length bcap)
def Pend (fs : List Fnd) (B : Nat) (P : Nat → Prop) (k : Nat) (p : Value) (wr : World) : Prop :=
  ∀ hk : k < fs.length, ∃ g ad cap bad bcap, p = .pointer (some ⟨g, 0, none⟩) ∧ PendAt fs[k] B P g ad cap bad bcap wr

theorem TOwn.away {w : World} {base : Nat} {v : Value} {l : List ByteArray} (h : TOwn w base v l) : Away (fun q => base ≤ q ∧ q < w.heap.size) v := by
  rintro b off n c rfl -
  rcases h.2 with ⟨h1, _⟩ | ⟨g, cap, cur, hv, hg, hh, -⟩
  · cases h1
  · injection hv with h1 h2 h3
    injection h1 with h1
    injection h1 with h1 h2
    subst h1
    exact ⟨hg, (Array.getElem?_eq_some_iff.1 hh).1⟩
theorem Ents.away_lt {w : World} {m n cap : Nat} {ad : Option Addr} {l : List En} (h : Ents w (.slice ad n cap) l) (hf : VFar m (.slice ad n cap)) : Away (fun q => m ≤ q ∧ q < w.heap.size) (.slice ad n cap) := by
  intro b off n2 c e hn
  refine ⟨hf b off n2 c e, ?_⟩
  obtain ⟨ad2, cap2, hv, -, hc⟩ := h
  injection e with e1 e2 e3
  injection hv with h1 h2 h3
  obtain ⟨b2, off2, ha, hb, -⟩ := hc (by omega)
  rw [← h1, e1] at ha
  injection ha with ha
  injection ha with ha
  omega
/-- What a call of next hands over, found or not. -/
theorem next_got {rd : Nat → ByteArray} {n : Nat} {segs : List Int} {wb b : Nat} {v : Value} {t : TypeId} {J : Nat → World → (Nat → Prop) → Prop} {fs : List Fnd} {L' : Lg} {s0 : Int} {w0 : World} {k : Nat} {M : Lg} {P : Nat → Prop} {W w1 : World} {B : Nat} {e : Ending} (h : ItAt rd n segs wb b v t J fs L' s0 w0 k M P W) (_hB : B ≤ W.heap.size) (hx : (∀ f, nxt rd n segs M = some f → NextYes W w1 f e) ∧ (nxt rd n segs M = none → NextNo W w1 e)) :
    ∃ f ad cap bad bcap, e = .returned (.tuple #[.agg (fdC f (.slice ad f.head.list.length cap) (.slice bad f.bl.length bcap)), .bool (decide (k < fs.length))]) ∧
      Hid (∀ hk : k < fs.length, f = fs[k] ∧ Ents w1 (.slice ad f.head.list.length cap) f.head.list ∧ Txts w1 (.slice bad f.bl.length bcap) f.bl ∧ Away (fun q => W.heap.size ≤ q ∧ q < w1.heap.size) (.slice ad f.head.list.length cap) ∧ Away (fun q => W.heap.size ≤ q ∧ q < w1.heap.size) (.slice bad f.bl.length bcap)) ∧ Below W.heap.size W w1 := by
  by_cases hk : k < fs.length
  · obtain ⟨ad, cap, bad, bcap, he, hE, hF, hO, hb⟩ := hx.1 _ (h.nxt_some hk).1
    rw [decide_eq_true hk]
    exact ⟨fs[k], ad, cap, bad, bcap, he, fun _ => ⟨rfl, hE, hO.txts, hE.away_lt hF, hO.away⟩, hb⟩
  · obtain ⟨he, hb⟩ := hx.2 (h.nxt_none (by have := h.le; omega)).1
    rw [decide_eq_false hk]
    exact ⟨fdZ, none, 0, none, 0, he, fun h2 => absurd h2 hk, hb⟩

/-- What next handed over lies in a new block. -/
theorem pend_new {fs : List Fnd} {B k : Nat} {P : Nat → Prop} {W w1 : World} {f : Fnd} {ad bad : Option Addr} {cap bcap : Nat} (hB : B ≤ W.heap.size) (hown : ∀ q, P q → q < W.heap.size) (hs : W.heap.size ≤ w1.heap.size)
    (h : ∀ hk : k < fs.length, f = fs[k] ∧ Ents w1 (.slice ad f.head.list.length cap) f.head.list ∧ Txts w1 (.slice bad f.bl.length bcap) f.bl ∧ Away (fun q => W.heap.size ≤ q ∧ q < w1.heap.size) (.slice ad f.head.list.length cap) ∧ Away (fun q => W.heap.size ≤ q ∧ q < w1.heap.size) (.slice bad f.bl.length bcap)) :
    Pend fs B P k (.pointer (some ⟨w1.heap.size, 0, none⟩)) (w1.alloc (.cells (fdC f (.slice ad f.head.list.length cap) (.slice bad f.bl.length bcap)) 46)) := by
  intro hk
  obtain ⟨rfl, hE, hT, hA, hA2⟩ := h hk
  have hb := (Below.refl w1.heap.size w1).alloc (Nat.le_refl _) (.cells (fdC fs[k] (.slice ad fs[k].head.list.length cap) (.slice bad fs[k].bl.length bcap)) 46)
  have hm : ∀ q, (W.heap.size ≤ q ∧ q < w1.heap.size) → (B ≤ q ∧ q < (w1.alloc (.cells (fdC fs[k] (.slice ad fs[k].head.list.length cap) (.slice bad fs[k].bl.length bcap)) 46)).heap.size ∧ ¬ P q) := fun q hq => ⟨by omega, Nat.lt_of_lt_of_le hq.2 hb.size, fun hp => by have := hown q hp; omega⟩
  exact ⟨w1.heap.size, ad, cap, bad, bcap, rfl, heap_alloc_new _ _, fun hp => by have := hown _ hp; omega, hE.on hb, hT.on hb, hA.mono hm, hA2.mono hm⟩
/-- What next handed over is laid into a block that was there. -/
theorem pend_set {fs : List Fnd} {B k g : Nat} {P : Nat → Prop} {W w1 : World} {f : Fnd} {ad bad : Option Addr} {cap bcap : Nat} {C : Array Value} (hC : C.size = 12) (hg : w1.heap[g]? = some (.cells C 46 (0, 0))) (hgW : g < W.heap.size) (hgP : ¬ P g) (hB : B ≤ W.heap.size) (hown : ∀ q, P q → q < W.heap.size)
    (h : ∀ hk : k < fs.length, f = fs[k] ∧ Ents w1 (.slice ad f.head.list.length cap) f.head.list ∧ Txts w1 (.slice bad f.bl.length bcap) f.bl ∧ Away (fun q => W.heap.size ≤ q ∧ q < w1.heap.size) (.slice ad f.head.list.length cap) ∧ Away (fun q => W.heap.size ≤ q ∧ q < w1.heap.size) (.slice bad f.bl.length bcap)) :
    Pend fs B P k (.pointer (some ⟨g, 0, none⟩)) (set12 w1 g (.int .i64 f.seg) (.int .i64 f.pos) (.int .i64 f.head.house) (.int .i64 f.head.gen) (.int .i64 f.head.life) (.int .i64 f.head.seq) (.int .i64 f.head.next) (.int .i64 f.head.clock) (.int .i64 f.head.sb) (.int .i64 f.head.sn) (.slice ad f.head.list.length cap) (.slice bad f.bl.length bcap)) := by
  intro hk
  obtain ⟨rfl, hE, hT, hA, hA2⟩ := h hk
  have hz := set12_size w1 g (.int .i64 fs[k].seg) (.int .i64 fs[k].pos) (.int .i64 fs[k].head.house) (.int .i64 fs[k].head.gen) (.int .i64 fs[k].head.life) (.int .i64 fs[k].head.seq) (.int .i64 fs[k].head.next) (.int .i64 fs[k].head.clock) (.int .i64 fs[k].head.sb) (.int .i64 fs[k].head.sn) (.slice ad fs[k].head.list.length cap) (.slice bad fs[k].bl.length bcap)
  have hm : ∀ q, (W.heap.size ≤ q ∧ q < w1.heap.size) → (B ≤ q ∧ q < w1.heap.size ∧ ¬ P q) := fun q hq => ⟨by omega, hq.2, fun hp => by have := hown q hp; omega⟩
  refine ⟨g, ad, cap, bad, bcap, rfl, set12_row hC hg _ _ _ _ _ _ _ _ _ _ _ _, hgP, hE.away hA (Nat.le_of_eq hz.symm) fun q hq _ => set12_other (by omega) _ _ _ _ _ _ _ _ _ _ _ _, hT.away hA2 (Nat.le_of_eq hz.symm) fun q hq _ => set12_other (by omega) _ _ _ _ _ _ _ _ _ _ _ _, ?_, ?_⟩
  · rw [hz]
    exact hA.mono hm
  · rw [hz]
    exact hA2.mono hm
theorem PendAt.keep {f : Fnd} {B : Nat} {P F : Nat → Prop} {g : Nat} {ad bad : Option Addr} {cap bcap : Nat} {w w' : World} (h : PendAt f B P g ad cap bad bcap w) (k : Keep F w w') (hg : ¬ F g) (hF : ∀ q, F q → q < B ∨ P q) : PendAt f B P g ad cap bad bcap w' := by
  have hk : ∀ q, (B ≤ q ∧ q < w.heap.size ∧ ¬ P q) → q < w.heap.size → w'.heap[q]? = w.heap[q]? := fun q hq hl => k.block q hl (fun hf => by
    rcases hF q hf with e | e
    · omega
    · exact hq.2.2 e)
  exact ⟨(k.block g (Array.getElem?_eq_some_iff.1 h.row).1 hg).trans h.row, h.off, h.ents.away h.ha k.size hk, h.txts.away h.ba k.size hk,
    h.ha.mono fun q hq => ⟨hq.1, Nat.lt_of_lt_of_le hq.2.1 k.size, hq.2.2⟩, h.ba.mono fun q hq => ⟨hq.1, Nat.lt_of_lt_of_le hq.2.1 k.size, hq.2.2⟩⟩

set_option maxRecDepth 100000 in
set_option maxHeartbeats 4000000 in
/-- The iterator: all chunks that come, one by one, in their order. -/
theorem rchunks_in (m l wb b gd n : Nat) (_hm : 2 ≤ m) (D : St) (V : Nat → Value) (L L' : Lg) (v : Value) (segs : List Int) (fs : List Fnd) (t : TypeId) (ht : t ≠ 46) (w0 : World) (B : Nat) (J : Nat → World → (Nat → Prop) → Prop)
    (hI : Ints w0 v segs) (hl : segs.length ≤ 100000) (hD : Disk w0 b D gd V) (hn : D.n = 48 + 32 * n) (hn2 : 8 ≤ n) (hn3 : n ≤ 100) (hup : D.down = false) (hwb : w0.heap.size ≤ wb) (hwB : wb < B)
    (hJ : ∀ k W W' P F, J k W P → Keep F W W' → (∀ q, F q → ¬ P q) → J k W' P)
    (hY : ∀ (k : Nat) (hk : k < fs.length) (W : World) (P : Nat → Prop) (g : Nat) (ad bad : Option Addr) (cap bcap : Nat), J k W P → PendAt fs[k] B P g ad cap bad bcap W → k < 1000 →
      YieldAt Fence.wide (m - 1) Try.prog l #[.agg (fdC fs[k] (.slice ad fs[k].head.list.length cap) (.slice bad fs[k].bl.length bcap))] W fun e W' => e = .returned (.bool true) ∧ ∃ P', J (k + 1) W' P' ∧ Keep P W W' ∧ ∀ q, P' q → q < W'.heap.size ∧ (P q ∨ B ≤ q))
    (W : World) (P : Nat → Prop) (hP : ∀ q, P q → w0.heap.size ≤ q ∧ q ≠ wb ∧ q < W.heap.size) (hW : W.heap[wb]? = some (.cells (wkC b (48 + 32 * (n : Int)) 32 L v) t (0, 0))) (hb : Below w0.heap.size w0 W) (hBW : B ≤ W.heap.size) (h0 : J 0 W P) (hR : Rolls D.read n segs L fs L') (hf : fs.length ≤ 1000) :
    CallsIn Fence.wide m Try.prog 22 #[.pointer (some ⟨wb, 0, none⟩), .func (.yield l) #[] #[]] W fun e W' => (∃ v, e = .returned v) ∧ (∃ P', J fs.length W' P') ∧ W'.heap[wb]? = some (.cells (wkC b (48 + 32 * (n : Int)) 32 L' v) t (0, 0)) ∧ Below w0.heap.size w0 W' := by
  have NX := rohid (fun (w1 : World) (M : Lg) (h1 : w1.heap[wb]? = some (.cells (wkC b (48 + 32 * (n : Int)) 32 M v) t (0, 0))) (h2 : Below w0.heap.size w0 w1) => rnext_t wb b gd n D V M v segs t w1 h1 (hI.on h2) hl (hD.below h2) hn hn2 hn3 hup)
  have HI0 : Hid (ItAt D.read n segs wb b v t J fs L' L.seq w0 0 L P W) := ⟨Nat.zero_le _, hW, by rw [List.drop_zero]; exact hR, by simp, h0, hP, hb⟩
  have HY := rohid hY
  have HJ := rohid hJ
  clear hW hb hR h0 hP hY hJ hI hD hn hup
  have hr1 : Fence.wide.round = none := rfl
  have hd1 : Fence.wide.depth = none := rfl
  refine callsIn_of_wp Try.func22 rfl trivial ?_ rfl
  simp only [Try.ntmps22, List.size_toArray, List.length_cons, List.length_nil, Nat.reduceAdd, Nat.reduceSub, Array.replicate_succ, Array.replicate_zero, List.push_toArray, List.append_toArray, List.nil_append, List.cons_append]
  gi_wp2
  refine ⟨trivial, (callsIn_wide.2 (NX.out W L HI0.out.row HI0.out.below)).mono ?_⟩
  rintro e w1 hnx
  obtain ⟨f1, ad1, cap1, bad1, bcap1, rfl, HQ1, HB1⟩ := next_got HI0.out hBW hnx
  have hown0 := HI0.out.own
  have PZ0 := rohid (pend_new (B := B) (P := P) hBW (fun q hq => (hown0 q hq).2.2) HB1.size HQ1.out)
  have IZ0 := rohid (HI0.out.on HJ.out (HB1.trans ((Below.refl w1.heap.size w1).alloc (Nat.le_refl _) (.cells (fdC f1 (.slice ad1 f1.head.list.length cap1) (.slice bad1 f1.bl.length bcap1)) 46) |>.mono HB1.size)))
  have hwB1 : B ≤ (w1.alloc (.cells (fdC f1 (.slice ad1 f1.head.list.length cap1) (.slice bad1 f1.bl.length bcap1)) 46)).heap.size := by
    have := HB1.size
    simp
    omega
  clear HI0 HQ1 HB1 hown0 hBW
  gi_wp2
  generalize hZ : World.alloc w1 _ = Z at *
  gi_loopw [4, 5] (fun p o wr => ∃ (k : Nat) (M : Lg) (P : Nat → Prop), Hid (ItAt D.read n segs wb b v t J fs L' L.seq w0 k M P wr) ∧ Hid (Pend fs B P k p wr) ∧ o = .bool (decide (k < fs.length)) ∧ B ≤ wr.heap.size ∧ ∃ g : Nat, p = .pointer (some ⟨g, 0, none⟩)) (fun p o wr => (L.seq + fs.length - seqAt wr wb).toNat)
  case atStart => exact ⟨0, L, P, IZ0, PZ0, rfl, hwB1, _, rfl⟩
  case round =>
    obtain ⟨k, M, P2, HI, HP, rfl, hBr, g, rfl⟩ := hrel
    clear IZ0 PZ0 hZ hwB1
    by_cases hk : k < fs.length
    · obtain ⟨g2, ad, cap, bad, bcap, hg, hPA⟩ := HP.out hk
      injection hg with hg
      injection hg with hg
      injection hg with hg
      subst hg
      have PA := rohid hPA
      obtain ⟨hnx1, hro1⟩ := HI.out.nxt_some hk
      obtain ⟨b1, b2, b3, b4, b5⟩ := nxt_nums hnx1
      have HNX := rohid hro1
      have HYk := rohid (HY.out k hk)
      have HFK : Hid (fs[k] = fs[k]) := rfl
      clear hPA HP hnx1 hro1
      generalize fs[k] = f at *
      rw [decide_eq_true hk]
      obtain ⟨x0, x1, x2, x3, x4, x5, x6, x7, x8, x9, x10, x11⟩ := cellsOf12 PA.out.row
      have hwg : g ≠ wb := fun e => by
        have h1 := PA.out.row
        have h2 := HI.out.row
        rw [e, h2] at h1
        simp only [Option.some.injEq, Obj.cells.injEq] at h1
        exact ht h1.2.1
      gi_wp2
      refine ⟨trivial, (callsIn_wide.2 (rpass_t wb b _ _ M v f (.slice ad f.head.list.length cap) bad bcap t wr HI.out.row b1 (by omega) (by omega) (by omega) (by omega))).mono ?_⟩
      rintro e W2 ⟨rfl, hrow2, hK2⟩
      have PA2 := rohid (PA.out.keep hK2 hwg (fun q e => .inl (by rw [e]; exact hwB)))
      have HJ2 := rohid (HJ.out k wr W2 P2 _ HI.out.inv hK2 (fun q e hp => (HI.out.own q hp).2.1 e))
      have HR2 := rohid hrow2
      have hs2 : wr.heap.size ≤ W2.heap.size := hK2.size
      have HB2 : Hid (Below w0.heap.size w0 W2) := HI.out.below.trans (hK2.below HI.out.below.size (fun q e => by rw [e]; exact hwb))
      clear hK2 hrow2 PA x0 x1 x2 x3 x4 x5 x6 x7 x8 x9 x10 x11
      obtain ⟨x0, x1, x2, x3, x4, x5, x6, x7, x8, x9, x10, x11⟩ := cellsOf12 PA2.out.row
      obtain ⟨fn, tmps, assign, body, hy, hR⟩ := HYk.out W2 P2 g ad bad cap bcap HJ2.out PA2.out (by omega)
      gi_wp2
      refine hR.mono ?_
      rintro e W3 ⟨rfl, P3, hJ3, hK3, hP3⟩
      have hg3 : W3.heap[g]? = _ := (hK3.block g (Array.getElem?_eq_some_iff.1 PA2.out.row).1 PA2.out.off).trans PA2.out.row
      have hgl : g < W3.heap.size := (Array.getElem?_eq_some_iff.1 hg3).1
      have hwl : wb < W2.heap.size := (Array.getElem?_eq_some_iff.1 HR2.out).1
      have HI3 : Hid (ItAt D.read n segs wb b v t J fs L' L.seq w0 (k + 1) (past M f) P3 W3) := by
        refine ⟨hk, (hK3.block wb hwl (fun hp => (HI.out.own wb hp).2.1 rfl)).trans HR2.out, HNX.out, ?_, hJ3, fun q hq => ?_, HB2.out.trans (hK3.below HB2.out.size (fun q hq => (HI.out.own q hq).1))⟩
        · show M.seq + 1 = _
          have := HI.out.seq
          omega
        · obtain ⟨h1, h2⟩ := hP3 q hq
          rcases h2 with h2 | h2
          · exact ⟨(HI.out.own q h2).1, (HI.out.own q h2).2.1, h1⟩
          · exact ⟨by omega, by omega, h1⟩
      have hs3 : W2.heap.size ≤ W3.heap.size := hK3.size
      have hseq : seqAt wr wb = M.seq := seqAt_row HI.out.row
      have hMs := HI.out.seq
      clear hJ3 hK3 hP3 hR hy PA2 HJ2 HR2 HB2 x0 x1 x2 x3 x4 x5 x6 x7 x8 x9 x10 x11 HYk HI HNX
      obtain ⟨x0, x1, x2, x3, x4, x5, x6, x7, x8, x9, x10, x11⟩ := cellsOf12 hg3
      clear hg3
      gi_wp2
      generalize hW4 : World.alloc W3 _ = W4
      have hb4 : Below W3.heap.size W3 W4 := by rw [← hW4]; exact (Below.refl _ _).alloc (Nat.le_refl _) _
      have hr4 : Hid (W4.heap[W3.heap.size]? = some (.cells (fdC f (.slice ad f.head.list.length cap) (.slice bad f.bl.length bcap)) 46 (0, 0))) := by rw [← hW4]; exact heap_alloc_new _ _
      have hs4 : W4.heap.size = W3.heap.size + 1 := by rw [← hW4]; simp
      have HI4 := rohid (HI3.out.on HJ.out hb4)
      have hnP : ¬ P3 W3.heap.size := fun hp => by have := (HI3.out.own _ hp).2.2; omega
      clear hW4 hb4 HI3 x0 x1 x2 x3 x4 x5 x6 x7 x8 x9 x10 x11
      refine ⟨trivial, (callsIn_wide.2 (NX.out W4 (past M f) HI4.out.row HI4.out.below)).mono ?_⟩
      rintro e w5 hnx
      obtain ⟨f5, ad5, cap5, bad5, bcap5, rfl, HQ5, hb5⟩ := next_got (B := B) HI4.out (by omega) hnx
      have hr5 : Hid (w5.heap[W3.heap.size]? = some (.cells (fdC f (.slice ad f.head.list.length cap) (.slice bad f.bl.length bcap)) 46 (0, 0))) := row_on hr4.out hb5
      have HI5 := rohid (HI4.out.on HJ.out hb5)
      have hs5 := hb5.size
      have hown4 : ∀ q, P3 q → q < W4.heap.size := fun q hq => (HI4.out.own q hq).2.2
      clear hnx hb5 hr4
      obtain ⟨z0, z1, z2, z3, z4, z5, z6, z7, z8, z9, z10, z11⟩ := cellsOf12 hr5.out
      obtain ⟨y0, y1, y2, y3, y4, y5, y6, y7, y8, y9, y10, y11⟩ := frozenOf12 hr5.out
      gi_wp2
      rw [set12_is]
      have PN := rohid (pend_set (fs := fs) (B := B) (k := k + 1) rfl hr5.out (by omega) hnP (by omega) hown4 HQ5.out)
      have hkee := set12_keep w5 W3.heap.size (.int .i64 f5.seg) (.int .i64 f5.pos) (.int .i64 f5.head.house) (.int .i64 f5.head.gen) (.int .i64 f5.head.life) (.int .i64 f5.head.seq) (.int .i64 f5.head.next) (.int .i64 f5.head.clock) (.int .i64 f5.head.sb) (.int .i64 f5.head.sn) (.slice ad5 f5.head.list.length cap5) (.slice bad5 f5.bl.length bcap5)
      have hset := set12_other (w := w5) (b := W3.heap.size) (k := wb) (by omega) (.int .i64 f5.seg) (.int .i64 f5.pos) (.int .i64 f5.head.house) (.int .i64 f5.head.gen) (.int .i64 f5.head.life) (.int .i64 f5.head.seq) (.int .i64 f5.head.next) (.int .i64 f5.head.clock) (.int .i64 f5.head.sb) (.int .i64 f5.head.sn) (.slice ad5 f5.head.list.length cap5) (.slice bad5 f5.bl.length bcap5)
      have hsiz := set12_size w5 W3.heap.size (.int .i64 f5.seg) (.int .i64 f5.pos) (.int .i64 f5.head.house) (.int .i64 f5.head.gen) (.int .i64 f5.head.life) (.int .i64 f5.head.seq) (.int .i64 f5.head.next) (.int .i64 f5.head.clock) (.int .i64 f5.head.sb) (.int .i64 f5.head.sn) (.slice ad5 f5.head.list.length cap5) (.slice bad5 f5.bl.length bcap5)
      generalize hX : set12 w5 _ _ _ _ _ _ _ _ _ _ _ _ _ = X at *
      have HI6 : Hid (ItAt D.read n segs wb b v t J fs L' L.seq w0 (k + 1) (past M f) P3 X) :=
        ⟨HI5.out.le, hset.trans HI5.out.row, HI5.out.rolls, HI5.out.seq, HJ.out _ _ _ _ _ HI5.out.inv hkee (fun q e hp => hnP (by rw [← e]; exact hp)), fun q hq => ⟨(HI5.out.own q hq).1, (HI5.out.own q hq).2.1, by rw [hsiz]; exact (HI5.out.own q hq).2.2⟩, HI5.out.below.trans (hkee.below HI5.out.below.size (fun q e => by omega))⟩
      have hs6 := seqAt_row HI6.out.row
      refine ⟨⟨k + 1, past M f, P3, HI6, PN, rfl, by omega, _, rfl⟩, ?_⟩
      rw [hs6, hseq]
      show (L.seq + fs.length - (M.seq + 1)).toNat < _
      omega
    · obtain ⟨-, rfl⟩ := HI.out.nxt_none (by have := HI.out.le; omega)
      have hkl : k = fs.length := by have := HI.out.le; omega
      have hdk : decide (k < fs.length) = false := decide_eq_false hk
      rw [hdk]
      have HFI : Hid ((∃ P', J fs.length wr P') ∧ wr.heap[wb]? = some (.cells (wkC b (48 + 32 * (n : Int)) 32 M v) t (0, 0)) ∧ Below w0.heap.size w0 wr) := ⟨⟨P2, by rw [← hkl]; exact HI.out.inv⟩, HI.out.row, HI.out.below⟩
      clear HI HP hkl hdk NX HY HJ
      gi_wp2
      go_end0
      exact ⟨⟨_, rfl⟩, HFI.out⟩
end Go.Proofs.Ytaiebhkjkeadoaa
