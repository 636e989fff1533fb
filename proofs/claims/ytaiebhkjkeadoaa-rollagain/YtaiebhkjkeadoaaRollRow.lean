/- Chunks that were found in a row of one's own, each with its entries' and its blocks' slices elsewhere. -/
import Derived.Test.YtaiebhkjkeadoaaRollNext
import Derived.Maps.AppendAt
namespace Go.Proofs.Ytaiebhkjkeadoaa
open Go.RowKit Lo Hdp Rol Chk

/-- A slice's row lies in a block that P lets. -/
def Away (P : Nat → Prop) (v : Value) : Prop := ∀ b off n c, v = .slice (some ⟨b, off, none⟩) n c → 0 < n → P b
theorem Away.mono {P Q : Nat → Prop} {v : Value} (h : Away P v) (k : ∀ b, P b → Q b) : Away Q v := fun b off n c e hn => k b (h b off n c e hn)
theorem Ents.away {w w' : World} {v : Value} {l : List En} {P : Nat → Prop} (h : Ents w v l) (hf : Away P v) (hs : w.heap.size ≤ w'.heap.size) (hk : ∀ k, P k → k < w.heap.size → w'.heap[k]? = w.heap[k]?) : Ents w' v l := by
  obtain ⟨ad, cap, rfl, hn, hc⟩ := h
  refine ⟨ad, cap, rfl, hn, fun hl => ?_⟩
  obtain ⟨b, off, rfl, hb, hi⟩ := hc hl
  have hm := hf b off _ _ rfl hl
  refine ⟨b, off, rfl, by omega, fun i h => ?_⟩
  have e : ∀ q, w'.cell? ⟨b, q, none⟩ = w.cell? ⟨b, q, none⟩ := fun q => by simp only [World.cell?, hk b hm hb]
  rw [e, e, e]
  exact hi i h
theorem Txts.away {w w' : World} {v : Value} {l : List ByteArray} {P : Nat → Prop} (h : Txts w v l) (hf : Away P v) (hs : w.heap.size ≤ w'.heap.size) (hk : ∀ k, P k → k < w.heap.size → w'.heap[k]? = w.heap[k]?) : Txts w' v l := by
  obtain ⟨ad, cap, rfl, hn, hlc, hc⟩ := h
  refine ⟨ad, cap, rfl, hn, hlc, fun hl => ?_⟩
  obtain ⟨b, off, rfl, hb, hi⟩ := hc hl
  have hm := hf b off _ _ rfl hl
  refine ⟨b, off, rfl, by omega, fun i h => ?_⟩
  have e : ∀ q, w'.cell? ⟨b, q, none⟩ = w.cell? ⟨b, q, none⟩ := fun q => by simp only [World.cell?, hk b hm hb]
  rw [e]
  exact hi i h

theorem Try.finfo : (Try.prog.info? 46).map (fun i => (i.zero, i.size, i.bytes)) = some (some (.agg (fdC fdZ (.slice none 0 0) (.slice none 0 0))), 12, 128) := by kernel_rfl

/-- A chunk with its two slices. -/
structure Fv where
  f : Fnd
  hv : Value
  bv : Value
def fcells (l : List Fv) : List Value := l.flatMap fun p => (fdC p.f p.hv p.bv).toList
theorem fcells_length : ∀ l : List Fv, (fcells l).length = l.length * 12
  | [] => rfl
  | a :: r => by
    have e : fcells (a :: r) = (fdC a.f a.hv a.bv).toList ++ fcells r := rfl
    have e2 : ((fdC a.f a.hv a.bv).toList).length = 12 := rfl
    have e3 : (a :: r).length = r.length + 1 := rfl
    rw [e, List.length_append, fcells_length r, e2, e3]
    omega
theorem fcells_append (a b : List Fv) : fcells (a ++ b) = fcells a ++ fcells b := by simp [fcells]
theorem fcells_one (p : Fv) : fcells [p] = (fdC p.f p.hv p.bv).toList := by simp [fcells]
theorem fcells_get : ∀ (l : List Fv) (k r : Nat) (hk : k < l.length) (_ : r < 12), (fcells l)[k * 12 + r]? = (fdC l[k].f l[k].hv l[k].bv)[r]?
  | x :: l, 0, r, hk, hr => by
    have e : fcells (x :: l) = (fdC x.f x.hv x.bv).toList ++ fcells l := rfl
    rw [e, List.getElem?_append_left (by show 0 * 12 + r < 12; omega)]
    simp
  | x :: l, k + 1, r, hk, hr => by
    have h : k < l.length := by simpa using hk
    have e : fcells (x :: l) = (fdC x.f x.hv x.bv).toList ++ fcells l := rfl
    have e2 : ((fdC x.f x.hv x.bv).toList).length = 12 := rfl
    rw [e, List.getElem?_append_right (by rw [e2]; omega), e2]
    have e3 : (k + 1) * 12 + r - 12 = k * 12 + r := by omega
    rw [e3, fcells_get l k r h hr]
    simp

/-- One chunk with its slices elsewhere: in blocks from base on that are not that row. -/
structure FvOk (w : World) (base : Nat) (row : Option Nat) (p : Fv) : Prop where
  ents : Ents w p.hv p.f.head.list
  txts : Txts w p.bv p.f.bl
  ha : Away (fun b => base ≤ b ∧ b < w.heap.size ∧ row ≠ some b) p.hv
  ba : Away (fun b => base ≤ b ∧ b < w.heap.size ∧ row ≠ some b) p.bv
/-- Chunks in a row of one's own. -/
def FOwn (w : World) (base : Nat) (v : Value) (L : List Fv) : Prop :=
  w.ownsRow base 46 12 v L.length (fcells L) ∧ ∀ p ∈ L, FvOk w base v.ownBlock p
theorem FOwn.nil (w : World) (base : Nat) : FOwn w base (.slice none 0 0) [] := ⟨⟨rfl, .inl ⟨rfl, rfl⟩⟩, fun _ h => by cases h⟩
theorem FOwn.lt {w : World} {base : Nat} {v : Value} {L : List Fv} (h : FOwn w base v L) : ∀ k, v.ownBlock = some k → base ≤ k ∧ k < w.heap.size := h.1.lt
theorem FOwn.slice {w : World} {base : Nat} {v : Value} {L : List Fv} (h : FOwn w base v L) : ∃ ad cap, v = .slice ad L.length cap := by
  rcases h.1.2 with ⟨rfl, h1⟩ | ⟨g, cap, cur, rfl, -⟩
  · exact ⟨none, 0, by rw [h1]⟩
  · exact ⟨_, cap, rfl⟩
theorem FvOk.keep {w w' : World} {base : Nat} {row : Option Nat} {p : Fv} {F : Nat → Prop} (h : FvOk w base row p) (k : Keep F w w') (hF : ∀ q, F q → q < base) : FvOk w' base row p :=
  ⟨h.ents.away h.ha k.size fun q hq hl => k.block q hl (fun hf => by have := hF q hf; omega), h.txts.away h.ba k.size fun q hq hl => k.block q hl (fun hf => by have := hF q hf; omega),
   h.ha.mono fun q hq => ⟨hq.1, Nat.lt_of_lt_of_le hq.2.1 k.size, hq.2.2⟩, h.ba.mono fun q hq => ⟨hq.1, Nat.lt_of_lt_of_le hq.2.1 k.size, hq.2.2⟩⟩
/-- What turns blocks ahead of it alone lets it be. -/
theorem FOwn.keep {w w' : World} {base : Nat} {v : Value} {L : List Fv} {F : Nat → Prop} (h : FOwn w base v L) (k : Keep F w w') (hF : ∀ q, F q → q < base) : FOwn w' base v L :=
  ⟨owns_of_block h.1 fun g hg => k.block g (h.lt g hg).2 (fun hf => by have := hF g hf; have := (h.lt g hg).1; omega), fun p hp => (h.2 p hp).keep k hF⟩
theorem FOwn.on {w w' : World} {base : Nat} {v : Value} {L : List Fv} (h : FOwn w base v L) (k : Below w.heap.size w w') : FOwn w' base v L :=
  h.keep (keep_of_below k (fun _ => False)) (fun _ hf => hf.elim)
/-- Behind an append: one more. -/
theorem FOwn.more {w w1 w' : World} {base : Nat} {v v' : Value} {L : List Fv} {p : Fv} (h : FOwn w base v L) (hp : FvOk w base v.ownBlock p) (ht : Below w.heap.size w w1) (_hb : base ≤ w.heap.size)
    (ho : w'.ownsRow base 46 12 v' (L.length + 1) (fcells L ++ (fdC p.f p.hv p.bv).toList)) (hg : w1.grownBy w' v.ownBlock) (hat : v'.ownBlock = v.ownBlock ∨ v'.ownBlock = some w1.heap.size) : FOwn w' base v' (L ++ [p]) := by
  refine ⟨?_, fun q hq => ?_⟩
  · rw [fcells_append, fcells_one, List.length_append]
    exact ho
  · have hall : ∀ r : Fv, FvOk w base v.ownBlock r → FvOk w' base v'.ownBlock r := fun r hr => by
      have hs : w.heap.size ≤ w'.heap.size := Nat.le_trans ht.size hg.size
      have hk : ∀ k, (base ≤ k ∧ k < w.heap.size ∧ v.ownBlock ≠ some k) → k < w.heap.size → w'.heap[k]? = w.heap[k]? := fun k hk hl => by
        rw [hg.block k (Nat.lt_of_lt_of_le hl ht.size) (fun e => hk.2.2 e.symm), ht.block k hl]
      have hm : ∀ k, (base ≤ k ∧ k < w.heap.size ∧ v.ownBlock ≠ some k) → (base ≤ k ∧ k < w'.heap.size ∧ v'.ownBlock ≠ some k) := fun k hk => by
        refine ⟨hk.1, Nat.lt_of_lt_of_le hk.2.1 hs, fun e => ?_⟩
        rcases hat with hat | hat
        · rw [hat] at e
          exact hk.2.2 e
        · rw [hat] at e
          injection e with e
          have := ht.size
          omega
      exact ⟨hr.ents.away hr.ha hs hk, hr.txts.away hr.ba hs hk, hr.ha.mono hm, hr.ba.mono hm⟩
    rcases List.mem_append.1 hq with hq | hq
    · exact hall q (h.2 q hq)
    · rw [List.mem_singleton] at hq
      subst hq
      exact hall q hp
/-- A chunk's cells. -/
theorem FOwn.cells {w : World} {base : Nat} {ad : Option Addr} {n cap : Nat} {L : List Fv} (h : FOwn w base (.slice ad n cap) L) (k : Nat) (hk : k < L.length) : ∃ g, ad = some ⟨g, 0, none⟩ ∧ ∀ r u, (fdC L[k].f L[k].hv L[k].bv)[r]? = some u → w.cell? ⟨g, k * 12 + r, none⟩ = some u := by
  rcases h.1.2 with ⟨_, h1⟩ | ⟨g, cap2, cur, hv, hg, hh, hle, hmx, hcs, htk⟩
  · omega
  · injection hv with hv1 hv2 hv3
    refine ⟨g, hv1, fun r u hu => ?_⟩
    have hr : r < 12 := (Array.getElem?_eq_some_iff.1 hu).1
    rw [cell_of_row w g _ cur _ _ hh]
    rw [← fcells_get L k r hk hr] at hu
    have hl : k * 12 + r < L.length * 12 := by omega
    rw [← htk, List.getElem?_take_of_lt hl, Array.getElem?_toList] at hu
    exact hu
end Go.Proofs.Ytaiebhkjkeadoaa
