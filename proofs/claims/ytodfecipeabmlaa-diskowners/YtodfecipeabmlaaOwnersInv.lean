/- What becomes of one owner's sectors is the same, whatever another one does on sectors of its own: plain facts, no walk. -/
import Derived.Test.YtodfecipeabmlaaCutsInv
namespace Go.Proofs.Ytodfecipeabmlaa
open Go.RowKit

/-- Where a write goes, and what it says: all but its number. -/
def Wr.pb (x : Wr) : Nat × ByteArray := (x.pos, x.bytes)

theorem settle_pb (i : Nat) : ∀ (L L2 : List Wr) (d d2 : Nat → ByteArray), L.map Wr.pb = L2.map Wr.pb → d i = d2 i → settleL d L i = settleL d2 L2 i
  | [], [], _, _, _, h => h
  | [], _ :: _, _, _, h, _ => by simp at h
  | _ :: _, [], _, _, h, _ => by simp at h
  | x :: L, y :: L2, d, d2, h, hd => by
    simp only [List.map_cons, List.cons.injEq, Wr.pb, Prod.mk.injEq] at h
    obtain ⟨⟨h1, h2⟩, h3⟩ := h
    show settleL (upd d x.pos x.bytes) L i = settleL (upd d2 y.pos y.bytes) L2 i
    refine settle_pb i L L2 _ _ h3 ?_
    rw [h1, h2]
    unfold upd
    split
    · rfl
    · exact hd

theorem settle_filter (i : Nat) (p : Wr → Bool) (hp : ∀ x : Wr, x.pos = i → p x = true) : ∀ (L : List Wr) (d : Nat → ByteArray), settleL d L i = settleL d (L.filter p) i
  | [], _ => rfl
  | x :: L, d => by
    by_cases hx : p x = true
    · rw [List.filter_cons_of_pos hx]
      show settleL (upd d x.pos x.bytes) L i = settleL (upd d x.pos x.bytes) (L.filter p) i
      exact settle_filter i p hp L _
    · rw [List.filter_cons_of_neg hx, ← settle_filter i p hp L d]
      show settleL (upd d x.pos x.bytes) L i = settleL d L i
      refine settle_pb i L L _ _ rfl ?_
      exact upd_other _ _ (fun e => hx (hp x e.symm))

theorem selTo_pb (L L2 : List Wr) (ps : List Int) (h : L.map Wr.pb = L2.map Wr.pb) : ∀ k, (selTo L ps k).map Wr.pb = (selTo L2 ps k).map Wr.pb
  | 0 => rfl
  | k + 1 => by
    have hk : (L[k]?).map Wr.pb = (L2[k]?).map Wr.pb := by rw [← List.getElem?_map, ← List.getElem?_map, h]
    simp only [selTo, List.map_append, selTo_pb L L2 ps h k]
    congr 1
    split
    · cases h1 : L[k]? <;> cases h2 : L2[k]? <;> rw [h1, h2] at hk <;> simp_all
    · rfl
theorem sel_pb (L L2 : List Wr) (ps : List Int) (h : L.map Wr.pb = L2.map Wr.pb) : (sel L ps).map Wr.pb = (sel L2 ps).map Wr.pb := by
  have hl : L.length = L2.length := by have := congrArg List.length h; simpa using this
  unfold sel
  rw [hl]; exact selTo_pb L L2 ps h _

theorem selTo_sublist (L : List Wr) (ps : List Int) : ∀ k, (selTo L ps k).Sublist (L.take k)
  | 0 => by simp [selTo]
  | k + 1 => by
    have h := selTo_sublist L ps k
    simp only [selTo]
    by_cases hk : k < L.length
    · rw [List.take_succ_eq_append_getElem hk, List.getElem?_eq_getElem hk]
      refine List.Sublist.append h ?_
      split
      · exact List.Sublist.refl _
      · exact List.nil_sublist _
    · rw [List.getElem?_eq_none (by omega)]
      have e : L.take (k + 1) = L.take k := by rw [List.take_of_length_le (by omega), List.take_of_length_le (by omega)]
      rw [e]
      have : (if (k : Int) ∈ ps then (none : Option Wr).toList else []) = [] := by split <;> rfl
      rw [this, List.append_nil]; exact h
theorem sel_sublist (L : List Wr) (ps : List Int) : (sel L ps).Sublist L := by
  have := selTo_sublist L ps L.length
  rw [List.take_length] at this; exact this

/-- A sorted permutation of what is in its order already is that. -/
theorem sorted_eq (L M : List Wr) (hp : L.Perm M) (hs : L.Pairwise (fun x y => x.order ≤ y.order)) (hm : M.Pairwise (fun x y => x.order < y.order)) : L = M := by
  have hinj : ∀ (N : List Wr), N.Pairwise (fun x y => x.order < y.order) → ∀ a b, a ∈ N → b ∈ N → a.order = b.order → a = b := by
    intro N
    induction N with
    | nil => intro _ a b ha; cases ha
    | cons x N ih =>
      intro hN a b ha hb e
      rw [List.pairwise_cons] at hN
      rcases List.mem_cons.1 ha with ea | ha'
      · rcases List.mem_cons.1 hb with eb | hb'
        · rw [ea, eb]
        · have := hN.1 b hb'
          rw [← ea] at this; omega
      · rcases List.mem_cons.1 hb with eb | hb'
        · have := hN.1 a ha'
          rw [← eb] at this; omega
        · exact ih hN.2 a b ha' hb' e
  refine List.Perm.eq_of_pairwise (le := fun x y : Wr => x.order ≤ y.order) (fun a b ha hb h1 h2 => hinj M hm a b (hp.subset ha) hb (by omega)) hs (hm.imp (fun h => by omega)) hp

/-- The two disks of DiskOwners: what the first owner has is the same on both. -/
structure OI (c : Nat) (X Y : St) : Prop where
  nx : X.n = 20
  ny : Y.n = 20
  dx : X.down = false
  dy : Y.down = false
  lx : X.left = 0
  ly : Y.left = 0
  wx : X.writes ≤ c
  wy : Y.writes ≤ c
  same : (X.waits 1).map Wr.pb = (Y.waits 1).map Wr.pb
  a10 : ∀ x ∈ X.waits 1, x.pos < 10
  b10 : ∀ x ∈ Y.waits 2, 10 ≤ x.pos
  rx : ∀ o, o ≠ 1 → X.waits o = []
  ry : ∀ o, o ≠ 1 → o ≠ 2 → Y.waits o = []
  ox : (X.waits 1).Pairwise (fun x y => x.order < y.order)
  oy : (Y.waits 1).Pairwise (fun x y => x.order < y.order)
  mx : ∀ x ∈ X.waits 1, x.order ≤ X.writes
  my : ∀ x ∈ Y.waits 1, x.order ≤ Y.writes
  dur : ∀ i, i < 10 → X.dur i = Y.dur i

theorem OI.new : OI 0 (St.new 20) (St.new 20) :=
  ⟨rfl, rfl, rfl, rfl, rfl, rfl, Nat.le_refl _, Nat.le_refl _, rfl, (fun _ h => by cases h), (fun _ h => by cases h), fun _ _ => rfl, fun _ _ _ => rfl, List.Pairwise.nil, List.Pairwise.nil, (fun _ h => by cases h), (fun _ h => by cases h), fun _ _ => rfl⟩

theorem OI.mono {c c' : Nat} {X Y : St} (h : OI c X Y) (hc : c ≤ c') : OI c' X Y := { h with wx := Nat.le_trans h.wx hc, wy := Nat.le_trans h.wy hc }

theorem OI.len {c : Nat} {X Y : St} (h : OI c X Y) : (X.waits 1).length = (Y.waits 1).length := by have := congrArg List.length h.same; simpa using this

theorem OI.a10y {c : Nat} {X Y : St} (h : OI c X Y) : ∀ x ∈ Y.waits 1, x.pos < 10 := fun x hx => by
  have : x.pb ∈ (X.waits 1).map Wr.pb := by rw [h.same]; exact List.mem_map.2 ⟨x, hx, rfl⟩
  obtain ⟨y, hy, e⟩ := List.mem_map.1 this
  have := h.a10 y hy
  simp only [Wr.pb, Prod.mk.injEq] at e
  omega

theorem flush_same (S : St) (o : Nat) : (S.flush o).waits o = [] := upd_same _ _ _
theorem flush_other (S : St) {o o' : Nat} (h : o' ≠ o) : (S.flush o).waits o' = S.waits o' := upd_other _ _ h

theorem OI.flushA {c : Nat} {X Y : St} (h : OI c X Y) : OI c (X.flush 1) (Y.flush 1) := by
  refine ⟨h.nx, h.ny, h.dx, h.dy, h.lx, h.ly, h.wx, h.wy, ?_, ?_, ?_, fun o ho => ?_, fun o h1 h2 => ?_, ?_, ?_, ?_, ?_, fun i hi => ?_⟩
  · rw [flush_same, flush_same]
  · rw [flush_same]; intro _ hx; cases hx
  · rw [flush_other _ (by omega)]; exact h.b10
  · rw [flush_other _ ho]; exact h.rx o ho
  · rw [flush_other _ h1]; exact h.ry o h1 h2
  · rw [flush_same]; exact List.Pairwise.nil
  · rw [flush_same]; exact List.Pairwise.nil
  · rw [flush_same]; intro _ hx; cases hx
  · rw [flush_same]; intro _ hx; cases hx
  · exact settle_pb i _ _ _ _ h.same (h.dur i hi)

theorem OI.flushB {c : Nat} {X Y : St} (h : OI c X Y) : OI c X (Y.flush 2) := by
  refine ⟨h.nx, h.ny, h.dx, h.dy, h.lx, h.ly, h.wx, h.wy, ?_, h.a10, ?_, h.rx, fun o h1 h2 => ?_, h.ox, ?_, h.mx, ?_, fun i hi => ?_⟩
  · rw [flush_other _ (by omega)]; exact h.same
  · rw [flush_same]; intro _ hx; cases hx
  · rw [flush_other _ h2]; exact h.ry o h1 h2
  · rw [flush_other _ (by omega)]; exact h.oy
  · rw [flush_other _ (by omega)]; exact h.my
  · show X.dur i = settleL Y.dur (Y.waits 2) i
    rw [settleL_other _ _ _ (fun x hx => by have := h.b10 x hx; omega)]
    exact h.dur i hi

theorem order_snoc {L : List Wr} {m p : Nat} {s : ByteArray} (ho : L.Pairwise (fun x y => x.order < y.order)) (hm : ∀ x ∈ L, x.order ≤ m) :
    (L ++ [(⟨m + 1, p, s⟩ : Wr)]).Pairwise (fun x y => x.order < y.order) ∧ ∀ x ∈ L ++ [(⟨m + 1, p, s⟩ : Wr)], x.order ≤ m + 1 := by
  refine ⟨List.pairwise_append.2 ⟨ho, List.pairwise_singleton _ _, fun a ha b hb => ?_⟩, fun x hx => ?_⟩
  · rw [List.mem_singleton] at hb
    subst hb
    have := hm a ha
    show a.order < m + 1
    omega
  · rw [List.mem_append, List.mem_singleton] at hx
    rcases hx with hx | rfl
    · have := hm x hx; omega
    · exact Nat.le_refl _

theorem OI.writeA {c : Nat} {X Y : St} (h : OI c X Y) (p : Nat) (s : ByteArray) (hp : p < 10) : OI (c + 1) (X.write 1 p s) (Y.write 1 p s) := by
  have hx := order_snoc (p := p) (s := s) h.ox h.mx
  have hy := order_snoc (p := p) (s := s) h.oy h.my
  refine ⟨h.nx, h.ny, ?_, ?_, ?_, ?_, ?_, ?_, ?_, ?_, ?_, fun o ho => ?_, fun o h1 h2 => ?_, ?_, ?_, ?_, ?_, h.dur⟩
  · show (if X.left = 0 then X.down else _) = false
    rw [if_pos h.lx]; exact h.dx
  · show (if Y.left = 0 then Y.down else _) = false
    rw [if_pos h.ly]; exact h.dy
  · show X.left - 1 = 0
    rw [h.lx]
  · show Y.left - 1 = 0
    rw [h.ly]
  · show X.writes + 1 ≤ c + 1
    have := h.wx; omega
  · show Y.writes + 1 ≤ c + 1
    have := h.wy; omega
  · rw [write_same, write_same, List.map_append, List.map_append, h.same]; rfl
  · rw [write_same]
    intro x hx
    rw [List.mem_append, List.mem_singleton] at hx
    rcases hx with hx | rfl
    · exact h.a10 x hx
    · exact hp
  · rw [write_other _ _ _ (by omega)]; exact h.b10
  · rw [write_other _ _ _ ho]; exact h.rx o ho
  · rw [write_other _ _ _ h1]; exact h.ry o h1 h2
  · rw [write_same]; exact hx.1
  · rw [write_same]; exact hy.1
  · rw [write_same]; exact hx.2
  · rw [write_same]; exact hy.2

theorem OI.writeB {c : Nat} {X Y : St} (h : OI c X Y) (p : Nat) (s : ByteArray) (hp : 10 ≤ p) : OI (c + 1) X (Y.write 2 p s) := by
  refine ⟨h.nx, h.ny, h.dx, ?_, h.lx, ?_, ?_, ?_, ?_, h.a10, ?_, h.rx, fun o h1 h2 => ?_, h.ox, ?_, h.mx, ?_, h.dur⟩
  · show (if Y.left = 0 then Y.down else _) = false
    rw [if_pos h.ly]; exact h.dy
  · show Y.left - 1 = 0
    rw [h.ly]
  · have := h.wx; omega
  · show Y.writes + 1 ≤ c + 1
    have := h.wy; omega
  · rw [write_other _ _ _ (by omega)]; exact h.same
  · rw [write_same]
    intro x hx
    rw [List.mem_append, List.mem_singleton] at hx
    rcases hx with hx | rfl
    · exact h.b10 x hx
    · exact hp
  · rw [write_other _ _ _ h2]; exact h.ry o h1 h2
  · rw [write_other _ _ _ (by omega)]; exact h.oy
  · rw [write_other _ _ _ (by omega)]
    intro x hx
    show x.order ≤ Y.writes + 1
    have := h.my x hx; omega

theorem OI.keptX {c : Nat} {X Y : St} (_h : OI c X Y) (kA : List Int) : keptTo X.waits [[], kA] 2 = sel (X.waits 1) kA := by
  have e : sel (X.waits 0) [] = [] := sel_nil _
  simp only [keptTo, List.getD_eq_getElem?_getD, List.getElem?_cons_zero, List.getElem?_cons_succ, Option.getD_some, e, List.nil_append]
theorem OI.keptY {c : Nat} {X Y : St} (_h : OI c X Y) (kA kB : List Int) : keptTo Y.waits [[], kA, kB] 3 = sel (Y.waits 1) kA ++ sel (Y.waits 2) kB := by
  have e : sel (Y.waits 0) [] = [] := sel_nil _
  simp only [keptTo, List.getD_eq_getElem?_getD, List.getElem?_cons_zero, List.getElem?_cons_succ, Option.getD_some, e, List.nil_append]

/-- Behind Back the first owner's sectors are the same on both. -/
theorem OI.back {c : Nat} {X Y : St} (h : OI c X Y) (kA kB : List Int) (LX LY : List Wr) (hpx : LX.Perm (keptTo X.waits [[], kA] 2)) (hsx : LX.Pairwise (fun x y => x.order ≤ y.order))
    (hpy : LY.Perm (keptTo Y.waits [[], kA, kB] 3)) (hsy : LY.Pairwise (fun x y => x.order ≤ y.order)) (i : Nat) (hi : i < 10) : (X.back LX).dur i = (Y.back LY).dur i := by
  rw [h.keptX] at hpx
  rw [h.keptY] at hpy
  have ex : LX = sel (X.waits 1) kA := sorted_eq _ _ hpx hsx (h.ox.sublist (sel_sublist _ _))
  have hfy := hpy.filter (fun x => decide (x.pos < 10))
  have e1 : (sel (Y.waits 1) kA).filter (fun x => decide (x.pos < 10)) = sel (Y.waits 1) kA := List.filter_eq_self.2 (fun x hx => by
    simpa using h.a10y x ((sel_sublist _ _).subset hx))
  have e2 : (sel (Y.waits 2) kB).filter (fun x => decide (x.pos < 10)) = [] := List.filter_eq_nil_iff.2 (fun x hx => by
    have := h.b10 x ((sel_sublist _ _).subset hx)
    simp; omega)
  rw [List.filter_append, e1, e2, List.append_nil] at hfy
  have ey := sorted_eq _ _ hfy (hsy.filter _) (h.oy.sublist (sel_sublist _ _))
  show settleL X.dur LX i = settleL Y.dur LY i
  rw [settle_filter i (fun x => decide (x.pos < 10)) (fun x e => by simp; omega) LY, ey, ex]
  exact settle_pb i _ _ _ _ (sel_pb _ _ kA h.same) (h.dur i hi)

end Go.Proofs.Ytodfecipeabmlaa
