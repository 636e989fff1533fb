/- The disk's methods, said of a disk that lies in memory: New, Write, Flush, Forget, Cut. -/
import Derived.Test.YtaiebhkjkeadoaaDiskWrite
namespace Go.Proofs.Ytaiebhkjkeadoaa
open Go.RowKit

/-- What a step of a disk turns: its own blocks alone; its new blocks are new ones. -/
structure Step (b gd : Nat) (w : World) (V : Nat → Value) (w' : World) (V' : Nat → Value) : Prop where
  keep : Keep (foot b gd V) w w'
  foot' : ∀ k, foot b gd V' k → foot b gd V k ∨ w.heap.size ≤ k

theorem Step.trans {b gd : Nat} {w w1 w2 : World} {V V1 V2 : Nat → Value} (h : Step b gd w V w1 V1) (k : Step b gd w1 V1 w2 V2) : Step b gd w V w2 V2 :=
  ⟨h.keep.trans' k.keep (fun i hi hf => by
      rcases h.foot' i hf with h1 | h1
      · exact h1
      · omega),
   fun i hi => by
      rcases k.foot' i hi with h1 | h1
      · exact h.foot' i h1
      · right; have := h.keep.size; omega⟩

theorem Step.refl (b gd : Nat) (w : World) (V : Nat → Value) : Step b gd w V w V := ⟨Keep.refl _ _, fun _ h => .inl h⟩

/-- A step that lays new memory alone. -/
theorem Step.below {b gd : Nat} {w w1 : World} {V : Nat → Value} (h : Below w.heap.size w w1) : Step b gd w V w1 V := ⟨keep_of_below h _, fun _ h => .inl h⟩

/-! ### The head behind countDown -/
section
variable {w : World} {b n gd wr lf : Nat} {V : Nat → Value} {dn : Bool}
theorem DHd.cd (h : DHd w b n gd V wr lf dn) : DHd (cdW b lf w) b n gd V wr (lf - 1) (if lf = 0 then dn else lf - 1 == 0) := by
  unfold cdW
  by_cases e : lf = 0
  · subst e; simpa using h
  · rw [if_neg e, if_neg e]
    exact (h.set19 (lf - 1)).set20 _
theorem cdW_other (b lf : Nat) (w : World) (k : Nat) (hk : k ≠ b) : (cdW b lf w).heap[k]? = w.heap[k]? := by
  unfold cdW
  by_cases e : lf = 0
  · rw [if_pos e]
  · rw [if_neg e, Below.heap_setCell _ _ _ _ hk, Below.heap_setCell _ _ _ _ hk]
theorem cdW_keep (b lf : Nat) (w : World) : Keep (fun k => k = b) w (cdW b lf w) := by
  unfold cdW
  by_cases e : lf = 0
  · rw [if_pos e]; exact Keep.refl _ _
  · rw [if_neg e]
    exact Keep.setCell (Keep.setCell (Keep.refl (fun k => k = b) w) (p := ⟨b, 19, none⟩) (fun _ => rfl) _) (p := ⟨b, 20, none⟩) (fun _ => rfl) _
end

/-! ### Write -/
def St.write (S : St) (o i : Nat) (s : ByteArray) : St :=
  { S with waits := upd S.waits o (S.waits o ++ [⟨S.writes + 1, i, s⟩]), writes := S.writes + 1, left := S.left - 1, down := if S.left = 0 then S.down else S.left - 1 == 0 }

theorem St.Ok.write {S : St} (h : S.Ok) {o i : Nat} {s : ByteArray} (hi : i < S.n) (hs : s.size = 256) (hw : S.writes < 1000000) : (S.write o i s).Ok := by
  refine ⟨h.n1, h.n2, hw, by have := h.l2; show S.left - 1 ≤ _; omega, fun o' ho' x hx => ?_, fun o' ho' => ?_⟩
  · show x.pos < S.n ∧ x.bytes.size = 256 ∧ 1 ≤ x.order ∧ x.order ≤ S.writes + 1
    have hx' : x ∈ upd S.waits o (S.waits o ++ [⟨S.writes + 1, i, s⟩]) o' := hx
    by_cases e : o' = o
    · subst e
      rw [upd_same, List.mem_append, List.mem_singleton] at hx'
      rcases hx' with hx' | rfl
      · have := h.each o' ho' x hx'; exact ⟨this.1, this.2.1, this.2.2.1, by omega⟩
      · exact ⟨hi, hs, by simp, by simp⟩
    · rw [upd_other _ _ e] at hx'
      have := h.each o' ho' x hx'; exact ⟨this.1, this.2.1, this.2.2.1, by omega⟩
  · show (upd S.waits o (S.waits o ++ [⟨S.writes + 1, i, s⟩]) o').length ≤ S.writes + 1
    have hm := h.many o' ho'
    by_cases e : o' = o
    · subst e; rw [upd_same]; simp; omega
    · rw [upd_other _ _ e]; omega

theorem disk_write {w : World} {b gd : Nat} {S : St} {V : Nat → Value} (h : Disk w b S gd V) (o i : Nat) (s : ByteArray) (ho : o < 17) (hi : i < S.n) (hs : s.size = 256) (hd : S.down = false) (hw : S.writes < 1000000) :
    Calls Try.prog 18 #[.pointer (some ⟨b, 0, none⟩), .int .i64 o, .int .i64 i, .string s] w fun e w' => e = .returned (.bool true) ∧ ∃ V', Disk w' b (S.write o i s) gd V' ∧ Step b gd w V w' V' := by
  have hbl := h.hd.lt
  have hgl := h.du.lt
  have hvb : (V o).ownBlock ≠ some b := fun e => (h.vb o ho b e).1 rfl
  refine (write_walk b S.n gd o i S.writes S.left (V o) (S.waits o) s w (by rw [← hd]; exact h.hd.c20) h.hd.c0 h.hd.c18 (h.hd.fr _) (by omega) h.hd.c19 (h.hd.fr _) (h.hd.fr _) h.ok.l2 (h.hd.cV o ho) (h.hd.fr _) (h.row o ho)
    (by have := h.ok.many o ho; omega) hvb ho hi (by rw [hs]; rfl) hs).mono ?_
  rintro e w' ⟨rfl, g, cap, w1, rfl, hown, hat, hk⟩
  refine ⟨rfl, upd V o (.slice (some ⟨g, 0, none⟩) ((S.waits o).length + 1) cap), ?_⟩
  generalize hnv : Value.slice (some ⟨g, 0, none⟩) ((S.waits o).length + 1) cap = nv at *
  have hnvb : nv.ownBlock = some g := by subst hnv; rfl
  have hsz : (w.setCell ⟨b, 18, none⟩ (.int .i64 ((S.writes + 1 : Nat) : Int))).heap.size = w.heap.size := by simp [World.setCell]
  -- blocks that are neither the head nor the owner's row
  have hother : ∀ k, k < w.heap.size → k ≠ b → (V o).ownBlock ≠ some k → (cdW b S.left (w1.setCell ⟨b, 1 + o, none⟩ nv)).heap[k]? = w.heap[k]? := fun k hk1 hk2 hk3 => by
    rw [cdW_other _ _ _ _ hk2, Below.heap_setCell _ _ _ _ hk2, hk.block k (by omega) hk3, Below.heap_setCell _ _ _ _ hk2]
  have hgb : g ≠ b := by
    rcases hat with e | e
    · exact (h.vb o ho g e).1
    · omega
  have hggd : g ≠ gd := by
    rcases hat with e | e
    · exact (h.vb o ho g e).2
    · omega
  have hhd1 : DHd w1 b S.n gd V (S.writes + 1) S.left S.down := (h.hd.set18 (S.writes + 1)).of_block (hk.block b (by omega) hvb)
  refine ⟨⟨?_, ?_, ?_, h.bg, ?_, ?_, h.ok.write hi hs hw⟩, ?_, ?_⟩
  · exact (hhd1.setV o ho nv).cd
  · exact h.du.of_block (hother gd hgl h.bg (fun e => (h.vb o ho gd e).2 rfl))
  · intro o' ho'
    by_cases e : o' = o
    · subst e
      show World.ownsRow _ 0 71 3 (upd V o' nv o') (upd S.waits o' (S.waits o' ++ [⟨S.writes + 1, i, s⟩]) o').length (wcells (upd S.waits o' (S.waits o' ++ [⟨S.writes + 1, i, s⟩]) o'))
      rw [upd_same, upd_same, List.length_append]
      refine owns_of_block hown (fun k hk' => ?_)
      have : k = g := by rw [hnvb] at hk'; exact (Option.some.inj hk').symm
      subst this
      rw [cdW_other _ _ _ _ hgb, Below.heap_setCell _ _ _ _ hgb]
    · show World.ownsRow _ 0 71 3 (upd V o nv o') (upd S.waits o (S.waits o ++ [⟨S.writes + 1, i, s⟩]) o').length (wcells (upd S.waits o (S.waits o ++ [⟨S.writes + 1, i, s⟩]) o'))
      rw [upd_other _ _ e, upd_other _ _ e]
      refine owns_of_block (h.row o' ho') (fun k hk' => hother k ((h.row o' ho').lt k hk').2 (h.vb o' ho' k hk').1 (h.vv o' o ho' ho e k hk'))
  · intro o' ho' k hk'
    by_cases e : o' = o
    · subst e
      rw [upd_same, hnvb] at hk'
      obtain rfl := Option.some.inj hk'
      exact ⟨hgb, hggd⟩
    · rw [upd_other _ _ e] at hk'
      exact h.vb o' ho' k hk'
  · intro o1 o2 h1 h2 hne k hk'
    by_cases e1 : o1 = o
    · subst e1
      rw [upd_same, hnvb] at hk'
      obtain rfl := Option.some.inj hk'
      rw [upd_other _ _ (fun e => hne e.symm)]
      rcases hat with e | e
      · exact h.vv o1 o2 h1 h2 hne g e
      · intro e'; have := ((h.row o2 h2).lt g e').2; omega
    · rw [upd_other _ _ e1] at hk'
      by_cases e2 : o2 = o
      · subst e2
        rw [upd_same, hnvb]
        intro e
        obtain rfl := Option.some.inj e
        rcases hat with e | e
        · exact h.vv o1 o2 h1 h2 hne g hk' e
        · have := ((h.row o1 h1).lt g hk').2; omega
      · rw [upd_other _ _ e2]; exact h.vv o1 o2 h1 h2 hne k hk'
  · refine ⟨?_, ?_, ?_, ?_, fun k hk1 hk2 => hother k hk1 (fun e => hk2 (.inl e)) (fun e => hk2 (.inr (.inr ⟨o, ho, e⟩)))⟩
    · rw [(cdW_keep _ _ _).os]; exact hk.os
    · rw [(cdW_keep _ _ _).tape]; exact hk.tape
    · rw [(cdW_keep _ _ _).output]; exact hk.output
    · have h1 := hk.size
      have h2 := (cdW_keep b S.left (w1.setCell ⟨b, 1 + o, none⟩ nv)).size
      have h3 : (w1.setCell ⟨b, 1 + o, none⟩ nv).heap.size = w1.heap.size := by simp [World.setCell]
      omega
  · intro k hk'
    rcases hk' with rfl | rfl | ⟨o', ho', e⟩
    · exact .inl (.inl rfl)
    · exact .inl (.inr (.inl rfl))
    · by_cases e1 : o' = o
      · subst e1
        rw [upd_same, hnvb] at e
        obtain rfl := Option.some.inj e
        rcases hat with e | e
        · exact .inl (.inr (.inr ⟨o', ho', e⟩))
        · exact .inr e
      · rw [upd_other _ _ e1] at e
        exact .inl (.inr (.inr ⟨o', ho', e⟩))

section
variable {w : World} {b gd : Nat} {S : St} {V : Nat → Value}

theorem kWrite (h : Hid (Disk w b S gd V)) (o i : Int) (s : ByteArray) (h0 : 0 ≤ o) (h1 : o < 17) (h2 : 0 ≤ i) (h3 : i < S.n) (hs : s.size = 256) (hd : S.down = false) (hw : S.writes < 1000000) :
    Calls Try.prog 18 #[.pointer (some ⟨b, 0, none⟩), .int .i64 o, .int .i64 i, .string s] w fun e w' => e = .returned (.bool true) ∧ ∃ V', Hid (Disk w' b (S.write o.toNat i.toNat s) gd V') ∧ Step b gd w V w' V' := by
  obtain ⟨o, rfl⟩ := Int.eq_ofNat_of_zero_le h0
  obtain ⟨i, rfl⟩ := Int.eq_ofNat_of_zero_le h2
  exact disk_write h.out o i s (by omega) (by omega) hs hd hw
end
end Go.Proofs.Ytaiebhkjkeadoaa
