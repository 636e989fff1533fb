/- Flush; a list of waiting writes that is dropped. -/
import Derived.Test.YtaiebhkjkeadoaaDiskMeth
namespace Go.Proofs.Ytaiebhkjkeadoaa
open Go.RowKit

set_option maxHeartbeats 400000 in
theorem flush_owner (b : Nat) (o : Int) (w : World) (c20 : w.cell? ⟨b, 20, none⟩ = some (.bool false)) (h : o < 0 ∨ 17 ≤ o) :
    Calls Try.prog 42 #[.pointer (some ⟨b, 0, none⟩), .int .i64 o] w fun e w' => e = .returned (.bool false) ∧ w = w' := by
  go_enter Try.func42, Try.ntmps42
  go_wp2_with (first | (go_at_call 26; refine (isOwner_no _ _ h).mono ?_; rintro e w' ⟨rfl, rfl⟩))
  go_ret
  exact ⟨rfl, rfl⟩

set_option maxHeartbeats 400000 in
theorem flush_down (b : Nat) (o : Int) (w : World) (c20 : w.cell? ⟨b, 20, none⟩ = some (.bool true)) :
    Calls Try.prog 42 #[.pointer (some ⟨b, 0, none⟩), .int .i64 o] w fun e w' => e = .returned (.bool false) ∧ w = w' := by
  go_enter Try.func42, Try.ntmps42
  go_wp2_with fail
  go_ret
  exact ⟨rfl, rfl⟩

set_option maxHeartbeats 400000 in
theorem flush_nil (b o : Nat) (w : World) (ho : o < 17) (c20 : w.cell? ⟨b, 20, none⟩ = some (.bool false)) (cV : w.cell? ⟨b, 1 + o, none⟩ = some (.slice none 0 0)) (fV : w.frozen? ⟨b, 1 + o, none⟩ = false) :
    Calls Try.prog 42 #[.pointer (some ⟨b, 0, none⟩), .int .i64 o] w fun e w' => e = .returned (.bool true) ∧ w' = w.setCell ⟨b, 1 + o, none⟩ (.slice none 0 0) := by
  go_enter Try.func42, Try.ntmps42
  go_wp2_with (first | (go_at_call 26; refine (isOwner_yes _ _ (by omega) (by omega)).mono ?_; rintro e w' ⟨rfl, rfl⟩) | (go_at_call 51; refine (settle_nil _ _).mono ?_; rintro e w' ⟨rfl, rfl⟩))
  go_ret
  exact ⟨rfl, rfl⟩

set_option maxHeartbeats 400000 in
theorem flush_row (b gd n o g cap : Nat) (dur : Nat → ByteArray) (L : List Wr) (w : World) (ho : o < 17) (c20 : w.cell? ⟨b, 20, none⟩ = some (.bool false))
    (cV : w.cell? ⟨b, 1 + o, none⟩ = some (.slice (some ⟨g, 0, none⟩) L.length cap)) (fV : w.frozen? ⟨b, 1 + o, none⟩ = false)
    (c0 : w.cell? ⟨b, 0, none⟩ = some (.slice (some ⟨gd, 0, none⟩) n n)) (hdu : Du w gd n dur)
    (hrow : w.ownsRow 0 71 3 (.slice (some ⟨g, 0, none⟩) L.length cap) L.length (wcells L)) (hlen : L.length ≤ 1000000) (hn : n ≤ 16384)
    (hL : ∀ x ∈ L, x.pos < n ∧ x.bytes.size = 256) (hbg : gd ≠ b) (hg : g ≠ gd) :
    Calls Try.prog 42 #[.pointer (some ⟨b, 0, none⟩), .int .i64 o] w fun e w' => e = .returned (.bool true) ∧ ∃ w1, w' = w1.setCell ⟨b, 1 + o, none⟩ (.slice none 0 0) ∧ Du w1 gd n (settleL dur L) ∧ Keep (fun k => k = gd) w w1 := by
  have hbl : b < w.heap.size := block_lt_of_cell c0
  have hset := dkhid (settle_row b gd n g cap dur L w c0 hdu hrow hlen hn hL hbg hg)
  have hkp : ∀ w1, Keep (fun k => k = gd) w w1 → w1.cell? ⟨b, 1 + o, none⟩ = some (.slice (some ⟨g, 0, none⟩) L.length cap) ∧ w1.frozen? ⟨b, 1 + o, none⟩ = false := fun w1 hk =>
    ⟨by rw [World.cell?_of_block (w := w) (hk.block b hbl (fun e => hbg e.symm))]; exact cV, by rw [World.frozen?_of_block (w := w) (hk.block b hbl (fun e => hbg e.symm))]; exact fV⟩
  have Hkp := dkhid hkp
  clear hkp hdu hrow hL
  go_enter Try.func42, Try.ntmps42
  go_wp2_with (first | (go_at_call 26; refine (isOwner_yes _ _ (by omega) (by omega)).mono ?_; rintro e w' ⟨rfl, rfl⟩) | (go_at_call 51; refine hset.out.mono ?_; rintro e w1 ⟨rfl, hd1, hk1⟩; obtain ⟨cV1, fV1⟩ := Hkp.out w1 hk1; replace hd1 := dkhid hd1))
  go_ret
  exact ⟨rfl, w1, rfl, hd1.out, hk1⟩

def St.flush (S : St) (o : Nat) : St := { S with dur := settleL S.dur (S.waits o), waits := upd S.waits o [] }

theorem St.Ok.drop {S : St} (h : S.Ok) (o : Nat) (dur : Nat → ByteArray) : St.Ok { S with dur := dur, waits := upd S.waits o [] } := by
  refine ⟨h.n1, h.n2, h.w2, h.l2, fun o' ho' x hx => ?_, fun o' ho' => ?_⟩
  · have hx' : x ∈ upd S.waits o [] o' := hx
    by_cases e : o' = o
    · subst e; rw [upd_same] at hx'; cases hx'
    · rw [upd_other _ _ e] at hx'; exact h.each o' ho' x hx'
  · show (upd S.waits o [] o').length ≤ S.writes
    by_cases e : o' = o
    · subst e; rw [upd_same]; exact Nat.zero_le _
    · rw [upd_other _ _ e]; exact h.many o' ho'

/-- A disk whose owner's list is struck, its sectors turned or not. -/
theorem Disk.dropped {w w1 : World} {b gd : Nat} {S : St} {V : Nat → Value} (h : Disk w b S gd V) (o : Nat) (ho : o < 17) (dur : Nat → ByteArray) (hd : Du w1 gd S.n dur) (hk : Keep (fun k => k = gd) w w1) :
    Disk (w1.setCell ⟨b, 1 + o, none⟩ (.slice none 0 0)) b { S with dur := dur, waits := upd S.waits o [] } gd (upd V o (.slice none 0 0)) ∧ Step b gd w V (w1.setCell ⟨b, 1 + o, none⟩ (.slice none 0 0)) (upd V o (.slice none 0 0)) := by
  have hbl := h.hd.lt
  have hk' : Keep (foot b gd V) w (w1.setCell ⟨b, 1 + o, none⟩ (.slice none 0 0)) := (hk.mono (fun i _ hi => .inr (.inl hi))).setCell (fun _ => .inl rfl) _
  refine ⟨⟨?_, hd.of_block (Below.heap_setCell _ _ _ _ h.bg), fun o' ho' => ?_, h.bg, fun o' ho' k hk' => ?_, fun o1 o2 h1 h2 hne k hk' => ?_, h.ok.drop o dur⟩, hk', fun k hf => ?_⟩
  · exact (h.hd.of_block (hk.block b hbl (fun e => h.bg e.symm))).setV o ho _
  · show World.ownsRow _ 0 71 3 (upd V o (.slice none 0 0) o') (upd S.waits o [] o').length (wcells (upd S.waits o [] o'))
    by_cases e : o' = o
    · subst e; rw [upd_same, upd_same]; exact World.ownsRow_nil _ _ _ _
    · rw [upd_other _ _ e, upd_other _ _ e]
      exact owns_of_block (h.row o' ho') (fun k hk' => by
        rw [Below.heap_setCell _ _ _ _ (h.vb o' ho' k hk').1]; exact hk.block k ((h.row o' ho').lt k hk').2 (h.vb o' ho' k hk').2)
  · by_cases e : o' = o
    · subst e; rw [upd_same] at hk'; cases hk'
    · rw [upd_other _ _ e] at hk'; exact h.vb o' ho' k hk'
  · by_cases e1 : o1 = o
    · subst e1; rw [upd_same] at hk'; cases hk'
    · rw [upd_other _ _ e1] at hk'
      by_cases e2 : o2 = o
      · subst e2; rw [upd_same]; intro e; cases e
      · rw [upd_other _ _ e2]; exact h.vv o1 o2 h1 h2 hne k hk'
  · rcases hf with rfl | rfl | ⟨o', ho', e⟩
    · exact .inl (.inl rfl)
    · exact .inl (.inr (.inl rfl))
    · by_cases e1 : o' = o
      · subst e1; rw [upd_same] at e; cases e
      · rw [upd_other _ _ e1] at e; exact .inl (.inr (.inr ⟨o', ho', e⟩))

theorem disk_flush {w : World} {b gd : Nat} {S : St} {V : Nat → Value} (h : Disk w b S gd V) (o : Nat) (ho : o < 17) (hd : S.down = false) :
    Calls Try.prog 42 #[.pointer (some ⟨b, 0, none⟩), .int .i64 o] w fun e w' => e = .returned (.bool true) ∧ ∃ V', Disk w' b (S.flush o) gd V' ∧ Step b gd w V w' V' := by
  have c20 : w.cell? ⟨b, 20, none⟩ = some (.bool false) := by rw [← hd]; exact h.hd.c20
  have hrow := h.row o ho
  rcases hrow.2 with ⟨hv, hn⟩ | ⟨g, cap, cur, hv, _, hg, _⟩
  · have hc := h.hd.cV o ho
    rw [hv] at hc
    refine (flush_nil b o w ho c20 hc (h.hd.fr _)).mono ?_
    rintro e w' ⟨rfl, rfl⟩
    have hL : S.waits o = [] := List.eq_nil_of_length_eq_zero hn
    have := h.dropped o ho (settleL S.dur (S.waits o)) (by rw [hL]; exact h.du) (Keep.refl _ w)
    exact ⟨rfl, _, this.1, this.2⟩
  · have hc := h.hd.cV o ho
    rw [hv] at hc hrow
    have hgg := h.vb o ho g (by rw [hv]; rfl)
    refine (flush_row b gd S.n o g cap S.dur (S.waits o) w ho c20 hc (h.hd.fr _) h.hd.c0 h.du hrow (by have := h.ok.many o ho; have := h.ok.w2; omega) h.ok.n2 (fun x hx => ⟨(h.ok.each o ho x hx).1, (h.ok.each o ho x hx).2.1⟩) h.bg hgg.2).mono ?_
    rintro e w' ⟨rfl, w1, rfl, hd1, hk1⟩
    have := h.dropped o ho (settleL S.dur (S.waits o)) hd1 hk1
    exact ⟨rfl, _, this.1, this.2⟩

section
variable {w : World} {b gd : Nat} {S : St} {V : Nat → Value}

theorem kFlush (h : Hid (Disk w b S gd V)) (o : Int) (h0 : 0 ≤ o) (h1 : o < 17) (hd : S.down = false) :
    Calls Try.prog 42 #[.pointer (some ⟨b, 0, none⟩), .int .i64 o] w fun e w' => e = .returned (.bool true) ∧ ∃ V', Hid (Disk w' b (S.flush o.toNat) gd V') ∧ Step b gd w V w' V' := by
  obtain ⟨o, rfl⟩ := Int.eq_ofNat_of_zero_le h0
  exact disk_flush h.out o (by omega) hd
end
end Go.Proofs.Ytaiebhkjkeadoaa
