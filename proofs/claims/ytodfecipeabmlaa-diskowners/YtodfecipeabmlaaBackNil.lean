/- Flush; Back that keeps nothing. -/
import Derived.Test.YtodfecipeabmlaaMeth
namespace Go.Proofs.Ytodfecipeabmlaa
open Go.RowKit

set_option maxHeartbeats 400000 in
theorem flush_owner (b : Nat) (o : Int) (w : World) (c20 : w.cell? ⟨b, 20, none⟩ = some (.bool false)) (h : o < 0 ∨ 17 ≤ o) :
    Calls Try.prog 10 #[.pointer (some ⟨b, 0, none⟩), .int .i64 o] w fun e w' => e = .returned (.bool false) ∧ w = w' := by
  go_enter Try.func10, Try.ntmps10
  go_wp2_with (first | (go_at_call 23; refine (isOwner_no _ _ h).mono ?_; rintro e w' ⟨rfl, rfl⟩))
  go_ret
  exact ⟨rfl, rfl⟩

set_option maxHeartbeats 400000 in
theorem flush_down (b : Nat) (o : Int) (w : World) (c20 : w.cell? ⟨b, 20, none⟩ = some (.bool true)) :
    Calls Try.prog 10 #[.pointer (some ⟨b, 0, none⟩), .int .i64 o] w fun e w' => e = .returned (.bool false) ∧ w = w' := by
  go_enter Try.func10, Try.ntmps10
  go_wp2_with fail
  go_ret
  exact ⟨rfl, rfl⟩

set_option maxHeartbeats 400000 in
theorem flush_nil (b o : Nat) (w : World) (ho : o < 17) (c20 : w.cell? ⟨b, 20, none⟩ = some (.bool false)) (cV : w.cell? ⟨b, 1 + o, none⟩ = some (.slice none 0 0)) (fV : w.frozen? ⟨b, 1 + o, none⟩ = false) :
    Calls Try.prog 10 #[.pointer (some ⟨b, 0, none⟩), .int .i64 o] w fun e w' => e = .returned (.bool true) ∧ w' = w.setCell ⟨b, 1 + o, none⟩ (.slice none 0 0) := by
  go_enter Try.func10, Try.ntmps10
  go_wp2_with (first | (go_at_call 23; refine (isOwner_yes _ _ (by omega) (by omega)).mono ?_; rintro e w' ⟨rfl, rfl⟩) | (go_at_call 24; refine (settle_nil _ _).mono ?_; rintro e w' ⟨rfl, rfl⟩))
  go_ret
  exact ⟨rfl, rfl⟩

set_option maxHeartbeats 400000 in
theorem flush_row (b gd n o g cap : Nat) (dur : Nat → ByteArray) (L : List Wr) (w : World) (ho : o < 17) (c20 : w.cell? ⟨b, 20, none⟩ = some (.bool false))
    (cV : w.cell? ⟨b, 1 + o, none⟩ = some (.slice (some ⟨g, 0, none⟩) L.length cap)) (fV : w.frozen? ⟨b, 1 + o, none⟩ = false)
    (c0 : w.cell? ⟨b, 0, none⟩ = some (.slice (some ⟨gd, 0, none⟩) n n)) (hdu : Du w gd n dur)
    (hrow : w.ownsRow 0 50 3 (.slice (some ⟨g, 0, none⟩) L.length cap) L.length (wcells L)) (hlen : L.length ≤ 1000000) (hn : n ≤ 16384)
    (hL : ∀ x ∈ L, x.pos < n ∧ x.bytes.size = 256) (hbg : gd ≠ b) (hg : g ≠ gd) :
    Calls Try.prog 10 #[.pointer (some ⟨b, 0, none⟩), .int .i64 o] w fun e w' => e = .returned (.bool true) ∧ ∃ w1, w' = w1.setCell ⟨b, 1 + o, none⟩ (.slice none 0 0) ∧ Du w1 gd n (settleL dur L) ∧ Keep (fun k => k = gd) w w1 := by
  have hbl : b < w.heap.size := block_lt_of_cell c0
  have hset := hid (settle_row b gd n g cap dur L w c0 hdu hrow hlen hn hL hbg hg)
  have hkp : ∀ w1, Keep (fun k => k = gd) w w1 → w1.cell? ⟨b, 1 + o, none⟩ = some (.slice (some ⟨g, 0, none⟩) L.length cap) ∧ w1.frozen? ⟨b, 1 + o, none⟩ = false := fun w1 hk =>
    ⟨by rw [World.cell?_of_block (w := w) (hk.block b hbl (fun e => hbg e.symm))]; exact cV, by rw [World.frozen?_of_block (w := w) (hk.block b hbl (fun e => hbg e.symm))]; exact fV⟩
  have Hkp := hid hkp
  clear hkp hdu hrow hL
  go_enter Try.func10, Try.ntmps10
  go_wp2_with (first | (go_at_call 23; refine (isOwner_yes _ _ (by omega) (by omega)).mono ?_; rintro e w' ⟨rfl, rfl⟩) | (go_at_call 24; refine hset.out.mono ?_; rintro e w1 ⟨rfl, hd1, hk1⟩; obtain ⟨cV1, fV1⟩ := Hkp.out w1 hk1; replace hd1 := hid hd1))
  go_ret
  exact ⟨rfl, w1, rfl, hd1.out, hk1⟩

set_option maxHeartbeats 400000 in
theorem insertion_none (v f : Value) (w : World) :
    Calls Try.prog 37 #[v, .int .i64 0, .int .i64 0, f] w fun e w' => e = .returned (.tuple #[]) ∧ w = w' := by
  go_enter Try.func37, Try.ntmps37
  go_wp2
  refine wp_loop_rounds 1 ?_
  rw [rounds_succ]
  go_wp2
  go_end0
  exact ⟨rfl, rfl⟩

set_option maxHeartbeats 400000 in
theorem pdq_none (v f : Value) (w : World) :
    Calls Try.prog 34 #[v, .int .i64 0, .int .i64 0, .int .i64 0, f] w fun e w' => e = .returned (.tuple #[]) ∧ w = w' := by
  go_enter Try.func34, Try.ntmps34
  go_wp2
  refine wp_loop_rounds 1 ?_
  rw [rounds_succ]
  go_wp2_with (go_at_call 37; refine (insertion_none _ _ _).mono ?_; rintro e w' ⟨rfl, rfl⟩)
  exact bodyPost_ret (v := .tuple #[]) (by simp [results, Try.results34, go_sem]) rfl ⟨rfl, rfl⟩

set_option maxRecDepth 100000 in
set_option maxHeartbeats 400000 in
theorem len_zero (w : World) : Calls Try.prog 35 #[.int .u64 0] w fun e w' => e = .returned (.int .i64 0) ∧ w = w' := by
  go_enter Try.func35, Try.ntmps35
  go_wp2
  go_ret
  refine ⟨ret_int ?_, rfl⟩
  have e := Go.IntWalk.wrap64_in 0 (by omega)
  show wrap64 (wrap64 0) = 0
  rw [e, e]

set_option maxHeartbeats 400000 in
theorem sort_nil (f : Value) (w : World) :
    Calls Try.prog 29 #[.slice none 0 0, f] w fun e w' => e = .returned (.tuple #[]) ∧ w = w' := by
  go_enter Try.func29, Try.ntmps29
  go_wp2_with (first | (go_at_call 35; refine (len_zero _).mono ?_; rintro e w' ⟨rfl, rfl⟩) | (go_at_call 34; refine (pdq_none _ _ _).mono ?_; rintro e w' ⟨rfl, rfl⟩))
  go_end0
  exact ⟨rfl, rfl⟩

/-- The seventeen empty lists. -/
def nils : List Value := List.replicate 17 (.slice none 0 0)

theorem Try.size44 : (Try.prog.info? 44).map (·.size) = some 17 := by kernel_rfl

set_option maxHeartbeats 400000 in
theorem back_nil (b lf : Nat) (dn : Bool) (w : World) (ht : w.there b 1 17) (c19 : (w.setCells b 1 nils).cell? ⟨b, 19, none⟩ = some (.int .i64 lf)) (f19 : (w.setCells b 1 nils).frozen? ⟨b, 19, none⟩ = false)
    (c20 : (w.setCells b 1 nils).cell? ⟨b, 20, none⟩ = some (.bool dn)) (f20 : (w.setCells b 1 nils).frozen? ⟨b, 20, none⟩ = false) :
    Calls Try.prog 14 #[.pointer (some ⟨b, 0, none⟩), .slice none 0 0] w fun e w' => e = .returned (.tuple #[]) ∧ w' = ((w.setCells b 1 nils).setCell ⟨b, 19, none⟩ (.int .i64 (0 : Nat))).setCell ⟨b, 20, none⟩ (.bool false) := by
  have hmin : min (0 : Int) 17 = 0 := by decide
  obtain ⟨W, hW⟩ : ∃ W, W = w.setCells b 1 nils := ⟨_, rfl⟩
  rw [← hW] at c19 f19 c20 f20 ⊢
  have HW := hid hW
  clear hW
  obtain ⟨N, hN⟩ : ∃ N : Array Value, N = nils.toArray := ⟨_, rfl⟩
  have hlit : Hid (Value.agg #[.slice none 0 0, .slice none 0 0, .slice none 0 0, .slice none 0 0, .slice none 0 0, .slice none 0 0, .slice none 0 0, .slice none 0 0, .slice none 0 0, .slice none 0 0, .slice none 0 0, .slice none 0 0, .slice none 0 0, .slice none 0 0, .slice none 0 0, .slice none 0 0, .slice none 0 0] = Value.agg N) := by subst hN; rfl
  have hs1 : w.there b 1 N.size := by subst hN; exact ht
  have hs2 : (Try.prog.info? 44).map (·.size) = some N.size := by subst hN; exact Try.size44
  have hs3 : N.all (·.oneCell') = true := by subst hN; exact all_oneCell_toArray (cs := nils) (fun v hv => by rw [List.eq_of_mem_replicate hv]; rfl)
  have hs4 : Hid (w.setCells b 1 N.toList = W) := by subst hN; exact HW.out.symm
  clear hN
  go_enter Try.func14, Try.ntmps14
  go_wp2
  refine wp_loop_rounds 1 ?_
  rw [rounds_succ]
  go_wp2_with (first | (go_at_call 29; refine (sort_nil _ _).mono ?_; rintro e w' ⟨rfl, rfl⟩) | (go_at_call 24; refine (settle_nil _ _).mono ?_; rintro e w' ⟨rfl, rfl⟩) | (refine wpList_store_mid rfl 44 (.tmp 36) (.tmp 34) rfl b 1 N rfl hlit.out hs1 hs2 hs3 ?_; rw [hs4.out]))
  go_end0
  exact ⟨rfl, rfl⟩

/-! ### The same, of a disk -/

theorem nils_length : nils.length = 17 := rfl
theorem nils_get (j : Nat) (h : j < 17) : nils[j]? = some (.slice none 0 0) := by
  unfold nils; rw [List.getElem?_replicate, if_pos h]

theorem Hd.there {w : World} {b n gd wr lf : Nat} {V : Nat → Value} {dn : Bool} (h : Hd w b n gd V wr lf dn) : w.there b 1 17 := fun j hj => by
  obtain ⟨C, hb, hs, _⟩ := h
  refine ⟨?_, frozen_of_row w b _ C 46 hb⟩
  rw [cell_of_row w b _ C 46 _ hb]
  have : 1 + j < C.size := by omega
  simp [this]

theorem Hd.setNils {w : World} {b n gd wr lf : Nat} {V : Nat → Value} {dn : Bool} (h : Hd w b n gd V wr lf dn) : Hd (w.setCells b 1 nils) b n gd (fun _ => .slice none 0 0) wr lf dn := by
  have ht := h.there
  have c0 := h.c0
  have c18 := h.c18
  have c19 := h.c19
  have c20 := h.c20
  obtain ⟨C, hb, hs, _⟩ := h
  obtain ⟨C', hb', hs'⟩ := setCells_row b 46 nils 1 w C hb
  have hout : ∀ k, (k < 1 ∨ 18 ≤ k) → (w.setCells b 1 nils).cell? ⟨b, k, none⟩ = w.cell? ⟨b, k, none⟩ := fun k hk => World.cell?_setCells_out b nils 1 w ⟨b, k, none⟩ (fun _ _ => by rw [nils_length]; exact hk)
  have hrow : ∀ k, (w.setCells b 1 nils).cell? ⟨b, k, none⟩ = C'[k]? := fun k => cell_of_row _ b k C' 46 _ hb'
  refine ⟨C', hb', by omega, ?_, fun o ho => ?_, ?_, ?_, ?_⟩
  · rw [← hrow, hout 0 (by omega)]; exact c0
  · have := World.cell?_setCells_in b nils 1 w (fun j hj => (ht j hj).1) o ho
    rw [← hrow, this]
    have e := nils_get o ho
    rw [List.getElem?_eq_getElem (by rw [nils_length]; exact ho)] at e
    exact e
  · rw [← hrow, hout 18 (by omega)]; exact c18
  · rw [← hrow, hout 19 (by omega)]; exact c19
  · rw [← hrow, hout 20 (by omega)]; exact c20

/-- Back that keeps nothing. -/
def St.lose (S : St) : St := { S with waits := fun _ => [], left := 0, down := false }

theorem St.Ok.lose {S : St} (h : S.Ok) : S.lose.Ok := ⟨h.n1, h.n2, h.w2, Nat.zero_le _, fun _ _ _ hx => (by cases hx), fun _ _ => Nat.zero_le _⟩

theorem disk_lose {w : World} {b gd : Nat} {S : St} {V : Nat → Value} (h : Disk w b S gd V) :
    Calls Try.prog 14 #[.pointer (some ⟨b, 0, none⟩), .slice none 0 0] w fun e w' => e = .returned (.tuple #[]) ∧ ∃ V', Disk w' b S.lose gd V' ∧ Step b gd w V w' V' := by
  have hn := h.hd.setNils
  refine (back_nil b S.left S.down w h.hd.there hn.c19 (hn.fr _) hn.c20 (hn.fr _)).mono ?_
  rintro e w' ⟨rfl, rfl⟩
  refine ⟨rfl, fun _ => .slice none 0 0, ?_⟩
  have hk : Keep (fun k => k = b) w (((w.setCells b 1 nils).setCell ⟨b, 19, none⟩ (.int .i64 (0 : Nat))).setCell ⟨b, 20, none⟩ (.bool false)) :=
    Keep.setCell (Keep.setCell (setCells_keep b nils 1 w) (p := ⟨b, 19, none⟩) (fun _ => rfl) _) (p := ⟨b, 20, none⟩) (fun _ => rfl) _
  refine ⟨⟨(hn.set19 0).set20 false, h.du.of_block (hk.block gd h.du.lt h.bg), fun o _ => World.ownsRow_nil _ _ _ _, h.bg, fun o _ g hg => (by cases hg), fun o o' _ _ _ g hg => (by cases hg), h.ok.lose⟩, hk.mono (fun i _ hi => .inl hi), fun k hf => ?_⟩
  rcases hf with rfl | rfl | ⟨o, _, e⟩
  · exact .inl (.inl rfl)
  · exact .inl (.inr (.inl rfl))
  · cases e

/-! ### Flush, Forget, Cut, New -/
def St.flush (S : St) (o : Nat) : St := { S with dur := settleL S.dur (S.waits o), waits := upd S.waits o [] }
def St.forget (S : St) (o : Nat) : St := { S with waits := upd S.waits o [] }
def St.cut (S : St) (n : Nat) : St := { S with left := n, down := if n = 0 then true else S.down }

theorem St.Ok.drop {S : St} (h : S.Ok) (o : Nat) (dur : Nat → ByteArray) : St.Ok { S with dur := dur, waits := upd S.waits o [] } := by
  refine ⟨h.n1, h.n2, h.w2, h.l2, fun o' ho' x hx => ?_, fun o' ho' => ?_⟩
  · have hx' : x ∈ upd S.waits o [] o' := hx
    by_cases e : o' = o
    · subst e; rw [upd_same] at hx'; cases hx'
    · rw [upd_other _ _ e] at hx'; exact h.each o' ho' x hx'
  · show (upd S.waits o [] o').length ≤ S.writes
    by_cases e : o' = o
    · subst e; rw [upd_same]; exact Nat.zero_le _
    · rw [upd_other _ _ e]; exact h.many o' ho'

/-- A disk whose owner's list is struck, its sectors turned or not. -/
theorem Disk.dropped {w w1 : World} {b gd : Nat} {S : St} {V : Nat → Value} (h : Disk w b S gd V) (o : Nat) (ho : o < 17) (dur : Nat → ByteArray) (hd : Du w1 gd S.n dur) (hk : Keep (fun k => k = gd) w w1) :
    Disk (w1.setCell ⟨b, 1 + o, none⟩ (.slice none 0 0)) b { S with dur := dur, waits := upd S.waits o [] } gd (upd V o (.slice none 0 0)) ∧ Step b gd w V (w1.setCell ⟨b, 1 + o, none⟩ (.slice none 0 0)) (upd V o (.slice none 0 0)) := by
  have hbl := h.hd.lt
  have hk' : Keep (foot b gd V) w (w1.setCell ⟨b, 1 + o, none⟩ (.slice none 0 0)) := (hk.mono (fun i _ hi => .inr (.inl hi))).setCell (fun _ => .inl rfl) _
  refine ⟨⟨?_, hd.of_block (Below.heap_setCell _ _ _ _ h.bg), fun o' ho' => ?_, h.bg, fun o' ho' k hk' => ?_, fun o1 o2 h1 h2 hne k hk' => ?_, h.ok.drop o dur⟩, hk', fun k hf => ?_⟩
  · exact (h.hd.of_block (hk.block b hbl (fun e => h.bg e.symm))).setV o ho _
  · show World.ownsRow _ 0 50 3 (upd V o (.slice none 0 0) o') (upd S.waits o [] o').length (wcells (upd S.waits o [] o'))
    by_cases e : o' = o
    · subst e; rw [upd_same, upd_same]; exact World.ownsRow_nil _ _ _ _
    · rw [upd_other _ _ e, upd_other _ _ e]
      exact owns_of_block (h.row o' ho') (fun k hk' => by
        rw [Below.heap_setCell _ _ _ _ (h.vb o' ho' k hk').1]; exact hk.block k ((h.row o' ho').lt k hk').2 (h.vb o' ho' k hk').2)
  · by_cases e : o' = o
    · subst e; rw [upd_same] at hk'; cases hk'
    · rw [upd_other _ _ e] at hk'; exact h.vb o' ho' k hk'
  · by_cases e1 : o1 = o
    · subst e1; rw [upd_same] at hk'; cases hk'
    · rw [upd_other _ _ e1] at hk'
      by_cases e2 : o2 = o
      · subst e2; rw [upd_same]; intro e; cases e
      · rw [upd_other _ _ e2]; exact h.vv o1 o2 h1 h2 hne k hk'
  · rcases hf with rfl | rfl | ⟨o', ho', e⟩
    · exact .inl (.inl rfl)
    · exact .inl (.inr (.inl rfl))
    · by_cases e1 : o' = o
      · subst e1; rw [upd_same] at e; cases e
      · rw [upd_other _ _ e1] at e; exact .inl (.inr (.inr ⟨o', ho', e⟩))

theorem disk_flush {w : World} {b gd : Nat} {S : St} {V : Nat → Value} (h : Disk w b S gd V) (o : Nat) (ho : o < 17) (hd : S.down = false) :
    Calls Try.prog 10 #[.pointer (some ⟨b, 0, none⟩), .int .i64 o] w fun e w' => e = .returned (.bool true) ∧ ∃ V', Disk w' b (S.flush o) gd V' ∧ Step b gd w V w' V' := by
  have c20 : w.cell? ⟨b, 20, none⟩ = some (.bool false) := by rw [← hd]; exact h.hd.c20
  have hrow := h.row o ho
  rcases hrow.2 with ⟨hv, hn⟩ | ⟨g, cap, cur, hv, _, hg, _⟩
  · have hc := h.hd.cV o ho
    rw [hv] at hc
    refine (flush_nil b o w ho c20 hc (h.hd.fr _)).mono ?_
    rintro e w' ⟨rfl, rfl⟩
    have hL : S.waits o = [] := List.eq_nil_of_length_eq_zero hn
    have := h.dropped o ho (settleL S.dur (S.waits o)) (by rw [hL]; exact h.du) (Keep.refl _ w)
    exact ⟨rfl, _, this.1, this.2⟩
  · have hc := h.hd.cV o ho
    rw [hv] at hc hrow
    have hgg := h.vb o ho g (by rw [hv]; rfl)
    refine (flush_row b gd S.n o g cap S.dur (S.waits o) w ho c20 hc (h.hd.fr _) h.hd.c0 h.du hrow (by have := h.ok.many o ho; have := h.ok.w2; omega) h.ok.n2 (fun x hx => ⟨(h.ok.each o ho x hx).1, (h.ok.each o ho x hx).2.1⟩) h.bg hgg.2).mono ?_
    rintro e w' ⟨rfl, w1, rfl, hd1, hk1⟩
    have := h.dropped o ho (settleL S.dur (S.waits o)) hd1 hk1
    exact ⟨rfl, _, this.1, this.2⟩

theorem disk_forget {w : World} {b gd : Nat} {S : St} {V : Nat → Value} (h : Disk w b S gd V) (o : Nat) (ho : o < 17) :
    Calls Try.prog 21 #[.pointer (some ⟨b, 0, none⟩), .int .i64 o] w fun e w' => e = .returned (.tuple #[]) ∧ ∃ V', Disk w' b (S.forget o) gd V' ∧ Step b gd w V w' V' := by
  refine (forget_t b o _ w ho (h.hd.cV o ho) (h.hd.fr _)).mono ?_
  rintro e w' ⟨rfl, rfl⟩
  have := h.dropped o ho S.dur h.du (Keep.refl _ w)
  exact ⟨rfl, _, this.1, this.2⟩

/-- A disk whose head alone is turned. -/
theorem Disk.headed {w w1 : World} {b gd : Nat} {S S' : St} {V : Nat → Value} (h : Disk w b S gd V) (hn : S'.n = S.n) (hdur : S'.dur = S.dur) (hw : S'.waits = S.waits) (hok : S'.Ok)
    (hh : Hd w1 b S'.n gd V S'.writes S'.left S'.down) (hk : Keep (fun k => k = b) w w1) : Disk w1 b S' gd V ∧ Step b gd w V w1 V := by
  refine ⟨⟨hh, ?_, fun o ho => ?_, h.bg, h.vb, h.vv, hok⟩, hk.mono (fun i _ hi => .inl hi), fun k hf => .inl hf⟩
  · rw [hn, hdur]; exact h.du.of_block (hk.block gd h.du.lt h.bg)
  · rw [hw]; exact owns_of_block (h.row o ho) (fun g hg => hk.block g ((h.row o ho).lt g hg).2 (h.vb o ho g hg).1)

theorem disk_cut {w : World} {b gd : Nat} {S : St} {V : Nat → Value} (h : Disk w b S gd V) (n : Nat) (hn : n ≤ 1000000) :
    Calls Try.prog 17 #[.pointer (some ⟨b, 0, none⟩), .int .i64 n] w fun e w' => e = .returned (.tuple #[]) ∧ Disk w' b (S.cut n) gd V ∧ Step b gd w V w' V := by
  have hok : (S.cut n).Ok := ⟨h.ok.n1, h.ok.n2, h.ok.w2, by show n ≤ _; omega, h.ok.each, h.ok.many⟩
  by_cases e : n = 0
  · subst e
    refine (cut_zero b S.left S.down w h.hd.c19 (h.hd.fr _) h.hd.c20 (h.hd.fr _)).mono ?_
    rintro e w' ⟨rfl, rfl⟩
    exact ⟨rfl, h.headed (S' := S.cut 0) rfl rfl rfl hok ((h.hd.set19 0).set20 true) (Keep.setCell (Keep.setCell (Keep.refl (fun k => k = b) w) (p := ⟨b, 19, none⟩) (fun _ => rfl) _) (p := ⟨b, 20, none⟩) (fun _ => rfl) _)⟩
  · refine (cut_pos b n S.left w (by omega) hn h.hd.c19 (h.hd.fr _)).mono ?_
    rintro e' w' ⟨rfl, rfl⟩
    have hh : Hd (w.setCell ⟨b, 19, none⟩ (.int .i64 n)) b (S.cut n).n gd V (S.cut n).writes (S.cut n).left (S.cut n).down := by
      have := h.hd.set19 n
      show Hd _ b S.n gd V S.writes n (if n = 0 then true else S.down)
      rw [if_neg e]; exact this
    exact ⟨rfl, h.headed (S' := S.cut n) rfl rfl rfl hok hh (Keep.setCell (Keep.refl (fun k => k = b) w) (p := ⟨b, 19, none⟩) (fun _ => rfl) _)⟩

/-- A new disk. -/
def St.new (n : Nat) : St := ⟨n, fun _ => zbytes 256, fun _ => [], 0, 0, false⟩

theorem zbytes_get (n j : Nat) (h : j < (zbytes n).size) : (zbytes n)[j] = 0 := by
  have e : (zbytes n)[j] = (zbytes n).data[j]'h := rfl
  rw [e]; simp [zbytes]

theorem disk_made (n : Nat) (w : World) (hn : 1 ≤ n) (hn2 : n ≤ 16384) :
    Disk ((w.alloc (.cells (zcells (n * 256)) 55)).alloc (.cells (newHead w.heap.size n) 46)) (w.heap.size + 1) (St.new n) w.heap.size (fun _ => .slice none 0 0) := by
  refine ⟨⟨newHead w.heap.size n, heap_alloc2_new _ _ _, rfl, rfl, fun o ho => ?_, rfl, rfl, rfl⟩, ⟨zcells (n * 256), heap_alloc2_old _ _ _, (by show (zcells (n * 256)).size = n * 256; simp [zcells]), fun i hi => ⟨zbytes_size 256, fun j hj => ?_⟩⟩, fun o _ => World.ownsRow_nil _ _ _ _, by omega,
    fun o _ g hg => (by cases hg), fun o o' _ _ _ g hg => (by cases hg), ⟨hn, hn2, Nat.zero_le _, Nat.zero_le _, fun _ _ _ hx => (by cases hx), fun _ _ => Nat.zero_le _⟩⟩
  · rcases (show o = 0 ∨ o = 1 ∨ o = 2 ∨ o = 3 ∨ o = 4 ∨ o = 5 ∨ o = 6 ∨ o = 7 ∨ o = 8 ∨ o = 9 ∨ o = 10 ∨ o = 11 ∨ o = 12 ∨ o = 13 ∨ o = 14 ∨ o = 15 ∨ o = 16 by omega) with rfl | rfl | rfl | rfl | rfl | rfl | rfl | rfl | rfl | rfl | rfl | rfl | rfl | rfl | rfl | rfl | rfl <;> rfl
  · have hi' : i < n := hi
    dsimp only [St.new] at hj ⊢
    rw [zbytes_get 256 j hj]
    rw [zbytes_size] at hj
    have : i * 256 + j < n * 256 := by omega
    simp only [zcells, List.getElem?_toArray, List.getElem?_replicate, if_pos this]
    rfl

theorem disk_new (n : Nat) (w : World) (hn : 1 ≤ n) (hn2 : n ≤ 16384) :
    Calls Try.prog 8 #[.int .i64 n] w fun e w' => ∃ b gd V, e = .returned (.pointer (some ⟨b, 0, none⟩)) ∧ Disk w' b (St.new n) gd V ∧ Below w.heap.size w w' ∧ ∀ k, foot b gd V k → w.heap.size ≤ k := by
  refine (new_t n w hn hn2).mono ?_
  rintro e w' ⟨rfl, rfl⟩
  refine ⟨_, _, _, rfl, disk_made n w hn hn2, ((Below.refl _ w).alloc (Nat.le_refl _) _).alloc (by simp) _, fun k hf => ?_⟩
  rcases hf with rfl | rfl | ⟨o, _, e⟩
  · omega
  · omega
  · cases e

theorem disk_new_small (n : Int) (w : World) (hn : n ≤ 0) :
    Calls Try.prog 8 #[.int .i64 n] w fun e w' => ∃ b gd V, e = .returned (.pointer (some ⟨b, 0, none⟩)) ∧ Disk w' b (St.new 1) gd V ∧ Below w.heap.size w w' ∧ ∀ k, foot b gd V k → w.heap.size ≤ k := by
  refine (new_small n w hn).mono ?_
  rintro e w' ⟨rfl, rfl⟩
  refine ⟨_, _, _, rfl, disk_made 1 w (by omega) (by omega), ((Below.refl _ w).alloc (Nat.le_refl _) _).alloc (by simp) _, fun k hf => ?_⟩
  rcases hf with rfl | rfl | ⟨o, _, e⟩
  · omega
  · omega
  · cases e

end Go.Proofs.Ytodfecipeabmlaa
