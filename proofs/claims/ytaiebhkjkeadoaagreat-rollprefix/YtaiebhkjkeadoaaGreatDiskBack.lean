/- Back of nothing kept. -/
import Derived.Test.YtaiebhkjkeadoaaGreatDiskHeaded
namespace Go.Proofs.YtaiebhkjkeadoaaGreat
open Go.RowKit

set_option maxHeartbeats 400000 in
theorem insertion_none (v f : Value) (w : World) :
    Calls Tryz.prog 50 #[v, .int .i64 0, .int .i64 0, f] w fun e w' => e = .returned (.tuple #[]) ∧ w = w' := by
  go_enter Tryz.func50, Tryz.ntmps50
  go_wp2
  refine wp_loop_rounds 1 ?_
  rw [rounds_succ]
  go_wp2
  go_end0
  exact ⟨rfl, rfl⟩

set_option maxHeartbeats 400000 in
theorem pdq_none (v f : Value) (w : World) :
    Calls Tryz.prog 40 #[v, .int .i64 0, .int .i64 0, .int .i64 0, f] w fun e w' => e = .returned (.tuple #[]) ∧ w = w' := by
  go_enter Tryz.func40, Tryz.ntmps40
  go_wp2
  refine wp_loop_rounds 1 ?_
  rw [rounds_succ]
  go_wp2_with (go_at_call 50; refine (insertion_none _ _ _).mono ?_; rintro e w' ⟨rfl, rfl⟩)
  exact bodyPost_ret (v := .tuple #[]) (by simp [results, Tryz.results40, go_sem]) rfl ⟨rfl, rfl⟩

set_option maxRecDepth 100000 in
set_option maxHeartbeats 400000 in
theorem len_zero (w : World) : Calls Tryz.prog 41 #[.int .u64 0] w fun e w' => e = .returned (.int .i64 0) ∧ w = w' := by
  go_enter Tryz.func41, Tryz.ntmps41
  go_wp2
  go_ret
  refine ⟨ret_int ?_, rfl⟩
  have e := Go.IntWalk.wrap64_in 0 (by omega)
  show wrap64 (wrap64 0) = 0
  rw [e, e]

set_option maxHeartbeats 400000 in
theorem sort_nil (f : Value) (w : World) :
    Calls Tryz.prog 29 #[.slice none 0 0, f] w fun e w' => e = .returned (.tuple #[]) ∧ w = w' := by
  go_enter Tryz.func29, Tryz.ntmps29
  go_wp2_with (first | (go_at_call 41; refine (len_zero _).mono ?_; rintro e w' ⟨rfl, rfl⟩) | (go_at_call 40; refine (pdq_none _ _ _).mono ?_; rintro e w' ⟨rfl, rfl⟩))
  go_end0
  exact ⟨rfl, rfl⟩

/-- The seventeen empty lists. -/
def nils : List Value := List.replicate 17 (.slice none 0 0)

theorem Tryz.dkSize17 : (Tryz.prog.info? 58).map (·.size) = some 17 := by kernel_rfl

set_option maxHeartbeats 400000 in
theorem back_nil (b lf : Nat) (dn : Bool) (w : World) (ht : w.there b 1 17) (c19 : (w.setCells b 1 nils).cell? ⟨b, 19, none⟩ = some (.int .i64 lf)) (f19 : (w.setCells b 1 nils).frozen? ⟨b, 19, none⟩ = false)
    (c20 : (w.setCells b 1 nils).cell? ⟨b, 20, none⟩ = some (.bool dn)) (f20 : (w.setCells b 1 nils).frozen? ⟨b, 20, none⟩ = false) :
    Calls Tryz.prog 11 #[.pointer (some ⟨b, 0, none⟩), .slice none 0 0] w fun e w' => e = .returned (.tuple #[]) ∧ w' = ((w.setCells b 1 nils).setCell ⟨b, 19, none⟩ (.int .i64 (0 : Nat))).setCell ⟨b, 20, none⟩ (.bool false) := by
  have hmin : min (0 : Int) 17 = 0 := by decide
  obtain ⟨W, hW⟩ : ∃ W, W = w.setCells b 1 nils := ⟨_, rfl⟩
  rw [← hW] at c19 f19 c20 f20 ⊢
  have HW := dkhid hW
  clear hW
  obtain ⟨N, hN⟩ : ∃ N : Array Value, N = nils.toArray := ⟨_, rfl⟩
  have hlit : Hid (Value.agg #[.slice none 0 0, .slice none 0 0, .slice none 0 0, .slice none 0 0, .slice none 0 0, .slice none 0 0, .slice none 0 0, .slice none 0 0, .slice none 0 0, .slice none 0 0, .slice none 0 0, .slice none 0 0, .slice none 0 0, .slice none 0 0, .slice none 0 0, .slice none 0 0, .slice none 0 0] = Value.agg N) := by subst hN; rfl
  have hs1 : w.there b 1 N.size := by subst hN; exact ht
  have hs2 : (Tryz.prog.info? 58).map (·.size) = some N.size := by subst hN; exact Tryz.dkSize17
  have hs3 : N.all (·.oneCell') = true := by subst hN; exact all_oneCell_toArray (cs := nils) (fun v hv => by rw [List.eq_of_mem_replicate hv]; rfl)
  have hs4 : Hid (w.setCells b 1 N.toList = W) := by subst hN; exact HW.out.symm
  clear hN
  go_enter Tryz.func11, Tryz.ntmps11
  go_wp2
  refine wp_loop_rounds 1 ?_
  rw [rounds_succ]
  go_wp2_with (first | (go_at_call 29; refine (sort_nil _ _).mono ?_; rintro e w' ⟨rfl, rfl⟩) | (go_at_call 27; refine (settle_nil _ _).mono ?_; rintro e w' ⟨rfl, rfl⟩) | (refine wpList_store_mid rfl 58 (.tmp 36) (.tmp 34) rfl b 1 N rfl hlit.out hs1 hs2 hs3 ?_; rw [hs4.out]))
  go_end0
  exact ⟨rfl, rfl⟩

theorem nils_length : nils.length = 17 := rfl

theorem nils_get (j : Nat) (h : j < 17) : nils[j]? = some (.slice none 0 0) := by
  unfold nils; rw [List.getElem?_replicate, if_pos h]

theorem DHd.there {w : World} {b n gd wr lf : Nat} {V : Nat → Value} {dn : Bool} (h : DHd w b n gd V wr lf dn) : w.there b 1 17 := fun j hj => by
  obtain ⟨C, hb, hs, _⟩ := h
  refine ⟨?_, frozen_of_row w b _ C 60 hb⟩
  rw [cell_of_row w b _ C 60 _ hb]
  have : 1 + j < C.size := by omega
  simp [this]

theorem DHd.setNils {w : World} {b n gd wr lf : Nat} {V : Nat → Value} {dn : Bool} (h : DHd w b n gd V wr lf dn) : DHd (w.setCells b 1 nils) b n gd (fun _ => .slice none 0 0) wr lf dn := by
  have ht := h.there
  have c0 := h.c0
  have c18 := h.c18
  have c19 := h.c19
  have c20 := h.c20
  obtain ⟨C, hb, hs, _⟩ := h
  obtain ⟨C', hb', hs'⟩ := setCells_row b 60 nils 1 w C hb
  have hout : ∀ k, (k < 1 ∨ 18 ≤ k) → (w.setCells b 1 nils).cell? ⟨b, k, none⟩ = w.cell? ⟨b, k, none⟩ := fun k hk => World.cell?_setCells_out b nils 1 w ⟨b, k, none⟩ (fun _ _ => by rw [nils_length]; exact hk)
  have hrow : ∀ k, (w.setCells b 1 nils).cell? ⟨b, k, none⟩ = C'[k]? := fun k => cell_of_row _ b k C' 60 _ hb'
  refine ⟨C', hb', by omega, ?_, fun o ho => ?_, ?_, ?_, ?_⟩
  · rw [← hrow, hout 0 (by omega)]; exact c0
  · have := World.cell?_setCells_in b nils 1 w (fun j hj => (ht j hj).1) o ho
    rw [← hrow, this]
    have e := nils_get o ho
    rw [List.getElem?_eq_getElem (by rw [nils_length]; exact ho)] at e
    exact e
  · rw [← hrow, hout 18 (by omega)]; exact c18
  · rw [← hrow, hout 19 (by omega)]; exact c19
  · rw [← hrow, hout 20 (by omega)]; exact c20

/-- Back that keeps nothing. -/
def St.lose (S : St) : St := { S with waits := fun _ => [], left := 0, down := false }

theorem St.Ok.lose {S : St} (h : S.Ok) : S.lose.Ok := ⟨h.n1, h.n2, h.w2, Nat.zero_le _, fun _ _ _ hx => (by cases hx), fun _ _ => Nat.zero_le _⟩

theorem disk_lose {w : World} {b gd : Nat} {S : St} {V : Nat → Value} (h : Disk w b S gd V) :
    Calls Tryz.prog 11 #[.pointer (some ⟨b, 0, none⟩), .slice none 0 0] w fun e w' => e = .returned (.tuple #[]) ∧ ∃ V', Disk w' b S.lose gd V' ∧ Step b gd w V w' V' := by
  have hn := h.hd.setNils
  refine (back_nil b S.left S.down w h.hd.there hn.c19 (hn.fr _) hn.c20 (hn.fr _)).mono ?_
  rintro e w' ⟨rfl, rfl⟩
  refine ⟨rfl, fun _ => .slice none 0 0, ?_⟩
  have hk : Keep (fun k => k = b) w (((w.setCells b 1 nils).setCell ⟨b, 19, none⟩ (.int .i64 (0 : Nat))).setCell ⟨b, 20, none⟩ (.bool false)) :=
    Keep.setCell (Keep.setCell (setCells_keep b nils 1 w) (p := ⟨b, 19, none⟩) (fun _ => rfl) _) (p := ⟨b, 20, none⟩) (fun _ => rfl) _
  refine ⟨⟨(hn.set19 0).set20 false, h.du.of_block (hk.block gd h.du.lt h.bg), fun o _ => World.ownsRow_nil _ _ _ _, h.bg, fun o _ g hg => (by cases hg), fun o o' _ _ _ g hg => (by cases hg), h.ok.lose⟩, hk.mono (fun i _ hi => .inl hi), fun k hf => ?_⟩
  rcases hf with rfl | rfl | ⟨o, _, e⟩
  · exact .inl (.inl rfl)
  · exact .inl (.inr (.inl rfl))
  · cases e

section
variable {w : World} {b gd : Nat} {S : St} {V : Nat → Value}

theorem kLose (h : Hid (Disk w b S gd V)) :
    Calls Tryz.prog 11 #[.pointer (some ⟨b, 0, none⟩), .slice none 0 0] w fun e w' => e = .returned (.tuple #[]) ∧ ∃ V', Hid (Disk w' b S.lose gd V') ∧ Step b gd w V w' V' := disk_lose h.out
end
end Go.Proofs.YtaiebhkjkeadoaaGreat
