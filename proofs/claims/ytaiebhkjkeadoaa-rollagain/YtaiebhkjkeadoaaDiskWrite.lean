/- Write: refused, and nothing is turned; or the owner's next write that waits. -/
import Derived.Test.YtaiebhkjkeadoaaDiskSettle
import Derived.Deep.DeepCutAuto
import Derived.Deep.DrawnRows
namespace Go.Proofs.Ytaiebhkjkeadoaa
open Go.RowKit
attribute [local go_sem ↓] Go.wp_at_zero Go.wp_at_succ

set_option maxHeartbeats 400000 in
theorem write_down (b : Nat) (o i : Int) (s : ByteArray) (w : World) (c20 : w.cell? ⟨b, 20, none⟩ = some (.bool true)) :
    Calls Try.prog 18 #[.pointer (some ⟨b, 0, none⟩), .int .i64 o, .int .i64 i, .string s] w fun e w' => e = .returned (.bool false) ∧ w = w' := by
  go_enter Try.func18, Try.ntmps18
  go_wp2_with fail
  go_ret
  exact ⟨rfl, rfl⟩

set_option maxHeartbeats 400000 in
theorem write_owner (b : Nat) (o i : Int) (s : ByteArray) (w : World) (c20 : w.cell? ⟨b, 20, none⟩ = some (.bool false)) (h : o < 0 ∨ 17 ≤ o) :
    Calls Try.prog 18 #[.pointer (some ⟨b, 0, none⟩), .int .i64 o, .int .i64 i, .string s] w fun e w' => e = .returned (.bool false) ∧ w = w' := by
  go_enter Try.func18, Try.ntmps18
  go_wp2_with (first | (go_at_call 26; refine (isOwner_no _ _ h).mono ?_; rintro e w' ⟨rfl, rfl⟩))
  go_ret
  exact ⟨rfl, rfl⟩

set_option maxHeartbeats 400000 in
theorem write_has (b n gd : Nat) (o i : Int) (s : ByteArray) (w : World) (c20 : w.cell? ⟨b, 20, none⟩ = some (.bool false)) (c0 : w.cell? ⟨b, 0, none⟩ = some (.slice (some ⟨gd, 0, none⟩) n n))
    (h0 : 0 ≤ o) (h1 : o < 17) (h : i < 0 ∨ n ≤ i) :
    Calls Try.prog 18 #[.pointer (some ⟨b, 0, none⟩), .int .i64 o, .int .i64 i, .string s] w fun e w' => e = .returned (.bool false) ∧ w = w' := by
  go_enter Try.func18, Try.ntmps18
  go_wp2_with (first | (go_at_call 26; refine (isOwner_yes _ _ h0 h1).mono ?_; rintro e w' ⟨rfl, rfl⟩) | (go_at_call 23; refine (has_f _ _ _ _ _ c0 h).mono ?_; rintro e w' ⟨rfl, rfl⟩))
  go_ret
  exact ⟨rfl, rfl⟩

set_option maxHeartbeats 400000 in
theorem write_len (b n gd : Nat) (o i : Int) (s : ByteArray) (w : World) (c20 : w.cell? ⟨b, 20, none⟩ = some (.bool false)) (c0 : w.cell? ⟨b, 0, none⟩ = some (.slice (some ⟨gd, 0, none⟩) n n))
    (h0 : 0 ≤ o) (h1 : o < 17) (h2 : 0 ≤ i) (h3 : i < n) (h : ((s.size : Int) != 256) = true) :
    Calls Try.prog 18 #[.pointer (some ⟨b, 0, none⟩), .int .i64 o, .int .i64 i, .string s] w fun e w' => e = .returned (.bool false) ∧ w = w' := by
  go_enter Try.func18, Try.ntmps18
  go_wp2_with (first | (go_at_call 26; refine (isOwner_yes _ _ h0 h1).mono ?_; rintro e w' ⟨rfl, rfl⟩) | (go_at_call 23; refine (has_t _ _ _ _ _ c0 h2 h3).mono ?_; rintro e w' ⟨rfl, rfl⟩))
  go_ret
  exact ⟨rfl, rfl⟩

theorem bcell {W w1 : World} (hb : Below W.heap.size W w1) : (∀ b o, b < W.heap.size → w1.cell? ⟨b, o, none⟩ = W.cell? ⟨b, o, none⟩) ∧ (∀ b o, b < W.heap.size → w1.frozen? ⟨b, o, none⟩ = W.frozen? ⟨b, o, none⟩) :=
  ⟨fun b o h => hb.cell (p := ⟨b, o, none⟩) h, fun b o h => hb.frozen (p := ⟨b, o, none⟩) h⟩

theorem clone_with (s : ByteArray) (w : World) (a : Addr) (v : Value) (hs : s.size = 256) (hc : w.cell? a = some v) :
    Calls Try.prog 27 #[.string s] w fun e w' => e = .returned (.string s) ∧ Below w.heap.size w w' ∧ w'.cell? a = some v :=
  (clone_t s w hs).mono fun _ _ ⟨he, hb⟩ => ⟨he, hb, by rw [hb.cell (block_lt_of_cell hc)]; exact hc⟩

theorem Try.dkInfoW : (Try.prog.info? 71).map (fun i => (i.zero, i.size, i.bytes)) = some (some (.agg #[.int .i64 0, .int .i64 0, .string ⟨#[]⟩]), 3, 32) := by kernel_rfl

theorem grown_cell {wc w1 : World} {X : Obj} {row : Option Nat} {b k : Nat} (h : (wc.alloc X).drew.grownBy w1 row) (hb : b < wc.heap.size) (hr : row ≠ some b) : w1.cell? ⟨b, k, none⟩ = wc.cell? ⟨b, k, none⟩ := by
  rw [h.cell_far ⟨b, k, none⟩ (by simp; omega) (fun e => hr e.symm)]
  exact World.cell?_alloc_lt _ _ _ hb
theorem grown_frozen {wc w1 : World} {X : Obj} {row : Option Nat} {b k : Nat} (h : (wc.alloc X).drew.grownBy w1 row) (hb : b < wc.heap.size) (hr : row ≠ some b) : w1.frozen? ⟨b, k, none⟩ = wc.frozen? ⟨b, k, none⟩ := by
  rw [h.frozen_far ⟨b, k, none⟩ (by simp; omega) (fun e => hr e.symm)]
  exact World.frozen?_alloc_past _ _ _ hb

/-- The world behind countDown. -/
def cdW (b lf : Nat) (w : World) : World := if lf = 0 then w else (w.setCell ⟨b, 19, none⟩ (.int .i64 ((lf - 1 : Nat) : Int))).setCell ⟨b, 20, none⟩ (.bool (lf - 1 == 0))

theorem countDown_t (b : Nat) (lf : Nat) (dn : Bool) (w : World) (hl : lf ≤ 9223372036854775807) (c19 : w.cell? ⟨b, 19, none⟩ = some (.int .i64 lf)) (f19 : w.frozen? ⟨b, 19, none⟩ = false)
    (c20 : w.cell? ⟨b, 20, none⟩ = some (.bool dn)) (f20 : w.frozen? ⟨b, 20, none⟩ = false) :
    Calls Try.prog 28 #[.pointer (some ⟨b, 0, none⟩)] w fun e w' => e = .returned (.tuple #[]) ∧ w' = cdW b lf w := by
  cases lf with
  | zero => exact (countDown_zero b w c19).mono fun _ _ ⟨he, hw⟩ => ⟨he, by simp [cdW, hw]⟩
  | succ l => exact (countDown_pos b l dn w (by omega) c19 f19 c20 f20).mono fun _ _ ⟨he, hw⟩ => ⟨he, by simp [cdW, hw]⟩

set_option maxHeartbeats 1000000 in
theorem write_walk (b n gd o i m lf : Nat) (v : Value) (L : List Wr) (s : ByteArray) (w : World) (c20 : w.cell? ⟨b, 20, none⟩ = some (.bool false)) (c0 : w.cell? ⟨b, 0, none⟩ = some (.slice (some ⟨gd, 0, none⟩) n n))
    (c18 : w.cell? ⟨b, 18, none⟩ = some (.int .i64 m)) (f18 : w.frozen? ⟨b, 18, none⟩ = false) (hm : m ≤ 1000000)
    (c19 : w.cell? ⟨b, 19, none⟩ = some (.int .i64 lf)) (f19 : w.frozen? ⟨b, 19, none⟩ = false) (f20 : w.frozen? ⟨b, 20, none⟩ = false) (hlf : lf ≤ 9223372036854775807)
    (cV : w.cell? ⟨b, 1 + o, none⟩ = some v) (fV : w.frozen? ⟨b, 1 + o, none⟩ = false) (hrow : w.ownsRow 0 71 3 v L.length (wcells L)) (hL : L.length ≤ 1000000) (hvb : v.ownBlock ≠ some b)
    (h1 : o < 17) (h3 : i < n) (h : ((s.size : Int) != 256) = false) (hs : s.size = 256) :
    Calls Try.prog 18 #[.pointer (some ⟨b, 0, none⟩), .int .i64 o, .int .i64 i, .string s] w fun e w' => e = .returned (.bool true) ∧
      ∃ g cap w1, w' = cdW b lf (w1.setCell ⟨b, 1 + o, none⟩ (.slice (some ⟨g, 0, none⟩) (L.length + 1) cap)) ∧
        w1.ownsRow 0 71 3 (.slice (some ⟨g, 0, none⟩) (L.length + 1) cap) (L.length + 1) (wcells (L ++ [⟨m + 1, i, s⟩])) ∧ (v.ownBlock = some g ∨ w.heap.size ≤ g) ∧
        Keep (fun k => v.ownBlock = some k) (w.setCell ⟨b, 18, none⟩ (.int .i64 ((m + 1 : Nat) : Int))) w1 := by
  have c18' : (w.setCell ⟨b, 18, none⟩ (.int .i64 ((m : Int) + 1))).cell? ⟨b, 18, none⟩ = some (.int .i64 ((m : Int) + 1)) := World.cell?_setCell_same _ _ _ c18
  have cV' : (w.setCell ⟨b, 18, none⟩ (.int .i64 ((m : Int) + 1))).cell? ⟨b, 1 + o, none⟩ = some v := by
    rw [World.cell?_setCell_other _ _ _ _ (fun e => by simp only [Addr.mk.injEq] at e; omega)]; exact cV
  have fV' : (w.setCell ⟨b, 18, none⟩ (.int .i64 ((m : Int) + 1))).frozen? ⟨b, 1 + o, none⟩ = false := by simpa using fV
  have c19' : (w.setCell ⟨b, 18, none⟩ (.int .i64 ((m : Int) + 1))).cell? ⟨b, 19, none⟩ = some (.int .i64 lf) := by
    rw [World.cell?_setCell_other _ _ _ _ (by simp)]; exact c19
  have c20' : (w.setCell ⟨b, 18, none⟩ (.int .i64 ((m : Int) + 1))).cell? ⟨b, 20, none⟩ = some (.bool false) := by
    rw [World.cell?_setCell_other _ _ _ _ (by simp)]; exact c20
  have f19' : (w.setCell ⟨b, 18, none⟩ (.int .i64 ((m : Int) + 1))).frozen? ⟨b, 19, none⟩ = false := by simpa using f19
  have f20' : (w.setCell ⟨b, 18, none⟩ (.int .i64 ((m : Int) + 1))).frozen? ⟨b, 20, none⟩ = false := by simpa using f20
  have hrow' : Hid ((w.setCell ⟨b, 18, none⟩ (.int .i64 ((m : Int) + 1))).ownsRow 0 71 3 v L.length (wcells L)) := owns_of_block hrow (fun g hg => Below.heap_setCell _ _ _ _ (fun e => hvb (by subst e; exact hg)))
  have hsz : (w.setCell ⟨b, 18, none⟩ (.int .i64 ((m : Int) + 1))).heap.size = w.heap.size := by simp [World.setCell]
  have e1 : ((m + 1 : Nat) : Int) = (m : Int) + 1 := by omega
  rw [e1]
  have Hs := dkhid hs
  clear hs hrow e1
  go_enter Try.func18, Try.ntmps18
  go_wp2_with (first | (go_at_call 26; refine (isOwner_yes _ _ (by omega) (by omega)).mono ?_; rintro e w' ⟨rfl, rfl⟩) | (go_at_call 23; refine (has_t _ _ _ _ _ c0 (by omega) (by omega)).mono ?_; rintro e w' ⟨rfl, rfl⟩))
  clear c0 c18 c20 f18 cV fV c19 f19 f20
  have Hsz := dkhid hsz
  clear hsz
  generalize hWe : w.setCell ⟨b, 18, none⟩ (.int .i64 ((m : Int) + 1)) = W at *
  have HW := dkhid hWe
  clear hWe
  have hne := World.new_ne W ⟨b, 18, none⟩ c18'
  have hbl : b < W.heap.size := block_lt_of_cell c18'
  go_cut [9] (fun p wc => ∃ H, p = .pointer (some ⟨H, 0, none⟩) ∧ W.heap.size ≤ H ∧ Hid (wc.heap[H]? = some (.cells #[.int .i64 ((m : Int) + 1), .int .i64 i, .string s] 71 (0, 0))) ∧ Below W.heap.size W wc)
  case first =>
    go_region_held3 (fun w' => w'.cell? ⟨b, 18, none⟩ = some (.int .i64 ((m : Int) + 1))) (go_keep) (first | (go_at_call 27; refine (clone_with _ _ ⟨b, 18, none⟩ (.int .i64 ((m : Int) + 1)) Hs.out ?_).mono ?_; (first | assumption | simp [*]); rintro e w1 ⟨rfl, hb1, hc1⟩; obtain ⟨hcc, hff⟩ := bcell hb1))
    · go_wp2_with fail
      go_meet
      case rel =>
        have hb1' : Below W.heap.size W w1 := ⟨hb1.os, hb1.tape, hb1.output, hb1.size, hb1.block⟩
        exact ⟨w1.heap.size, rfl, hb1'.size, heap_alloc_new _ _, hb1'.alloc hb1'.size _⟩
    · go_wp2_with fail
      go_meet
      case rel =>
        have hb0 : Below W.heap.size W (W.alloc (.cells #[.int .i64 0, .int .i64 0, .string ⟨#[]⟩] 71)) := (Below.refl _ W).alloc (Nat.le_refl _) _
        have hb1' : Below (W.heap.size + 1) (W.alloc (.cells #[.int .i64 0, .int .i64 0, .string ⟨#[]⟩] 71)) w1 := ⟨hb1.os, hb1.tape, hb1.output, hb1.size, fun k hk => hb1.block k (by simpa using hk)⟩
        refine ⟨W.heap.size, rfl, Nat.le_refl _, ?_, (((hb0.trans (hb1'.mono (by omega))).setCell (by simp) _).setCell (by simp) _).setCell (by simp) _⟩
        have h0 := (hb1'.block W.heap.size (by omega)).trans (heap_alloc_new _ _)
        have h1 := heap_setCell_same _ W.heap.size 0 _ 71 (.int .i64 ((m : Int) + 1)) h0
        have h2 := heap_setCell_same _ W.heap.size 1 _ 71 (.int .i64 (i : Int)) h1
        exact heap_setCell_same _ W.heap.size 2 _ 71 (.string s) h2
  case rest =>
    obtain ⟨H, rfl, hHl, hH, hbc⟩ := hcut
    have hcl : W.heap.size ≤ wc.heap.size := hbc.size
    have hHs : H < wc.heap.size := (Array.getElem?_eq_some_iff.1 hH.out).1
    have d0 : wc.cell? ⟨H, 0, none⟩ = some (.int .i64 ((m : Int) + 1)) := by rw [cell_of_row wc H 0 _ 71 _ hH.out]; rfl
    have d1 : wc.cell? ⟨H, 1, none⟩ = some (.int .i64 (i : Int)) := by rw [cell_of_row wc H 1 _ 71 _ hH.out]; rfl
    have d2 : wc.cell? ⟨H, 2, none⟩ = some (.string s) := by rw [cell_of_row wc H 2 _ 71 _ hH.out]; rfl
    have dV : wc.cell? ⟨b, 1 + o, none⟩ = some v := by rw [hbc.cell (by exact hbl)]; exact cV'
    have eV : wc.frozen? ⟨b, 1 + o, none⟩ = false := by rw [hbc.frozen (by exact hbl)]; exact fV'
    have d19 : wc.cell? ⟨b, 19, none⟩ = some (.int .i64 lf) := by rw [hbc.cell (by exact hbl)]; exact c19'
    have e19 : wc.frozen? ⟨b, 19, none⟩ = false := by rw [hbc.frozen (by exact hbl)]; exact f19'
    have d20 : wc.cell? ⟨b, 20, none⟩ = some (.bool false) := by rw [hbc.cell (by exact hbl)]; exact c20'
    have e20 : wc.frozen? ⟨b, 20, none⟩ = false := by rw [hbc.frozen (by exact hbl)]; exact f20'
    have hown : Hid (wc.ownsRow 0 71 3 v L.length (wcells L)) := owns_of_block hrow'.out (fun g hg => hbc.block g (hrow'.out.lt g hg).2)
    obtain ⟨i0, hi0, hz0, hz1, hz2⟩ := info_parts Try.dkInfoW
    have hvH : v.ownBlock ≠ some H := fun e => by have := (hrow'.out.lt H e).2; omega
    have ho0 : (0 : Int) ≤ (o : Int) := by omega
    have ho1 : (o : Int) < 17 := by omega
    have eV' : ∀ o1, (wc.alloc o1).frozen? ⟨b, 1 + o, none⟩ = false := fun o1 => by rw [World.frozen?_alloc_past _ _ _ (by show b < wc.heap.size; omega)]; exact eV
    clear c18' cV' fV' c19' f19' c20' f20'
    go_wp2_with fail
    have dV' : ∀ o1, (wc.alloc o1).cell? ⟨b, 1 + o, none⟩ = some v := fun o1 => by rw [World.cell?_alloc_lt _ _ _ (by show b < wc.heap.size; omega)]; exact dV
    go_region_law
      ((refine step_append_lies _ (by rfl) _ _ _ (by rfl) 0 71 i0 _ 3 32 Try.underlying55 hi0 hz0 hz1 hz2 rfl (by omega) v L.length (wcells L) (by rfl) ((hown.out.alloc _).drew)
          ⟨wc.heap.size, 0, none⟩ 1 1 [.int .i64 ((m : Int) + 1), .int .i64 (i : Int), .string s] (by rfl) (by rfl) (World.news_of_block (cs := #[.int .i64 ((m : Int) + 1), .int .i64 (i : Int), .string s]) (t := 71) (fr := (0, 0)) (heap_alloc_new wc _)) (by simp [Value.oneCell'])
          (by omega) (by unfold maxLen; omega) (by omega) (by simp) (wc.heap.size + 1) (by simp) ?_; intro g cap w1 hown1 hgrow hat hlt; have aV : w1.cell? ⟨b, 1 + o, none⟩ = some v := (by rw [hgrow.cell_far _ (by simp; omega) (Ne.symm hvb)]; simp [*]); have bV : w1.frozen? ⟨b, 1 + o, none⟩ = false := (by rw [hgrow.frozen_far _ (by simp; omega) (Ne.symm hvb)]; simp [*])))
    all_goals
      have x19 : (w1.setCell ⟨b, 1 + o, none⟩ (.slice (some ⟨g, 0, none⟩) (L.length + 1) cap)).cell? ⟨b, 19, none⟩ = some (.int .i64 lf) := by
        rw [World.cell?_setCell_other _ _ _ _ (fun e => by simp only [Addr.mk.injEq] at e; omega), grown_cell hgrow (by omega) hvb]; exact d19
      have x20 : (w1.setCell ⟨b, 1 + o, none⟩ (.slice (some ⟨g, 0, none⟩) (L.length + 1) cap)).cell? ⟨b, 20, none⟩ = some (.bool false) := by
        rw [World.cell?_setCell_other _ _ _ _ (fun e => by simp only [Addr.mk.injEq] at e; omega), grown_cell hgrow (by omega) hvb]; exact d20
      have y19 : (w1.setCell ⟨b, 1 + o, none⟩ (.slice (some ⟨g, 0, none⟩) (L.length + 1) cap)).frozen? ⟨b, 19, none⟩ = false := by
        rw [World.frozen?_setCell, grown_frozen hgrow (by omega) hvb]; exact e19
      have y20 : (w1.setCell ⟨b, 1 + o, none⟩ (.slice (some ⟨g, 0, none⟩) (L.length + 1) cap)).frozen? ⟨b, 20, none⟩ = false := by
        rw [World.frozen?_setCell, grown_frozen hgrow (by omega) hvb]; exact e20
      have hown2 : Hid (w1.ownsRow 0 71 3 (.slice (some ⟨g, 0, none⟩) (L.length + 1) cap) (L.length + 1) (wcells (L ++ [⟨m + 1, i, s⟩]))) := by
        have := hown1
        rw [wcells_append, wcells_one]
        exact this
      have hkeep : Hid (Keep (fun k => v.ownBlock = some k) W w1) := by
        have k1 : Keep (fun k => v.ownBlock = some k) W wc := keep_of_below hbc _
        exact ((k1.alloc _).drew).trans (Keep.grown hgrow)
      have hat2 : Hid (v.ownBlock = some g ∨ w.heap.size ≤ g) := by
        rcases hat with e | e
        · exact .inl e
        · right; have := Hsz.out; omega
      clear hown1 hgrow hat hlt aV bV d0 d1 d2 dV eV d19 e19 d20 e20 hown hi0 hz0 hz1 hz2 eV' dV' hH hrow' Hs h
      go_wp2_with (go_at_call 28; refine (countDown_t b lf false _ hlf x19 y19 x20 y20).mono ?_; rintro e w' ⟨rfl, hw'⟩)
      go_ret
      exact ⟨rfl, g, cap, w1, rfl, hown2.out, hat2.out, by rw [HW.out]; exact hkeep.out⟩

end Go.Proofs.Ytaiebhkjkeadoaa
