/- The law DiskCuts, walked: whatever the two numbers and the flag, true; nothing that was there has turned. The sort comes in as a hypothesis (SortSaid). -/
import Derived.Test.YtodfecipeabmlaaCutsInv
import Derived.Test.YtodfecipeabmlaaFlushes
namespace Go.Proofs.Ytodfecipeabmlaa
open Go.RowKit

/-- A disk, and a slice of ints of the law's own beside it, all from block B on. -/
structure Side (B : Nat) (w wr : World) (b gd : Nat) (V : Nat → Value) (kv : Value) (n : Nat) (xs : List Value) : Prop where
  below : Below B w wr
  bs : B ≤ wr.heap.size
  foot : ∀ q, foot b gd V q → B ≤ q
  row : wr.ownsRow 0 3 1 kv n xs
  kq : ∀ q, kv.ownBlock = some q → B ≤ q ∧ ¬ Ytodfecipeabmlaa.foot b gd V q

theorem Side.step {B : Nat} {w wr w2 : World} {b gd : Nat} {V V2 : Nat → Value} {kv : Value} {n : Nat} {xs : List Value} (h : Side B w wr b gd V kv n xs) (s : Step b gd wr V w2 V2) : Side B w w2 b gd V2 kv n xs := by
  refine ⟨h.below.trans (s.keep.below h.bs h.foot), Nat.le_trans h.bs s.keep.size, fun q hq => ?_, owns_of_block h.row (fun q hq => s.keep.block q (h.row.lt q hq).2 (h.kq q hq).2), fun q hq => ⟨(h.kq q hq).1, fun hf => ?_⟩⟩
  · rcases s.foot' q hq with h1 | h1
    · exact h.foot q h1
    · have := h.bs; omega
  · rcases s.foot' q hf with h1 | h1
    · exact (h.kq q hq).2 h1
    · have := (h.row.lt q hq).2; omega

theorem Side.append {B : Nat} {w wr w2 : World} {b gd : Nat} {S : St} {V : Nat → Value} {kv kv' : Value} {n m : Nat} {xs ys : List Value} {o : Obj} (h : Side B w wr b gd V kv n xs) (hd : Disk wr b S gd V)
    (hg : (wr.alloc o).grownBy w2 kv.ownBlock) (ho : w2.ownsRow 0 3 1 kv' m ys) (ha : ∀ q, kv'.ownBlock = some q → kv.ownBlock = some q ∨ q = wr.heap.size + 1) : Side B w w2 b gd V kv' m ys ∧ Disk w2 b S gd V := by
  have hd1 : Disk (wr.alloc o) b S gd V := hd.below ((Below.refl _ wr).alloc (Nat.le_refl _) _)
  have hb1 : Below B w (wr.alloc o) := h.below.alloc h.bs o
  have hsz : (wr.alloc o).heap.size = wr.heap.size + 1 := by simp
  refine ⟨⟨hb1.grown hg (by have := h.bs; omega) (fun k hk => (h.kq k hk).1), Nat.le_trans (by have := h.bs; omega) hg.size, h.foot, ho, fun q hq => ?_⟩, hd1.apart (Keep.grown hg) (fun i hi hf => (h.kq i hf).2 hi)⟩
  rcases ha q hq with h1 | h1
  · exact h.kq q h1
  · refine ⟨by have := h.bs; omega, fun hf => ?_⟩
    have := hd.lt hf
    omega

theorem Try.info3 : (Try.prog.info? 3).map (fun i => (i.zero, i.size, i.bytes)) = some (some (.int .i64 0), 1, 8) := by kernel_rfl

/-- The cells of the numbers below n. -/
def belowC (n : Nat) : List Value := (below n).map (Value.int .i64)
theorem belowC_length (n : Nat) : (belowC n).length = n := by simp [belowC, below_length]
theorem belowC_succ (n : Nat) : belowC (n + 1) = belowC n ++ [.int .i64 n] := by simp [belowC, below, List.range_succ]

/-- Three nils and a list of ints of the law's own, as Back's argument. -/
theorem keepAt_row {w : World} (g cap n : Nat) (_hn : 0 < n) (hn2 : n ≤ 1000000) (h : w.ownsRow 0 3 1 (.slice (some ⟨g, 0, none⟩) n cap) n (belowC n)) :
    KeepAt (w.alloc (.cells #[.slice none 0 0, .slice none 0 0, .slice none 0 0, .slice (some ⟨g, 0, none⟩) n cap] 22)) [[], [], [], below n] w.heap.size 0 (fun j => if j = 3 then some ⟨g, 0, none⟩ else none) (fun _ => g) (fun _ => 0) (fun j => if j = 3 then cap else 0) := by
  have hg : g < w.heap.size := (h.lt g rfl).2
  refine ⟨fun j hj => ?_, fun j hj => ?_, fun j hj h0 => ?_, fun j hj t ht => ?_⟩
  all_goals rcases (show j = 0 ∨ j = 1 ∨ j = 2 ∨ j = 3 by simp at hj; omega) with rfl | rfl | rfl | rfl
  · exact Nat.zero_le _
  · exact Nat.zero_le _
  · exact Nat.zero_le _
  · show (below n).length ≤ _; rw [below_length]; exact hn2
  · rw [cell_of_row _ _ _ _ 22 _ (heap_alloc_new w _)]; rfl
  · rw [cell_of_row _ _ _ _ 22 _ (heap_alloc_new w _)]; rfl
  · rw [cell_of_row _ _ _ _ 22 _ (heap_alloc_new w _)]; rfl
  · rw [cell_of_row _ _ _ _ 22 _ (heap_alloc_new w _)]
    show some _ = some (Value.slice _ (below n).length _)
    rw [below_length]; rfl
  · cases h0
  · cases h0
  · cases h0
  · exact ⟨rfl, by simp; omega⟩
  · cases ht
  · cases ht
  · cases ht
  · have ht' : t < n := by have : t < (below n).length := ht; rw [below_length] at this; exact this
    rw [World.cell?_alloc_lt _ _ _ (show g < w.heap.size from hg), Nat.zero_add, h.cellAt t (by omega)]
    show _ = some (Value.int .i64 ((below n)[t]'ht))
    rw [below_get]
    simp [belowC, below, ht']

theorem keepAt_nil (w : World) : KeepAt (w.alloc (.cells #[.slice none 0 0, .slice none 0 0, .slice none 0 0, .slice none 0 0] 22)) [[], [], [], []] w.heap.size 0 (fun _ => none) (fun _ => 0) (fun _ => 0) (fun _ => 0) := by
  refine ⟨fun j hj => ?_, fun j hj => ?_, fun j hj h0 => ?_, fun j hj t ht => ?_⟩
  all_goals rcases (show j = 0 ∨ j = 1 ∨ j = 2 ∨ j = 3 by simp at hj; omega) with rfl | rfl | rfl | rfl
  · exact Nat.zero_le _
  · exact Nat.zero_le _
  · exact Nat.zero_le _
  · exact Nat.zero_le _
  · rw [cell_of_row _ _ _ _ 22 _ (heap_alloc_new w _)]; rfl
  · rw [cell_of_row _ _ _ _ 22 _ (heap_alloc_new w _)]; rfl
  · rw [cell_of_row _ _ _ _ 22 _ (heap_alloc_new w _)]; rfl
  · rw [cell_of_row _ _ _ _ 22 _ (heap_alloc_new w _)]; rfl
  · cases h0
  · cases h0
  · cases h0
  · cases h0
  · cases ht
  · cases ht
  · cases ht
  · cases ht

set_option maxHeartbeats 4000000 in
theorem diskCuts_t (hS : SortSaid) (v0 v1 : Int) (al : Bool) (w : World) :
    Calls Try.prog 4 #[.int .i64 v0, .int .i64 v1, .bool al] w fun e w' => e = .returned (.bool true) ∧ Below w.heap.size w w' := by
  have HS := hid hS
  clear hS
  obtain ⟨i0, hi0, hz0, hz1, hz2⟩ := info_parts Try.info3
  go_enter Try.func4, Try.ntmps4
  go_wp2_with fail
  refine (kPlace v0 10 w (by omega) (by omega)).mono ?_
  rintro e w1 ⟨⟨p, rfl, hp0, hp1⟩, rfl⟩
  obtain ⟨k, rfl⟩ := Int.eq_ofNat_of_zero_le hp0
  go_wp2_with fail
  refine (kPlace v1 5 w (by omega) (by omega)).mono ?_
  rintro e w1 ⟨⟨f, rfl, hf0, hf1⟩, rfl⟩
  obtain ⟨m, rfl⟩ := Int.eq_ofNat_of_zero_le hf0
  go_wp2_with fail
  refine (kNew 20 w (by omega) (by omega)).mono ?_
  rintro e w1 ⟨b, gd, V1, rfl, h1, hb1, hf1'⟩
  replace h1 : Disk w1 b (St.new 20) gd V1 := h1
  have hcut := hid (disk_cut h1 k (by omega))
  go_wp2_with fail
  refine hcut.out.mono ?_
  rintro e w2 ⟨rfl, h2, s2⟩
  have side2 : Hid (Side w.heap.size w w2 b gd V1 (.slice none 0 0) 0 (belowC 0)) := by
    have s1 : Side w.heap.size w w1 b gd V1 (.slice none 0 0) 0 (belowC 0) := ⟨hb1, hb1.size, hf1', World.ownsRow_nil _ _ _ _, fun q hq => (by cases hq)⟩
    exact s1.step s2
  replace h2 := hid h2
  clear h1 hb1 hf1' s2 hcut
  go_wp2_with fail
  go_loopw [10, 11] (fun kv c wr => ∃ j : Nat, j ≤ k + (1 + m) ∧ c = .int .i64 j ∧ ∃ S V', Hid (Disk wr b S gd V') ∧ Hid (CI k (min j k) S) ∧ Hid (Side w.heap.size w wr b gd V' kv j (belowC j))) (fun _ c _ => k + (1 + m) - (intOf c).toNat)
  case atStart =>
    refine ⟨0, by omega, rfl, _, V1, h2, ?_, side2⟩
    rw [Nat.zero_min]
    exact CI.new k
  case round =>
    obtain ⟨j, hj, rfl, S, V3, h3, hI, sd⟩ := hrel
    by_cases hlt : j < k + (1 + m)
    · by_cases hjk : j < k
      · have em : min j k = j := by omega
        rw [em] at hI
        have hn : ((S.n : Nat) : Int) = 20 := by rw [hI.out.n]; rfl
        have hw : S.writes < 1000000 := by rw [hI.out.writes]; omega
        have hd : S.down = false := by rw [hI.out.down]; simp; omega
        have Hn := hid hn
        have Hw := hid hw
        have Hd := hid hd
        clear hn hw hd
        go_wp2_with fail
        refine (kFill h3 (1 + (j : Int)) (by omega) (by omega)).mono ?_
        rintro e w4 ⟨rfl, h4, s4⟩
        have ef : (1 + (j : Int)).toNat = 1 + j := by omega
        rw [ef]
        clear ef
        go_wp2_with fail
        refine (kWrite h4 3 (j : Int) (Fill (1 + j)) (by omega) (by omega) (by omega) (by have := Hn.out; omega) (Fill_size _) Hd.out Hw.out).mono ?_
        rintro e w5 ⟨rfl, V5, h5, s5⟩
        replace h5 : Hid (Disk w5 b (S.write 3 j (Fill (1 + j))) gd V5) := h5
        have hI5 := hid (hI.out.write hjk)
        have hge : (k ≤ j + 1) = ((k : Int) ≤ (j : Int) + 1) := by apply propext; omega
        go_wp2_with fail
        refine (kDown h5 (decide ((k : Int) ≤ (j : Int) + 1)) (by rw [hI5.out.down]; simp only [hge])).mono ?_
        rintro e w6 ⟨rfl, rfl⟩
        have sd5 := hid ((sd.out.step s4).step s5)
        clear hge s4 s5
        have hM1 : j + 1 ≤ maxLen := by unfold maxLen; omega
        have HM1 := hid hM1
        have HM2 : Hid ((j + 1) * 8 ≤ 140737488355328) := by show (j + 1) * 8 ≤ 140737488355328; omega
        clear hM1
        go_wp2_with (at_builtin; refine wpList_append_lies _ rfl _ _ _ rfl 0 3 i0 (.int .i64 0) 1 8 Try.underlying22 hi0 hz0 hz1 hz2 rfl (by omega) u10 j (belowC j) rfl (sd5.out.row.alloc _) ⟨w5.heap.size, 0, none⟩ 1 1 [.int .i64 j] rfl rfl (World.news_of_block (cs := #[.int .i64 j]) (t := 3) (fr := (0, 0)) (heap_alloc_new w5 _)) (by simp [Value.oneCell']) (by omega) HM1.out HM2.out (by simp) (w5.heap.size + 1) (by simp) ?_; intro g' cap' w7 hown7 hgrow7 hat7 hlt7)
        have hfin := sd5.out.append h5.out hgrow7 (by rw [belowC_succ]; exact hown7) (kv' := .slice (some ⟨g', 0, none⟩) (j + 1) cap') (m := j + 1) (ys := belowC (j + 1)) (fun q hq => by
          have e : q = g' := by simp [Value.ownBlock] at hq; exact hq.symm
          subst e; exact hat7)
        refine ⟨⟨j + 1, by omega, by go_num, _, _, hfin.2, ?_, hfin.1⟩, by simp [intOf]; omega⟩
        have e : min (j + 1) k = j + 1 := by omega
        rw [e]; exact hI5
      · have em : min j k = k := by omega
        rw [em] at hI
        have hd : S.down = true := by rw [hI.out.down]; simp
        have Hd := hid hd
        clear hd
        have hkj1 : (k : Int) ≤ (j : Int) := by omega
        have hkj2 : (k : Int) ≤ (j : Int) + 1 := by omega
        go_wp2_with fail
        refine (kFill h3 (1 + (j : Int)) (by omega) (by omega)).mono ?_
        rintro e w4 ⟨rfl, h4, s4⟩
        go_wp2_with fail
        refine (write_down b 3 (j : Int) _ w4 (by rw [h4.out.hd.c20, Hd.out])).mono ?_
        rintro e w5 ⟨rfl, rfl⟩
        go_wp2_with fail
        refine (kDown h4 true Hd.out).mono ?_
        rintro e w5 ⟨rfl, rfl⟩
        have sd5 := hid (sd.out.step s4)
        have h5 := h4
        clear s4
        have hM1 : j + 1 ≤ maxLen := by unfold maxLen; omega
        have HM1 := hid hM1
        have HM2 : Hid ((j + 1) * 8 ≤ 140737488355328) := by show (j + 1) * 8 ≤ 140737488355328; omega
        clear hM1
        go_wp2_with (at_builtin; refine wpList_append_lies _ rfl _ _ _ rfl 0 3 i0 (.int .i64 0) 1 8 Try.underlying22 hi0 hz0 hz1 hz2 rfl (by omega) u10 j (belowC j) rfl (sd5.out.row.alloc _) ⟨w4.heap.size, 0, none⟩ 1 1 [.int .i64 j] rfl rfl (World.news_of_block (cs := #[.int .i64 j]) (t := 3) (fr := (0, 0)) (heap_alloc_new w4 _)) (by simp [Value.oneCell']) (by omega) HM1.out HM2.out (by simp) (w4.heap.size + 1) (by simp) ?_; intro g' cap' w7 hown7 hgrow7 hat7 hlt7)
        have hfin := sd5.out.append h5.out hgrow7 (by rw [belowC_succ]; exact hown7) (kv' := .slice (some ⟨g', 0, none⟩) (j + 1) cap') (m := j + 1) (ys := belowC (j + 1)) (fun q hq => by
          have e : q = g' := by simp [Value.ownBlock] at hq; exact hq.symm
          subst e; exact hat7)
        refine ⟨⟨j + 1, by omega, by go_num, _, _, hfin.2, ?_, hfin.1⟩, by simp [intOf]; omega⟩
        have e : min (j + 1) k = k := by omega
        rw [e]; exact hI
    · have e : j = k + (1 + m) := by omega
      subst e
      have em : min (k + (1 + m)) k = k := by omega
      rw [em] at hI
      have hd : S.down = true := by rw [hI.out.down]; simp
      have Hd := hid hd
      clear hd
      go_wp2_with fail
      refine (read_down b 0 wr (by rw [h3.out.hd.c20, Hd.out])).mono ?_
      rintro e w4 ⟨rfl, rfl⟩
      go_wp2_with fail
      refine (flush_down b 3 wr (by rw [h3.out.hd.c20, Hd.out])).mono ?_
      rintro e w4 ⟨rfl, rfl⟩
      go_wp2_with fail
      refine (kWaits h3 3 (by omega) (by omega) (k : Int) (by show (((S.waits 3).length : Nat) : Int) = k; rw [hI.out.w3, cutW_length])).mono ?_
      rintro e w4 ⟨rfl, rfl⟩
      go_wp2_with fail
      refine (kWrites h3 (k : Int) (by rw [hI.out.writes])).mono ?_
      rintro e w4 ⟨rfl, rfl⟩
      cases al
      · have hKA := hid (keepAt_nil wr)
        have h4 : Hid (Disk (wr.alloc (.cells #[.slice none 0 0, .slice none 0 0, .slice none 0 0, .slice none 0 0] 22)) b S gd V3) := h3.out.below ((Below.refl _ wr).alloc (Nat.le_refl _) _)
        have hback := hid (back_walk HS.out h4.out [[], [], [], []] wr.heap.size 0 4 _ _ _ _ (by simp) (by simp) (by simp) hKA.out (by simp) (by rw [hI.out.writes]; omega))
        go_wp2_with fail
        refine hback.out.mono ?_
        rintro e w5 ⟨rfl, L', V5, hp, hs, h5, s5⟩
        have hrd := hid (fun i => hI.out.none L' hp i)
        have hb7 := hid ((sd.out.below.alloc sd.out.bs _).trans (s5.keep.below (by have := sd.out.bs; simp; omega) sd.out.foot))
        have hf5 : Hid (∀ q, foot b gd V5 q → w.heap.size ≤ q) := fun q hq => by
          rcases s5.foot' q hq with h1 | h1
          · exact sd.out.foot q h1
          · have := sd.out.bs; simp at h1; omega
        have hn5 : Hid ((((S.back L').n : Nat) : Int) = 20) := by show ((S.n : Nat) : Int) = 20; rw [hI.out.n]; rfl
        have hw5 : Hid ((S.back L').writes < 1000000) := by show S.writes < 1000000; rw [hI.out.writes]; omega
        have hdn5 : Hid ((S.back L').down = false) := rfl
        have hlf5 : Hid ((S.back L').left = 0) := rfl
        replace h5 := hid h5
        generalize S.back L' = S5 at *
        clear hp hs s5 hback hKA hI Hd
        obtain ⟨Z, hZ⟩ : ∃ Z, zbytes 256 = Z := ⟨_, rfl⟩
        have HZ := hid hZ
        rw [hZ] at hrd
        clear hZ
        go_wp2_with fail
        go_loopw [14] (fun c wq => ∃ i : Nat, i ≤ 20 ∧ c = .int .i64 i ∧ Hid (Disk wq b S5 gd V5) ∧ Hid (Below w.heap.size w wq)) (fun c _ => 20 - (intOf c).toNat)
        case atStart => exact ⟨0, by omega, rfl, h5, hb7⟩
        case round =>
          obtain ⟨i, hi, rfl, h6, hb6⟩ := hrel
          by_cases hlt : i < 20
          · have hri := hid (hrd.out i)
            go_wp2_with fail
            refine (kZeroN h6 Z HZ).mono ?_
            rintro e w8 ⟨rfl, h8, s8⟩
            go_wp2_with fail
            refine (kRead h8 (i : Int) (by omega) (by have := hn5.out; omega) hdn5.out Z (by show S5.read i = Z; exact hri.out)).mono ?_
            rintro e w9 ⟨rfl, h9, s9⟩
            go_wp2_with fail
            refine ⟨⟨i + 1, by omega, by go_num, h9, hb6.out.trans ((s8.trans s9).keep.below hb6.out.size hf5.out)⟩, by simp [intOf]; omega⟩
          · have e : i = 20 := by omega
            subst e
            go_wp2_with fail
            refine (kZeroN h6 Z HZ).mono ?_
            rintro e w8 ⟨rfl, h8, s8⟩
            go_wp2_with fail
            refine (kWrite h8 3 0 Z (by omega) (by omega) (by omega) (by have := hn5.out; omega) (by rw [← HZ.out]; exact zbytes_size 256) hdn5.out hw5.out).mono ?_
            rintro e w9 ⟨rfl, V9, h9, s9⟩
            go_wp2_with fail
            refine (kDown h9 false (by show (if S5.left = 0 then S5.down else _) = false; rw [if_pos hlf5.out]; exact hdn5.out)).mono ?_
            rintro e w10 ⟨rfl, rfl⟩
            go_wp2_with fail
            refine (awake_t w9).mono ?_
            rintro e w10 ⟨rfl, hb10⟩
            go_wp2_with fail
            go_ret
            have k1 : Below w.heap.size w w9 := hb6.out.trans ((s8.trans s9).keep.below hb6.out.size hf5.out)
            exact ⟨rfl, k1.trans (hb10.mono k1.size)⟩
      · obtain ⟨gk, capk, hu, _, hlk⟩ := sd.out.row.form (by omega)
        subst hu
        have hKA := hid (keepAt_row gk capk (k + (1 + m)) (by omega) (by omega) sd.out.row)
        have h4 : Hid (Disk (wr.alloc (.cells #[.slice none 0 0, .slice none 0 0, .slice none 0 0, .slice (some ⟨gk, 0, none⟩) (k + (1 + m)) capk] 22)) b S gd V3) := h3.out.below ((Below.refl _ wr).alloc (Nat.le_refl _) _)
        have hback := hid (back_walk HS.out h4.out [[], [], [], below (k + (1 + m))] wr.heap.size 0 4 _ _ _ _ (by simp) (by simp) (by simp) hKA.out (by simp) (by rw [hI.out.writes]; omega))
        go_wp2_with fail
        refine hback.out.mono ?_
        rintro e w5 ⟨rfl, L', V5, hp, hs, h5, s5⟩
        have hrd := hid (fun i => hI.out.all (k + (1 + m)) (by omega) L' hp i)
        have hb7 := hid ((sd.out.below.alloc sd.out.bs _).trans (s5.keep.below (by have := sd.out.bs; simp; omega) sd.out.foot))
        have hf5 : Hid (∀ q, foot b gd V5 q → w.heap.size ≤ q) := fun q hq => by
          rcases s5.foot' q hq with h1 | h1
          · exact sd.out.foot q h1
          · have := sd.out.bs; simp at h1; omega
        have hn5 : Hid ((((S.back L').n : Nat) : Int) = 20) := by show ((S.n : Nat) : Int) = 20; rw [hI.out.n]; rfl
        have hw5 : Hid ((S.back L').writes < 1000000) := by show S.writes < 1000000; rw [hI.out.writes]; omega
        have hdn5 : Hid ((S.back L').down = false) := rfl
        have hlf5 : Hid ((S.back L').left = 0) := rfl
        replace h5 := hid h5
        generalize S.back L' = S5 at *
        clear hp hs s5 hback hKA hI Hd
        obtain ⟨Z, hZ⟩ : ∃ Z, zbytes 256 = Z := ⟨_, rfl⟩
        have HZ := hid hZ
        rw [hZ] at hrd
        clear hZ
        go_wp2_with fail
        go_loopw [14] (fun c wq => ∃ i : Nat, i ≤ 20 ∧ c = .int .i64 i ∧ Hid (Disk wq b S5 gd V5) ∧ Hid (Below w.heap.size w wq)) (fun c _ => 20 - (intOf c).toNat)
        case atStart => exact ⟨0, by omega, rfl, h5, hb7⟩
        case round =>
          obtain ⟨i, hi, rfl, h6, hb6⟩ := hrel
          by_cases hlt : i < 20
          · have hri := hid (hrd.out i)
            by_cases hik : i < k
            · have hik1 : (i : Int) < (k : Int) := by omega
              go_wp2_with fail
              refine (kZeroN h6 Z HZ).mono ?_
              rintro e w8 ⟨rfl, h8, s8⟩
              go_wp2_with fail
              refine (kFill h8 (1 + (i : Int)) (by omega) (by omega)).mono ?_
              rintro e w9 ⟨rfl, h9, s9⟩
              have ef : (1 + (i : Int)).toNat = 1 + i := by omega
              rw [ef]
              clear ef
              have hF : Hid (S5.read i = Fill (1 + i)) := by show S5.read i = _; rw [hri.out, if_pos hik]
              generalize Fill (1 + i) = F at *
              go_wp2_with fail
              refine (kRead h9 (i : Int) (by omega) (by have := hn5.out; omega) hdn5.out F hF.out).mono ?_
              rintro e w10 ⟨rfl, h10, s10⟩
              go_wp2_with fail
              refine ⟨⟨i + 1, by omega, by go_num, h10, hb6.out.trans (((s8.trans s9).trans s10).keep.below hb6.out.size hf5.out)⟩, by simp [intOf]; omega⟩
            · have hik1 : (k : Int) ≤ (i : Int) := by omega
              go_wp2_with fail
              refine (kZeroN h6 Z HZ).mono ?_
              rintro e w8 ⟨rfl, h8, s8⟩
              go_wp2_with fail
              refine (kRead h8 (i : Int) (by omega) (by have := hn5.out; omega) hdn5.out Z (by show S5.read i = Z; rw [hri.out, if_neg hik])).mono ?_
              rintro e w9 ⟨rfl, h9, s9⟩
              go_wp2_with fail
              refine ⟨⟨i + 1, by omega, by go_num, h9, hb6.out.trans ((s8.trans s9).keep.below hb6.out.size hf5.out)⟩, by simp [intOf]; omega⟩
          · have e : i = 20 := by omega
            subst e
            go_wp2_with fail
            refine (kZeroN h6 Z HZ).mono ?_
            rintro e w8 ⟨rfl, h8, s8⟩
            go_wp2_with fail
            refine (kWrite h8 3 0 Z (by omega) (by omega) (by omega) (by have := hn5.out; omega) (by rw [← HZ.out]; exact zbytes_size 256) hdn5.out hw5.out).mono ?_
            rintro e w9 ⟨rfl, V9, h9, s9⟩
            go_wp2_with fail
            refine (kDown h9 false (by show (if S5.left = 0 then S5.down else _) = false; rw [if_pos hlf5.out]; exact hdn5.out)).mono ?_
            rintro e w10 ⟨rfl, rfl⟩
            go_wp2_with fail
            refine (awake_t w9).mono ?_
            rintro e w10 ⟨rfl, hb10⟩
            go_wp2_with fail
            go_ret
            have k1 : Below w.heap.size w w9 := hb6.out.trans ((s8.trans s9).keep.below hb6.out.size hf5.out)
            exact ⟨rfl, k1.trans (hb10.mono k1.size)⟩

end Go.Proofs.Ytodfecipeabmlaa
