/- Back: of each owner's waiting writes those at the places named become durable, in the order of their numbers; the others are lost. The sort comes in as a hypothesis (SortSaid). -/
import Derived.Test.YtaiebhkjkeadoaaGreatDiskCmp
namespace Go.Proofs.YtaiebhkjkeadoaaGreat
open Go.RowKit

/-- slices.SortFunc at the writes: a permutation, by their orders. -/
def SortSaid : Prop := ∀ (g cap : Nat) (L : List Wr) (w : World), w.ownsRow 0 69 3 (.slice (some ⟨g, 0, none⟩) L.length cap) L.length (wcells L) → L.length ≤ 1000000 →
  Calls Tryz.prog 29 #[.slice (some ⟨g, 0, none⟩) L.length cap, .func (Fn.func 30) #[] #[]] w fun e w' => e = .returned (.tuple #[]) ∧
    ∃ L' : List Wr, L'.Perm L ∧ L'.Pairwise (fun x y => x.order ≤ y.order) ∧ w'.ownsRow 0 69 3 (.slice (some ⟨g, 0, none⟩) L.length cap) L.length (wcells L') ∧ Keep (fun k => k = g) w w'

/-- A list of lists of places, as it lies in memory. -/
structure KeepAt (w : World) (K : List (List Int)) (kb ko : Nat) (pad : Nat → Option Addr) (pb po pcap : Nat → Nat) : Prop where
  len : ∀ j (h : j < K.length), (K[j]).length ≤ 1000000
  cell : ∀ j (h : j < K.length), w.cell? ⟨kb, ko + j, none⟩ = some (.slice (pad j) (K[j]).length (pcap j))
  at' : ∀ j (h : j < K.length), 0 < (K[j]).length → pad j = some ⟨pb j, po j, none⟩ ∧ pb j < w.heap.size
  int : ∀ j (h : j < K.length) t (h' : t < (K[j]).length), w.cell? ⟨pb j, po j + t, none⟩ = some (.int .i64 (K[j])[t])

/-- The sort, at a row or at nil. -/
theorem sortV (hS : SortSaid) (v : Value) (L : List Wr) (w : World) (hown : w.ownsRow 0 69 3 v L.length (wcells L)) (hL : L.length ≤ 1000000) :
    Calls Tryz.prog 29 #[v, .func (Fn.func 30) #[] #[]] w fun e w' => e = .returned (.tuple #[]) ∧ ∃ L' : List Wr, L'.Perm L ∧ L'.Pairwise (fun x y => x.order ≤ y.order) ∧ w'.ownsRow 0 69 3 v L'.length (wcells L') ∧ Keep (fun k => v.ownBlock = some k) w w' := by
  rcases hown.2 with ⟨hv, hn⟩ | ⟨g, cap, cur, hv, _, hg, _⟩
  · have hL0 : L = [] := List.eq_nil_of_length_eq_zero hn
    subst hv
    subst hL0
    refine (sort_nil _ w).mono ?_
    rintro e w' ⟨rfl, rfl⟩
    exact ⟨rfl, [], List.Perm.refl _, List.Pairwise.nil, hown, Keep.refl _ _⟩
  · subst hv
    refine (hS g cap L w hown hL).mono ?_
    rintro e w' ⟨rfl, L', hp, hs, ho, hk⟩
    refine ⟨rfl, L', hp, hs, ?_, hk.mono (fun i _ hi => by subst hi; rfl)⟩
    rw [hp.length_eq]; exact ho

/-- settle, at a row or at nil. -/
theorem settleV (b gd n : Nat) (v : Value) (dur : Nat → ByteArray) (L : List Wr) (w : World)
    (c0 : w.cell? ⟨b, 0, none⟩ = some (.slice (some ⟨gd, 0, none⟩) n n)) (hdu : Du w gd n dur) (hrow : w.ownsRow 0 69 3 v L.length (wcells L)) (hlen : L.length ≤ 1000000) (hn : n ≤ 16384)
    (hL : ∀ x ∈ L, x.pos < n ∧ x.bytes.size = 256) (hbg : gd ≠ b) (hg : v.ownBlock ≠ some gd) :
    Calls Tryz.prog 27 #[.pointer (some ⟨b, 0, none⟩), v] w fun e w' => e = .returned (.tuple #[]) ∧ Du w' gd n (settleL dur L) ∧ Keep (fun k => k = gd) w w' := by
  rcases hrow.2 with ⟨hv, hn0⟩ | ⟨g, cap, cur, hv, _⟩
  · have hL0 : L = [] := List.eq_nil_of_length_eq_zero hn0
    subst hv
    subst hL0
    refine (settle_nil _ w).mono ?_
    rintro e w' ⟨rfl, rfl⟩
    exact ⟨rfl, hdu, Keep.refl _ _⟩
  · subst hv
    exact settle_row b gd n g cap dur L w c0 hdu hrow hlen hn hL hbg (fun e => hg (by subst e; rfl))

set_option maxHeartbeats 2000000 in
theorem back_walk (hS : SortSaid) {w : World} {b gd : Nat} {S : St} {V : Nat → Value} (h : Disk w b S gd V) (K : List (List Int)) (kb ko kcap : Nat) (pad : Nat → Option Addr) (pb po pcap : Nat → Nat)
    (hK0 : 0 < K.length) (hK : K.length ≤ 17) (hcap : K.length ≤ kcap) (hKA : KeepAt w K kb ko pad pb po pcap) (hkb : kb < w.heap.size) (hw : S.writes ≤ 10000) :
    Calls Tryz.prog 11 #[.pointer (some ⟨b, 0, none⟩), .slice (some ⟨kb, ko, none⟩) K.length kcap] w fun e w' => e = .returned (.tuple #[]) ∧
      ∃ L' V', L'.Perm (keptTo S.waits K K.length) ∧ L'.Pairwise (fun x y => x.order ≤ y.order) ∧ Disk w' b (S.back L') gd V' ∧ Step b gd w V w' V' := by
  have H := dkhid h
  have hbl := h.hd.lt
  clear h
  have HK := dkhid hKA
  clear hKA
  have hS' := dkhid hS
  clear hS
  have hmin : min (K.length : Int) 17 = K.length := by omega
  go_enter Tryz.func11, Tryz.ntmps11
  go_wp2
  go_loopw [4, 13] (fun v c wr => ∃ j : Nat, j ≤ K.length ∧ c = .int .i64 j ∧ Hid (wr.ownsRow 0 69 3 v (keptTo S.waits K j).length (wcells (keptTo S.waits K j))) ∧ Hid (Below w.heap.size w wr) ∧ Hid (∀ q, v.ownBlock = some q → w.heap.size ≤ q))
    (fun _ c _ => K.length - (intOf c).toNat)
  case atStart => exact ⟨0, by omega, rfl, World.ownsRow_nil _ _ _ _, Below.refl _ _, fun q hq => (by cases hq)⟩
  case round =>
    obtain ⟨j, hj, rfl, hown, hb, hblk⟩ := hrel
    by_cases hlt : j < K.length
    · have hc : wr.cell? ⟨kb, ko + j, none⟩ = some (.slice (pad j) (K[j]).length (pcap j)) := by rw [hb.out.cell (by exact hkb)]; exact HK.out.cell j hlt
      have hV : ∃ lad lcap g, V j = .slice lad (S.waits j).length lcap ∧ (0 < (S.waits j).length → lad = some ⟨g, 0, none⟩ ∧ g < w.heap.size) ∧ (∀ k, k < (S.waits j).length → ∀ r, r < 3 → w.cell? ⟨g, k * 3 + r, none⟩ = (wcells (S.waits j))[k * 3 + r]?) := by
        have hrow := H.out.row j (by omega)
        rcases hrow.2 with ⟨hv, hn⟩ | ⟨g, cap, cur, hv, _, hg, _⟩
        · exact ⟨none, 0, 0, by rw [hv, hn], fun h => by omega, fun k hk => by omega⟩
        · rw [hv] at hrow
          exact ⟨_, cap, g, hv, fun _ => ⟨rfl, (hrow.lt g rfl).2⟩, fun k hk r hr => hrow.cellAt (k * 3 + r) (by omega)⟩
      obtain ⟨lad, lcap, g, hVj, hlad, hLc⟩ := hV
      have cV : wr.cell? ⟨b, 1 + j, none⟩ = some (.slice lad (S.waits j).length lcap) := by rw [hb.out.cell (by exact hbl), H.out.hd.cV j (by omega), hVj]
      have hmany : ∀ o, o < 17 → (S.waits o).length ≤ 10000 := fun o ho => Nat.le_trans (H.out.ok.many o ho) hw
      have hkl := keptTo_length S.waits K 10000 hmany j (by omega)
      have hm := hmany j (by omega)
      have hcall := dkhid (places_t u4 (keptTo S.waits K j) (S.waits j) lad (pad j) g (pb j) (po j) lcap (pcap j) (K[j]) wr hown.out
        (fun h0 => ⟨(hlad h0).1, Nat.lt_of_lt_of_le (hlad h0).2 hb.out.size, fun e => by have := hblk.out g e; have := (hlad h0).2; omega⟩)
        (fun k hk r hr => by
          have h0 : 0 < (S.waits j).length := by omega
          rw [hb.out.cell (by exact (hlad h0).2)]; exact hLc k hk r hr)
        (fun h0 => ⟨(HK.out.at' j hlt h0).1, Nat.lt_of_lt_of_le (HK.out.at' j hlt h0).2 hb.out.size⟩)
        (fun t ht => by rw [hb.out.cell (by exact (HK.out.at' j hlt (by omega)).2)]; exact HK.out.int j hlt t ht)
        (by omega) (by omega) (HK.out.len j hlt))
      have hkj : Hid (keptTo S.waits K (j + 1) = keptTo S.waits K j ++ sel (S.waits j) (K[j])) := by
        show keptTo S.waits K j ++ sel (S.waits j) (K.getD j []) = _
        rw [List.getD_eq_getElem?_getD, List.getElem?_eq_getElem hlt]; rfl
      clear hVj hlad hLc hkl hmany hm
      go_wp2_with (go_at_call 28; refine hcall.out.mono ?_; rintro e w1 ⟨tv', rfl, hown1, hk1, hf1⟩; replace hown1 := dkhid hown1; replace hk1 := dkhid hk1; replace hf1 := dkhid hf1)
      go_roundw
      case rel =>
        refine ⟨j + 1, by omega, by go_num, ?_, ?_, ?_⟩
        · rw [hkj.out]; exact hown1
        · exact hb.out.trans (hk1.out.below hb.out.size (fun i hi => hblk.out i hi))
        · intro q hq
          rcases hf1.out q hq with h1 | h1
          · exact hblk.out q h1
          · have := hb.out.size; omega
      case measure => simp [intOf]; omega
    · have e : j = K.length := by omega
      subst e
      have hmany : ∀ o, o < 17 → (S.waits o).length ≤ 10000 := fun o ho => Nat.le_trans (H.out.ok.many o ho) hw
      have hkl := keptTo_length S.waits K 10000 hmany K.length hK
      have hsort := dkhid (sortV hS'.out u4 _ wr hown.out (by omega))
      have Hkl := dkhid hkl
      clear hkl hmany
      go_wp2_with fail
      refine hsort.out.mono ?_
      rintro e w1 ⟨rfl, L', hp, hs, hown1, hk1⟩
      have Hp := dkhid hp
      have Hs := dkhid hs
      -- the disk stands as it did: the sort touches new memory alone
      have hb1 : Below w.heap.size w w1 := hb.out.trans (hk1.below hb.out.size (fun i hi => hblk.out i hi))
      have h1 := dkhid (H.out.below hb1)
      have Hb1 := dkhid hb1
      have hu4 : u4.ownBlock ≠ some gd := fun e => by have := hblk.out gd e; have := H.out.du.lt; omega
      have hset := dkhid (settleV b gd S.n u4 S.dur L' w1 h1.out.hd.c0 h1.out.du hown1 (by have := hp.length_eq; have := Hkl.out; omega) H.out.ok.n2 (fun x hx => by
        obtain ⟨o, ho, hxo⟩ := keptTo_mem S.waits K K.length x (hp.subset hx)
        have := H.out.ok.each o (by omega) x hxo
        exact ⟨this.1, this.2.1⟩) H.out.bg hu4)
      clear hp hs hown1 hk1 hb1 hu4 hsort
      go_wp2_with fail
      refine hset.out.mono ?_
      rintro e w2 ⟨rfl, hd2, hk2⟩
      have hbl1 : b < w1.heap.size := h1.out.hd.lt
      have hh2 : DHd w2 b S.n gd V S.writes S.left S.down := h1.out.hd.of_block (hk2.block b hbl1 (fun e => H.out.bg e.symm))
      have hn2 := hh2.setNils
      have ht := hh2.there
      have c19 := hn2.c19
      have f19 := hn2.fr 19
      have c20 := hn2.c20
      have f20 := hn2.fr 20
      have Hn2 := dkhid hn2
      have Hd2 := dkhid hd2
      have Hk2 := dkhid hk2
      clear hn2 hh2 hd2 hk2 hset
      obtain ⟨W, hW⟩ : ∃ W, W = w2.setCells b 1 nils := ⟨_, rfl⟩
      rw [← hW] at c19 f19 c20 f20
      have HW := dkhid hW
      clear hW
      obtain ⟨N, hN⟩ : ∃ N : Array Value, N = nils.toArray := ⟨_, rfl⟩
      have hlit : Hid (Value.agg #[.slice none 0 0, .slice none 0 0, .slice none 0 0, .slice none 0 0, .slice none 0 0, .slice none 0 0, .slice none 0 0, .slice none 0 0, .slice none 0 0, .slice none 0 0, .slice none 0 0, .slice none 0 0, .slice none 0 0, .slice none 0 0, .slice none 0 0, .slice none 0 0, .slice none 0 0] = Value.agg N) := by subst hN; rfl
      have hs1 : w2.there b 1 N.size := by subst hN; exact ht
      have hs2 : (Tryz.prog.info? 58).map (·.size) = some N.size := by subst hN; exact Tryz.dkSize17
      have hs3 : N.all (·.oneCell') = true := by subst hN; exact all_oneCell_toArray (cs := nils) (fun v hv => by rw [List.eq_of_mem_replicate hv]; rfl)
      have hs4 : Hid (w2.setCells b 1 N.toList = W) := by subst hN; exact HW.out.symm
      clear hN ht
      go_wp2_with (refine wpList_store_mid rfl 58 (.tmp 36) (.tmp 34) rfl b 1 N rfl hlit.out hs1 hs2 hs3 ?_; rw [hs4.out])
      go_end0
      refine ⟨rfl, L', fun _ => .slice none 0 0, Hp.out, Hs.out, ?_⟩
      rw [HW.out] at c19 f19 c20 f20 ⊢
      have hkb : Keep (fun k => k = b) w2 (((w2.setCells b 1 nils).setCell ⟨b, 19, none⟩ (.int .i64 (0 : Nat))).setCell ⟨b, 20, none⟩ (.bool false)) :=
        Keep.setCell (Keep.setCell (setCells_keep b nils 1 w2) (p := ⟨b, 19, none⟩) (fun _ => rfl) _) (p := ⟨b, 20, none⟩) (fun _ => rfl) _
      have hk01 : Keep (foot b gd V) w w2 := (keep_of_below Hb1.out _).trans' Hk2.out (fun i _ hi => .inr (.inl hi))
      have hk02 : Keep (foot b gd V) w (((w2.setCells b 1 nils).setCell ⟨b, 19, none⟩ (.int .i64 (0 : Nat))).setCell ⟨b, 20, none⟩ (.bool false)) := hk01.trans' hkb (fun i _ hi => .inl hi)
      have hgd2 : gd < w2.heap.size := Hd2.out.lt
      refine ⟨⟨(Hn2.out.set19 0).set20 false, Hd2.out.of_block (hkb.block gd hgd2 H.out.bg), fun o _ => World.ownsRow_nil _ _ _ _, H.out.bg, fun o _ g hg => (by cases hg), fun o o' _ _ _ g hg => (by cases hg), H.out.ok.back L'⟩, hk02, fun k hf => ?_⟩
      rcases hf with rfl | rfl | ⟨o, _, e⟩
      · exact .inl (.inl rfl)
      · exact .inl (.inr (.inl rfl))
      · cases e

end Go.Proofs.YtaiebhkjkeadoaaGreat
