/- A segment's text from a block on: text walked. -/
import Derived.Test.YtaiebhkjkeadoaaRollGround
import Derived.Test.YtaiebhkjkeadoaaGeomStart
import Derived.Test.YtaiebhkjkeadoaaDiskRead
import Derived.Test.YtaiebhkjkeadoaaBldWrite
namespace Go.Proofs.Ytaiebhkjkeadoaa
open Go.RowKit Lo Hdp Rol Chk

/-- What is read has a sector's size. -/
theorem read_size {w : World} {b gd : Nat} {S : St} {V : Nat → Value} (h : Disk w b S gd V) (i : Nat) (hi : i < S.n) : (S.read i).size = 256 := by
  have hk : ∀ k, k ≤ 17 → (newestTo i S.waits k = noWr ∨ (newestTo i S.waits k).bytes.size = 256) := by
    intro k
    induction k with
    | zero => intro _; exact .inl rfl
    | succ k ih =>
      intro hk17
      rw [newestTo_succ]
      have hl : ∀ (l : List Wr) (x : Wr), (∀ y ∈ l, y.bytes.size = 256) → (x = noWr ∨ x.bytes.size = 256) → (pickL i x l = noWr ∨ (pickL i x l).bytes.size = 256) := by
        intro l
        induction l with
        | nil => intro x _ hx; exact hx
        | cons y l ihl =>
          intro x hy hx
          refine ihl (pick1 i x y) (fun z hz => hy z (List.mem_cons_of_mem _ hz)) ?_
          unfold pick1
          split
          · exact .inr (hy y (by simp))
          · exact hx
      exact hl _ _ (fun y hy => (h.ok.each k (by omega) y hy).2.1) (ih (by omega))
  unfold St.read
  split
  · next hp =>
    rcases hk 17 (Nat.le_refl _) with e | e
    · rw [e] at hp
      exact absurd hp (by decide)
    · exact e
  · exact h.du.size hi

theorem roStr {a b : ByteArray} (h : a = b) : Ending.returned (.string a) = .returned (.string b) := by rw [h]
theorem run_bytes {rd : Nat → ByteArray} {F j : Nat} : (⟨(run rd F j).data.toList.toArray⟩ : ByteArray) = run rd F j := by
  apply bytes_ext
  simp
theorem run_next {rd : Nat → ByteArray} {F j : Nat} : (run rd F j).data.toList ++ (rd (F + j)).data.toList = (run rd F (j + 1)).data.toList := by
  rw [run_succ, ByteArray.data_append, Array.toList_append]

set_option maxRecDepth 10000 in
set_option maxHeartbeats 4000000 in
theorem rtext_t (wb b gd n : Nat) (D : St) (V : Nat → Value) (L : Lg) (v : Value) (segs : List Int) (seg pos : Int) (t : TypeId) (w : World) (h : w.heap[wb]? = some (.cells (wkC b (48 + 32 * (n : Int)) 32 L v) t (0, 0))) (hI : Ints w v segs) (hl : segs.length ≤ 100000)
    (hD : Disk w b D gd V) (hn : D.n = 48 + 32 * n) (hn2 : 8 ≤ n) (hn3 : n ≤ 100) (hup : D.down = false) :
    Calls Try.prog 53 #[.pointer (some ⟨wb, 0, none⟩), .int .i64 seg, .int .i64 pos] w fun e w' => e = .returned (.string (atT D.read n segs seg pos)) ∧ Below w.heap.size w w' := by
  have hgeo : GeomOk (48 + 32 * (n : Int)) 32 := ⟨by decide, by decide, by omega, by omega⟩
  have hsg : (48 + 32 * (n : Int) - 48) / 32 = n := by omega
  have hS : SegsSaid (48 + 32 * (n : Int)) 32 n := fun w1 => (segs_yes (48 + 32 * (n : Int)) 32 w1 hgeo).mono fun _ _ ⟨he, hb⟩ => ⟨by rw [he, hsg], hb⟩
  have HA := rohid (rhas_t wb b n _ _ L v segs seg t w h hI hl hS)
  have hlt : wb < w.heap.size := (Array.getElem?_eq_some_iff.1 h).1
  rcases Int.lt_or_le pos 0 with h0 | h0
  · have HT : Hid (atT D.read n segs seg pos = ⟨#[]⟩) := atT_no (.inl h0)
    generalize atT D.read n segs seg pos = T at *
    clear HA hS hgeo
    go_enter Try.func53, Try.ntmps53
    go_wp2_with fail
    go_ret
    exact ⟨roStr HT.out.symm, Below.refl _ _⟩
  · cases hin : inS n segs seg
    · have HT : Hid (atT D.read n segs seg pos = ⟨#[]⟩) := atT_no (.inr hin)
      generalize atT D.read n segs seg pos = T at *
      rw [hin] at HA
      clear hS hgeo hin
      go_enter Try.func53, Try.ntmps53
      go_wp2_with fail
      refine HA.out.mono ?_
      rintro e w1 ⟨rfl, hb⟩
      have HB := rohid hb
      clear hb
      go_wp2_with fail
      go_ret
      exact ⟨roStr HT.out.symm, HB.out⟩
    · have HT : Hid (atT D.read n segs seg pos = run D.read (48 + 32 * seg.toNat + pos.toNat) (32 - pos.toNat)) := atT_yes h0 hin
      generalize atT D.read n segs seg pos = T at *
      rw [hin] at HA
      have hsb : 0 ≤ seg ∧ seg < n := by
        simp only [inS, Bool.and_eq_true, decide_eq_true_eq] at hin
        exact hin.2
      obtain ⟨sg, rfl⟩ := Int.eq_ofNat_of_zero_le hsb.1
      obtain ⟨p, rfl⟩ := Int.eq_ofNat_of_zero_le h0
      obtain ⟨F0, hF0⟩ : ∃ F0, 48 + 32 * sg = F0 := ⟨_, rfl⟩
      have hsn : sg < n := by omega
      have HST := rohid (fun w1 => start_yes (48 + 32 * (n : Int)) 32 (sg : Int) ((sg : Int) * 32) w1 hgeo (by omega) (by rw [hsg]; omega) rfl (by omega) (by omega))
      rw [show (48 : Int) + (sg : Int) * 32 = (F0 : Int) by omega] at HST
      have HRD := rohid (fun (w1 : World) (i : Nat) (hb : Below w.heap.size w w1) (hi : i < D.n) => disk_read (hD.below hb) i hi hup)
      have HSZ := rohid (fun (i : Nat) (hi : i < D.n) => read_size hD i hi)
      have HR := rohid h
      rw [show (48 + 32 * ((sg : Nat) : Int).toNat + ((p : Nat) : Int).toNat : Nat) = F0 + p by simp [hF0], show 32 - ((p : Nat) : Int).toNat = 32 - p by simp] at HT
      have hFn : F0 + 32 ≤ D.n := by omega
      have hFn2 : F0 ≤ 10000 := by omega
      clear hS hgeo hin h hD hF0 hsb h0 hn hsg
      generalize D.read = rd at *
      go_enter Try.func53, Try.ntmps53
      go_wp2_with fail
      refine HA.out.mono ?_
      rintro e w1 ⟨rfl, hb⟩
      have HB := rohid hb
      have HR1 := row_on HR.out hb
      have c1 : w1.cell? ⟨wb, 1, none⟩ = some (.int .i64 (48 + 32 * (n : Int))) := (cell_of_row _ _ _ _ _ _ HR1).trans rfl
      have c2 : w1.cell? ⟨wb, 2, none⟩ = some (.int .i64 32) := (cell_of_row _ _ _ _ _ _ HR1).trans rfl
      have hs1 := hb.size
      have hwb1 : wb < w1.heap.size := by omega
      clear hb HA HR1
      go_wp2_with fail
      refine (HST.out _).mono ?_
      rintro e w2 ⟨rfl, hb⟩
      have HBD : Hid (Bd w2 w1.heap.size w1.heap.size []) := (Bd.new w1).on hb
      have HB2 : Hid (Below w.heap.size w w2) := (HB.out.alloc HB.out.size _).trans (hb.mono (Nat.le_trans HB.out.size (by simp)))
      have hs2 : w1.heap.size < w2.heap.size := by have := hb.size; simp at this; omega
      clear hb HST HB c1 c2
      go_wp2_with fail
      go_loopw [2] (fun c wr => ∃ k : Nat, (k = 0 ∨ p + k ≤ 32) ∧ c = .int .i64 (p + k : Nat) ∧ Hid (Bd wr w1.heap.size w1.heap.size (run rd (F0 + p) k).data.toList) ∧ Hid (Below w.heap.size w wr)) (fun c _ => 32 - (intOf c).toNat)
      case atStart => exact ⟨0, .inl rfl, rfl, HBD, HB2⟩
      case round =>
        obtain ⟨k, hk, rfl, HK, HBk⟩ := hrel
        have HR2 := row_on HR.out HBk.out
        have c0 : wr.cell? ⟨wb, 0, none⟩ = some (.pointer (some ⟨b, 0, none⟩)) := (cell_of_row _ _ _ _ _ _ HR2).trans rfl
        have c2 : wr.cell? ⟨wb, 2, none⟩ = some (.int .i64 32) := (cell_of_row _ _ _ _ _ _ HR2).trans rfl
        clear HR2
        by_cases hlt2 : p + k < 32
        · have hkl : (run rd (F0 + p) k).data.toList.length = 256 * k := by
            rw [← size_list, run_size fun i hi => HSZ.out _ (by omega)]
          have RD := rohid (HRD.out wr (F0 + (p + k)) HBk.out (by omega))
          have WT := rohid (fun (w3 : World) (h3 : Bd w3 w1.heap.size w1.heap.size (run rd (F0 + p) k).data.toList) (hs : w1.heap.size ≤ w3.heap.size) => write_t w1.heap.size w1.heap.size _ (rd (F0 + (p + k))) w3 h3 (by rw [hkl, HSZ.out _ (by omega)]; omega) hs)
          have HN : Hid ((run rd (F0 + p) k).data.toList ++ (rd (F0 + (p + k))).data.toList = (run rd (F0 + p) (k + 1)).data.toList) := by
            rw [show F0 + (p + k) = F0 + p + k by omega]
            exact run_next
          have hks := HBk.out.size
          rw [show ((F0 + (p + k) : Nat) : Int) = (F0 : Int) + ((p + k : Nat) : Int) by omega] at RD
          obtain ⟨q, hq⟩ : ∃ q, p + k = q := ⟨_, rfl⟩
          rw [hq] at RD WT HN hlt2 ⊢
          have HQ := rohid hq
          clear hq hkl hk
          go_wp2_with fail
          refine RD.out.mono ?_
          rintro e w3 ⟨rfl, hb⟩
          have HK3 := rohid (HK.out.on hb)
          have HB3 : Hid (Below w.heap.size w w3) := HBk.out.trans (hb.mono HBk.out.size)
          have hs3 : w1.heap.size ≤ w3.heap.size := Nat.le_of_lt HK3.out.lt
          clear hb HK HBk RD c0 c2
          go_wp2_with fail
          refine (WT.out w3 HK3.out hs3).mono ?_
          rintro e w4 ⟨rfl, hK4, hb, -⟩
          rw [HN.out] at hK4
          have HK4 := rohid hK4
          have HB4 : Hid (Below w.heap.size w w4) := HB3.out.trans (hb.mono hs1)
          clear hK4 hb HK3 HB3 WT HN
          go_wp2_with fail
          exact ⟨⟨k + 1, .inr (by have := HQ.out; omega), by have := HQ.out; rw [show p + (k + 1) = q + 1 by omega]; go_num, HK4, HB4⟩, by simp [intOf]; omega⟩
        · have HTT : Hid (T = run rd (F0 + p) k) := by
            rw [HT.out]
            congr 1
            omega
          have TX := rohid (text_t w1.heap.size w1.heap.size _ wr HK.out (Nat.le_of_lt HK.out.lt))
          rw [run_bytes, ← HTT.out] at TX
          have hq2 : 32 ≤ p + k := by omega
          generalize p + k = q at *
          clear hlt2 hk HT HTT HK
          go_wp2_with fail
          refine TX.out.mono ?_
          rintro e w3 ⟨rfl, -, hb, -⟩
          have HB3 : Hid (Below w.heap.size w w3) := HBk.out.trans (hb.mono hs1)
          clear hb TX HBk c0 c2
          go_wp2_with fail
          go_ret
          exact ⟨rfl, HB3.out⟩
end Go.Proofs.Ytaiebhkjkeadoaa
