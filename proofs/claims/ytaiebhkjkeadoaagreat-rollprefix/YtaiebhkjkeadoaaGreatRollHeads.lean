/- The laws' own heads: the sectors at which chunks begin. -/
import Derived.Test.YtaiebhkjkeadoaaGreatRollTwo
import Derived.Test.YtaiebhkjkeadoaaGreatRollFillW
namespace Go.Proofs.YtaiebhkjkeadoaaGreat
open Go.RowKit Lo Hdp Chk Rec Rol

namespace Rol
/-- Where it stands ahead of a chunk. -/
def AtP (cs : List Fnd) (i : Nat) (s p : Int) : Prop := (i = 0 ∧ s = 0 ∧ p = 0) ∨ ∃ (j : Nat) (hj : j < cs.length), i = j + 1 ∧ s = cs[j].seg ∧ p = cs[j].pos + 1 + (cs[j].bl.length : Int)
theorem Chain.last {rd : Nat → ByteArray} {n : Nat} {L M : Lg} {cs : List Fnd} (h : Chain rd n L cs M) (h0 : 0 < cs.length) : M.seg = (cs[cs.length - 1]'(by omega)).seg ∧ M.pos = (cs[cs.length - 1]'(by omega)).pos + 1 + ((cs[cs.length - 1]'(by omega)).bl.length : Int) := by
  cases h with
  | nil => exact absurd h0 (Nat.lt_irrefl 0)
  | @snoc M cs f h g =>
    have e : (cs ++ [f]).length - 1 = cs.length := by simp
    simp only [e]
    rw [List.getElem_concat_length rfl]
    exact ⟨rfl, rfl⟩
theorem Fil.step {S : St} {cs : List Fnd} {L : Lg} (h : Fil S cs L) (i : Nat) (hi : i < cs.length) {s p : Int} (hat : AtP cs i s p) : 0 ≤ s ∧ s ≤ 8 ∧ 0 ≤ p ∧ p ≤ 32 ∧ cs[i].bl.length ≤ 31 ∧ ((p + 1 + (cs[i].bl.length : Int) ≤ 32 ∧ cs[i].seg = s ∧ cs[i].pos = p) ∨ (32 < p + 1 + (cs[i].bl.length : Int) ∧ cs[i].seg = s + 1 ∧ cs[i].pos = 0)) := by
  obtain ⟨A, a1, a2, -⟩ := h.chain.part i hi
  have hA : A.seg = s ∧ A.pos = p := by
    rcases hat with ⟨e0, e1, e2⟩ | ⟨j, hj, e0, e1, e2⟩
    · subst e0
      have e := a1.nil_eq List.take_zero
      subst e
      exact ⟨e1.symm, e2.symm⟩
    · subst e0
      have e3 : (cs.take (j + 1)).length - 1 = j := by rw [List.length_take]; omega
      obtain ⟨b1, b2⟩ := a1.last (by rw [List.length_take]; omega)
      simp only [e3, List.getElem_take] at b1 b2
      exact ⟨b1.trans e1.symm, b2.trans e2.symm⟩
  obtain ⟨e1, e2⟩ := hA
  subst e1 e2
  have hp := a1.pl pl0
  have h1 := hp.seg0
  have h2 := hp.pos0
  have h3 := hp.pos1
  have h4 := hp.next
  have h5 := a2.lies.seg1
  have h6 := a2.lies.pos1
  have h7 := a2.lies.pos0
  rcases a2.place with ⟨c1, c2⟩ | ⟨c1, c2, c3, -⟩
  · exact ⟨h1, by omega, h2, h3, by omega, .inl ⟨by omega, c1, c2⟩⟩
  · exact ⟨h1, by omega, h2, h3, by omega, .inr ⟨c3, by omega, c2⟩⟩
end Rol

/-- The first so many chunks' sectors. -/
def secs (cs : List Fnd) (i : Nat) : List Int := (cs.take i).map fun f => (sec f : Int)
theorem secs_length {cs : List Fnd} {i : Nat} (h : i ≤ cs.length) : (secs cs i).length = i := by
  unfold secs
  rw [List.length_map, List.length_take]
  omega
theorem secs_succ {cs : List Fnd} {i : Nat} (h : i < cs.length) : secs cs (i + 1) = secs cs i ++ [(sec cs[i] : Int)] := by
  unfold secs
  rw [List.take_succ_eq_append_getElem h, List.map_append]
  rfl
theorem secs_get {cs : List Fnd} {i j : Nat} (h : j < i) (hi : i ≤ cs.length) : (secs cs i)[j]'(by rw [secs_length hi]; exact h) = (sec cs[j] : Int) := by
  unfold secs
  rw [List.getElem_map, List.getElem_take]

set_option maxRecDepth 10000 in
set_option maxHeartbeats 4000000 in
theorem heads_t {S : St} {cs : List Fnd} {L : Lg} (hF : Fil S cs L) (v : Value) (w : World) (hI : Ints w v (lens cs)) (hl : cs.length ≤ 40) :
    Calls Tryz.prog 7 #[v] w fun e w' => ∃ v', e = .returned v' ∧ IOwn w' w.heap.size v' (secs cs cs.length) ∧ Below w.heap.size w w' := by
  have HF := rfhid hF
  have HI := rfhid hI
  obtain ⟨sad, scap, rfl, -, -, -⟩ := hI
  have hlen : (lens cs).length = cs.length := by simp [lens]
  rw [hlen] at HI ⊢
  clear hF
  go_enter Tryz.func7, Tryz.ntmps7
  go_wp2_with fail
  go_loopw [3, 4, 5, 6] (fun lv sv av c wr => ∃ (i : Nat) (s p : Int), i ≤ cs.length ∧ c = .int .i64 i ∧ sv = .int .i64 s ∧ av = .int .i64 p ∧ Hid (AtP cs i s p) ∧ Hid (IOwn wr w.heap.size lv (secs cs i)) ∧ Hid (Below w.heap.size w wr)) (fun _ _ _ c _ => cs.length - (intOf c).toNat)
  case atStart => exact ⟨0, 0, 0, Nat.zero_le _, rfl, rfl, rfl, .inl ⟨rfl, rfl, rfl⟩, IOwn.nil _ _, Below.refl _ _⟩
  case round =>
    obtain ⟨i, s, p, hi, rfl, rfl, rfl, HA, HO, HB⟩ := hrel
    rcases Nat.lt_or_ge i cs.length with hlt | hge
    · have hlt2 : i < (lens cs).length := by rw [hlen]; exact hlt
      obtain ⟨g, off, rfl, hcell⟩ : ∃ g off, sad = some ⟨g, off, none⟩ ∧ ∀ w1, Below w.heap.size w w1 → w1.cell? ⟨g, off + i, none⟩ = some (.int .i64 (cs[i].bl.length : Int)) := by
        obtain ⟨ad, cap, hv, _, _, hc⟩ := HI.out
        obtain ⟨g, off, ha, hg, hc2⟩ := hc (by omega)
        injection hv with hv1 hv2 hv3
        refine ⟨g, off, hv1.trans ha, fun w1 hb1 => ?_⟩
        rw [hb1.cell hg, hc2 i hlt2]
        simp [lens]
      obtain ⟨b1, b2, b3, b4, b5, b6⟩ := HF.out.step i hlt HA.out
      have HN := rfhid (show AtP cs (i + 1) cs[i].seg (cs[i].pos + 1 + (cs[i].bl.length : Int)) from .inr ⟨i, hlt, rfl, rfl, rfl⟩)
      have HSS := rfhid (secs_succ hlt)
      have hsec : ((sec cs[i] : Nat) : Int) = 48 + 32 * cs[i].seg + cs[i].pos := by
        have h9 := (HF.out.head i hlt).2.2.2.2.2
        have h7 := h9.seg0
        have h8 := h9.pos0
        unfold sec
        omega
      have hsl := secs_length hi
      obtain ⟨f, hf⟩ : ∃ f, cs[i] = f := ⟨_, rfl⟩
      rw [hf] at HN HSS hsec b5 b6 hcell
      have hc0 := hcell wr HB.out
      have HC := rfhid hcell
      clear hf hcell HA hlt2
      rcases b6 with ⟨b6, b7, b8⟩ | ⟨b6, b7, b8⟩
      · rw [b7, b8] at hsec HN
        have hg1 : decide ((32 : Int) < p + 1 + (f.bl.length : Int)) = false := decide_eq_false (by omega)
        rw [hsec] at HSS
        clear b7 b8 hsec
        generalize secs cs i = Lk at *
        have hbs := HB.out.size
        go_wp2_with (first
          | (refine wpList_append_one rfl _ _ rfl w.heap.size _ Lk rfl (HO.out.on ((Below.refl _ _).alloc (Nat.le_refl _) _)) wr.heap.size 1 [(48 + 32 * s + p : Int)] rfl 3 (0, 0) (heap_alloc_new _ _) (by simp) ?c2 ?c3 ?_)
          | fail)
        case c2 => simp; omega
        case c3 => simp; omega
        intro lv2 w4 hO4 hb4 hs4
        have HB4 : Hid (Below w.heap.size w w4) := (HB.out.alloc HB.out.size _).trans hb4
        have hc4 := HC.out w4 HB4.out
        rw [← HSS.out] at hO4
        have HO4 := rfhid hO4
        clear hO4 hb4 hs4 HC HSS HO HB hc0
        go_wp2_with fail
        refine ⟨⟨i + 1, s, p + 1 + (f.bl.length : Int), by omega, by go_num, rfl, by go_num, HN, HO4, HB4⟩, by simp [intOf]; omega⟩
      · rw [b7, b8] at hsec HN
        have hg1 : decide ((32 : Int) < p + 1 + (f.bl.length : Int)) = true := decide_eq_true (by omega)
        rw [hsec, Int.add_zero] at HSS
        clear b7 b8 hsec
        generalize secs cs i = Lk at *
        have hbs := HB.out.size
        go_wp2_with (first
          | (refine wpList_append_one rfl _ _ rfl w.heap.size _ Lk rfl (HO.out.on ((Below.refl _ _).alloc (Nat.le_refl _) _)) wr.heap.size 1 [(48 + 32 * (s + 1) : Int)] rfl 3 (0, 0) (heap_alloc_new _ _) (by simp) ?c2 ?c3 ?_)
          | fail)
        case c2 => simp; omega
        case c3 => simp; omega
        intro lv2 w4 hO4 hb4 hs4
        have HB4 : Hid (Below w.heap.size w w4) := (HB.out.alloc HB.out.size _).trans hb4
        have hc4 := HC.out w4 HB4.out
        rw [← HSS.out] at hO4
        have HO4 := rfhid hO4
        clear hO4 hb4 hs4 HC HSS HO HB hc0
        go_wp2_with fail
        refine ⟨⟨i + 1, (s + 1), 0 + 1 + (f.bl.length : Int), by omega, by go_num, rfl, by go_num, HN, HO4, HB4⟩, by simp [intOf]; omega⟩
    · have e : i = cs.length := by omega
      subst e
      go_wp2_with fail
      go_ret
      exact ⟨_, rfl, HO.out, HB.out⟩
end Go.Proofs.YtaiebhkjkeadoaaGreat
