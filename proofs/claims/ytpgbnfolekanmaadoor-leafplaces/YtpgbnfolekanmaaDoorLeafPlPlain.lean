/- Names put at places by numbers, plainly. -/
import Derived.Test.YtpgbnfolekanmaaDoorLeafText
import Derived.Test.YtpgbnfolekanmaaDoorLeafMay
import Derived.Test.YtpgbnfolekanmaaDoorLeafRow
namespace Go.Proofs.YtpgbnfolekanmaaDoor
open Go.RowKit Lf

/-- The name of a place by its number. -/
def pn (k : Nat) : ByteArray := ⟨#[110]⟩ ++ txS k 3 ++ txS (k / 26 : Nat) 2
def pf (k : Nat) : Nm := ⟨pn k, 1 + (k : Int)⟩
/-- Forty places, those that b names in use. -/
def pl (b : Nat → Bool) : List Nm := (List.range 40).map fun k => if b k then pf k else z
def putB1 (b : Nat → Bool) (k : Nat) : Nat → Bool := fun j => if j = k then true else b j
/-- Forty bools. -/
def brow (b : Nat → Bool) : Array Value := ((List.range 40).map fun k => Value.bool (b k)).toArray

theorem pl_length (b : Nat → Bool) : (pl b).length = 40 := by simp [pl]
theorem pl_get (b : Nat → Bool) (k : Nat) (h : k < (pl b).length) : (pl b)[k] = if b k then pf k else z := by simp [pl]
theorem pl_none : pl (fun _ => false) = List.replicate 40 z := by
  apply List.ext_getElem
  · rw [pl_length, List.length_replicate]
  · intro i h1 h2
    rw [pl_get, List.getElem_replicate]
    rfl
theorem pl_set (b : Nat → Bool) (k : Nat) : (pl b).set k (pf k) = pl (putB1 b k) := by
  apply List.ext_getElem
  · rw [List.length_set, pl_length, pl_length]
  · intro i h1 h2
    have h3 : i < (pl b).length := by rw [List.length_set] at h1; exact h1
    by_cases e : k = i
    · subst e
      rw [List.getElem_set_self, pl_get]
      simp [putB1]
    · rw [List.getElem_set_ne e, pl_get, pl_get]
      have : putB1 b k i = b i := if_neg (fun h => e h.symm)
      rw [this]
theorem brow_size (b : Nat → Bool) : (brow b).size = 40 := by simp [brow]
theorem brow_get (b : Nat → Bool) (k : Nat) (h : k < 40) : (brow b)[k]? = some (.bool (b k)) := by simp [brow, List.getElem?_range h]
theorem brow_set (b : Nat → Bool) (k : Nat) (h : k < 40) : (brow b).setIfInBounds k (.bool true) = brow (putB1 b k) := by
  apply Array.ext_getElem?
  intro x
  by_cases hx : x < 40
  · by_cases e : k = x
    · subst e
      rw [Array.getElem?_setIfInBounds_self_of_lt (by rw [brow_size]; exact h), brow_get _ _ hx]
      simp [putB1]
    · rw [Array.getElem?_setIfInBounds_ne e, brow_get _ _ hx, brow_get _ _ hx]
      have : putB1 b k x = b x := if_neg (fun h => e h.symm)
      rw [this]
  · rw [Array.getElem?_eq_none (by simp [brow_size]; omega), Array.getElem?_eq_none (by simp [brow_size]; omega)]

theorem pf_ok : ∀ k, k < 40 → okP (pf k) = true := by decide +kernel
theorem pf_apart : ∀ k, k < 40 → ∀ j, j < 40 → j = k ∨ isB (pf k).name (pf j) = false := by decide +kernel
theorem pf_em {k : Nat} (h : k < 40) : emB (pf k) = false := by
  have h1 := (okP_chk (pf_ok k h)).1
  cases he : emB (pf k)
  · rfl
  · rw [emB_z he] at h1
    cases h1
theorem pf_ne {k : Nat} (h : k < 40) : ¬ (pf k).name.toList = [] := by
  rw [Lib.toList_data]
  exact chk_ne (okP_chk (pf_ok k h)).1
theorem pl_em (b : Nat → Bool) (k : Nat) (h : k < (pl b).length) : emB (pl b)[k] = !b k := by
  have h40 : k < 40 := by rw [pl_length] at h; exact h
  rw [pl_get]
  cases b k
  · rfl
  · exact pf_em h40
theorem z_toList : z.name.toList = [] := by
  rw [Lib.toList_data]
  rfl
theorem z_is {s : ByteArray} (h : ¬ s.toList = []) : isB s z = false := by
  rw [isB_no]
  intro e
  exact h (by rw [← e]; exact z_toList)
/-- A place in use is not of another one's name. -/
theorem pl_is {b : Nat → Bool} {k j : Nat} (hk : k < 40) (hj : j < (pl b).length) (hne : j ≠ k) : isB (pf k).name (pl b)[j] = false := by
  have h40 : j < 40 := by rw [pl_length] at hj; exact hj
  rw [pl_get]
  cases b j
  · exact z_is (pf_ne hk)
  · rcases pf_apart k hk j h40 with h | h
    · exact absurd h hne
    · exact h

/-- A block of these places. -/
def pc (b : Nat → Bool) (q : Nat) : List Nm := ((pl b).drop (8 * q)).take 8
theorem pc_length {b : Nat → Bool} {q : Nat} (hq : q < 5) : (pc b q).length = 8 := by
  unfold pc
  rw [List.length_take, List.length_drop, pl_length]
  omega
theorem pc_get {b : Nat → Bool} {q i : Nat} (h : i < (pc b q).length) (h2 : 8 * q + i < (pl b).length) : (pc b q)[i] = (pl b)[8 * q + i] := by
  simp only [pc]
  rw [List.getElem_take, List.getElem_drop]
theorem pc_ok {b : Nat → Bool} {q : Nat} (hq : q < 5) : okB (pc b q) = true := by
  rw [okB_iff]
  refine ⟨pc_length hq, fun i h => ?_⟩
  have hi : i < 8 := by rw [pc_length hq] at h; exact h
  have hl : 8 * q + i < (pl b).length := by rw [pl_length]; omega
  have e := pc_get h hl
  rw [e, pl_get]
  cases hb : b (8 * q + i)
  · rfl
  · have hk : 8 * q + i < 40 := by omega
    show okAt (pc b q) i (pf (8 * q + i)) = true
    rw [okAt_fnd (pf_em hk) (pf_ok _ hk)]
    refine decide_eq_true (findIdx_is h ?_ fun j hj => ?_)
    · rw [e, pl_get, hb]
      exact isB_iff.2 rfl
    · have hjl : j < (pc b q).length := by omega
      have hl2 : 8 * q + j < (pl b).length := by rw [pl_length]; omega
      rw [pc_get hjl hl2]
      exact pl_is hk hl2 (by omega)

/-- From m on the first place that is not in use is f. -/
structure FirstF (b : Nat → Bool) (m f : Nat) : Prop where
  le : f ≤ 40
  used : ∀ j, m ≤ j → j < f → b j = true
  not : f < 40 → m ≤ f ∧ b f = false
theorem FirstF.start (b : Nat → Bool) : FirstF b 40 40 := ⟨Nat.le_refl _, fun j h1 h2 => absurd h2 (by omega), fun h => absurd h (by omega)⟩
theorem FirstF.no {b : Nat → Bool} {m : Nat} (hm : m < 40) (hb : b m = false) : FirstF b m m := ⟨by omega, fun j h1 h2 => absurd h2 (by omega), fun _ => ⟨Nat.le_refl _, hb⟩⟩
theorem FirstF.yes {b : Nat → Bool} {m f : Nat} (h : FirstF b (m + 1) f) (hb : b m = true) : FirstF b m f := ⟨h.le, fun j h1 h2 => by
  by_cases e : j = m
  · subst e; exact hb
  · exact h.used j (by omega) h2, fun h3 => ⟨by have := (h.not h3).1; omega, (h.not h3).2⟩⟩
theorem FirstF.free {b : Nat → Bool} {f : Nat} (h : FirstF b 0 f) : freeI (pl b) = f := by
  by_cases hf : f < 40
  · refine findIdx_is (by rw [pl_length]; exact hf) ?_ fun j hj => ?_
    · rw [pl_em, (h.not hf).2]
      rfl
    · rw [pl_em, h.used j (Nat.zero_le _) hj]
      rfl
  · have e : f = 40 := by have := h.le; omega
    rw [e]
    have := findIdx_none (l := pl b) (f := emB) (fun j hj => by
      have hj2 : j < 40 := by rw [pl_length] at hj; exact hj
      rw [pl_em, h.used j (Nat.zero_le _) (by omega)]
      rfl)
    rw [pl_length] at this
    exact this
/-- From m on the last place in use is ahead of t. -/
structure LastF (b : Nat → Bool) (m t : Nat) : Prop where
  off : ∀ j, j < 40 → m ≤ j → t ≤ j → b j = false
  at_ : 0 < t → t ≤ 40 ∧ m < t ∧ b (t - 1) = true
theorem LastF.start (b : Nat → Bool) : LastF b 40 0 := ⟨fun j h1 h2 => absurd h1 (by omega), fun h => absurd h (Nat.lt_irrefl 0)⟩
theorem LastF.no {b : Nat → Bool} {m t : Nat} (h : LastF b (m + 1) t) (hb : b m = false) : LastF b m t := ⟨fun j h1 h2 h3 => by
  by_cases e : j = m
  · subst e; exact hb
  · exact h.off j h1 (by omega) h3, fun h0 => by have := h.at_ h0; exact ⟨this.1, by omega, this.2.2⟩⟩
theorem LastF.yes {b : Nat → Bool} {m t : Nat} (h : LastF b (m + 1) t) (hm : m < 40) (hb : b m = true) : LastF b m (max t (m + 1)) := by
  by_cases h0 : 0 < t
  · have h1 := h.at_ h0
    have e : max t (m + 1) = t := by omega
    rw [e]
    exact ⟨fun j h2 h3 h4 => h.off j h2 (by omega) h4, fun _ => ⟨h1.1, by omega, h1.2.2⟩⟩
  · have e : max t (m + 1) = m + 1 := by omega
    rw [e]
    refine ⟨fun j h2 h3 h4 => h.off j h2 h4 (by omega), fun _ => ⟨by omega, by omega, ?_⟩⟩
    rw [Nat.add_sub_cancel]
    exact hb
theorem LastF.le {b : Nat → Bool} {m t : Nat} (h : LastF b m t) : t ≤ 40 := by
  rcases Nat.eq_zero_or_pos t with h0 | h0
  · omega
  · exact (h.at_ h0).1
theorem LastF.lst {b : Nat → Bool} {t : Nat} (h : LastF b 0 t) : Lst (pl b) t := by
  refine ⟨by rw [pl_length]; exact h.le, fun i hi h2 => ?_, fun h0 hi => ?_⟩
  · have hi2 : i < 40 := by rw [pl_length] at hi; exact hi
    rw [pl_em, h.off i hi2 (Nat.zero_le _) h2]
    rfl
  · rw [pl_em, (h.at_ h0).2.2]
    rfl
/-- Trimmed: the first places, up to whole blocks. -/
theorem LastF.trim {b : Nat → Bool} {t : Nat} (h : LastF b 0 t) : trimTo (pl b) t = (pl b).take ((t + 7) / 8 * 8) := by
  have hle := h.le
  have htl : t ≤ (pl b).length := by rw [pl_length]; exact hle
  apply List.ext_getElem
  · rw [trimTo_length htl, List.length_take, pl_length]
    omega
  · intro i h1 h2
    have h3 : i < (pl b).length := by rw [List.length_take] at h2; omega
    have h40 : i < 40 := by rw [pl_length] at h3; exact h3
    rw [trimTo_get htl, List.getElem_take]
    by_cases h4 : i < t
    · rw [dif_pos h4]
    · rw [dif_neg h4, pl_get, h.off i h40 (Nat.zero_le _) (by omega)]
      rfl
theorem pc_trim {b : Nat → Bool} {t q : Nat} (h : LastF b 0 t) (hq : 8 * q + 8 ≤ (t + 7) / 8 * 8) : ((trimTo (pl b) t).drop (8 * q)).take 8 = pc b q := by
  rw [h.trim, List.drop_take, List.take_take, pc]
  congr 1
  omega
/-- A name is found at its place. -/
theorem pl_find {b : Nat → Bool} {k : Nat} (hk : k < (pl b).length) : findB (pl b) (pl b)[k].name = b k ∧ (b k = true → findI (pl b) (pl b)[k].name = k) := by
  have h40 : k < 40 := by rw [pl_length] at hk; exact hk
  rw [pl_get]
  cases hb : b k
  · exact ⟨(findB_empty z_toList).1, fun h => by cases h⟩
  · have hf : fnd (pl b) (pf k).name = k := findIdx_is hk (by rw [pl_get, hb]; exact isB_iff.2 rfl) fun j hj => pl_is h40 (by omega) (by omega)
    have := findB_at (l := pl b) (s := (pf k).name) (pf_ne h40) hk hf
    exact ⟨this.1, fun _ => this.2⟩
/-- A piece of places that lie. -/
theorem Nams.sub {w : World} {b off m cap : Nat} {l : List Nm} (h : Nams w (.slice (some ⟨b, off, none⟩) m cap) l) (a n : Nat) (han : a + n ≤ l.length) : Nams w (.slice (some ⟨b, off + a * 2, none⟩) n (cap - a)) ((l.drop a).take n) := by
  obtain ⟨ad', cap', hv, h0, hcap, hc⟩ := h
  cases hv
  have hlen : ((l.drop a).take n).length = n := by rw [List.length_take, List.length_drop]; omega
  refine ⟨some ⟨b, off + a * 2, none⟩, cap - a, by rw [hlen], (fun h => by cases h), by rw [hlen]; omega, fun hl => ?_⟩
  obtain ⟨b', off', ha, hb, hi⟩ := hc (by omega)
  cases ha
  refine ⟨b, off + a * 2, rfl, hb, fun i h => ?_⟩
  have hil : a + i < l.length := by omega
  obtain ⟨c0, c1⟩ := hi (a + i) hil
  have e1 : off + a * 2 + i * 2 = off + (a + i) * 2 := by omega
  have e2 : ((l.drop a).take n)[i] = l[a + i] := by rw [List.getElem_take, List.getElem_drop]
  rw [e1, e2]
  exact ⟨c0, c1⟩
end Go.Proofs.YtpgbnfolekanmaaDoor
