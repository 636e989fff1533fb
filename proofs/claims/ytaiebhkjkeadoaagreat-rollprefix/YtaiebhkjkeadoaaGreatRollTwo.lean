/- Two disks, plainly: all sectors but the heads copied and flushed, then the heads written, some of them kept. Nothing of the program. -/
import Derived.Test.YtaiebhkjkeadoaaGreatRollKept
import Derived.Test.YtaiebhkjkeadoaaGreatDiskSel
import Derived.Test.YtaiebhkjkeadoaaGreatDiskFlush
namespace Go.Proofs.YtaiebhkjkeadoaaGreat
namespace Rol
open Chk Hdp Lo Rec

theorem settle_out : ∀ (l : List Wr) (d : Nat → ByteArray) (q : Nat), (∀ x ∈ l, x.pos ≠ q) → settleL d l q = d q
  | [], _, _, _ => rfl
  | x :: l, d, q, h => by
    show settleL (upd d x.pos x.bytes) l q = d q
    rw [settle_out l _ q fun y hy => h y (List.mem_cons_of_mem _ hy), upd_other _ _ fun e => h x (List.mem_cons_self ..) e.symm]
theorem settle_in {T : Nat → ByteArray} : ∀ (l : List Wr) (d : Nat → ByteArray) (q : Nat), (∀ x ∈ l, x.bytes = T x.pos) → (∃ x ∈ l, x.pos = q) → settleL d l q = T q
  | [], _, _, _, h2 => by
    obtain ⟨x, hx, -⟩ := h2
    cases hx
  | x :: l, d, q, h, h2 => by
    show settleL (upd d x.pos x.bytes) l q = T q
    by_cases h3 : ∃ y ∈ l, y.pos = q
    · exact settle_in l _ q (fun y hy => h y (List.mem_cons_of_mem _ hy)) h3
    · rw [settle_out l _ q fun y hy e => h3 ⟨y, hy, e⟩]
      obtain ⟨y, hy, e⟩ := h2
      rcases List.mem_cons.1 hy with h4 | h4
      · subst h4
        subst e
        rw [upd_same, h y (List.mem_cons_self ..)]
      · exact absurd ⟨y, h4, e⟩ h3
theorem selTo_iff (l : List Wr) (ps : List Int) (x : Wr) : ∀ k, x ∈ selTo l ps k ↔ ∃ j, j < k ∧ (j : Int) ∈ ps ∧ l[j]? = some x
  | 0 => ⟨fun h => (by cases h), fun ⟨j, h, _⟩ => absurd h (Nat.not_lt_zero _)⟩
  | k + 1 => by
    rw [selTo, List.mem_append, selTo_iff l ps x k]
    constructor
    · rintro (⟨j, h1, h2, h3⟩ | h)
      · exact ⟨j, by omega, h2, h3⟩
      · split at h
        · next h2 =>
          rw [Option.mem_toList] at h
          exact ⟨k, by omega, h2, h⟩
        · cases h
    · rintro ⟨j, h1, h2, h3⟩
      rcases Nat.lt_or_ge j k with h4 | h4
      · exact .inl ⟨j, h4, h2, h3⟩
      · have e : j = k := by omega
        subst e
        right
        rw [if_pos h2, Option.mem_toList]
        exact h3
theorem sel_iff (l : List Wr) (ps : List Int) (x : Wr) : x ∈ sel l ps ↔ ∃ j, j < l.length ∧ (j : Int) ∈ ps ∧ l[j]? = some x := selTo_iff l ps x l.length
theorem sel_nil (ps : List Int) : sel [] ps = [] := rfl

/-- Is a chunk's head there? -/
def isHd (cs : List Fnd) (q : Nat) : Prop := ∃ (i : Nat) (hi : i < cs.length), q = sec cs[i]
theorem isHd_not {cs : List Fnd} {q : Nat} (h : ¬ isHd cs q) (i : Nat) (hi : i < cs.length) : q ≠ sec cs[i] := fun e => h ⟨i, hi, e⟩
theorem not_isHd {cs : List Fnd} {q : Nat} (h : ∀ (i : Nat) (hi : i < cs.length), q ≠ sec cs[i]) : ¬ isHd cs q := fun ⟨i, hi, e⟩ => h i hi e

/-- What the second disk is while it is filled. -/
structure Two (D : St) (k : Nat) : Prop where
  n : D.n = 304
  left : D.left = 0
  down : D.down = false
  writes : D.writes ≤ k
  others : ∀ o, o ≠ 3 → D.waits o = []
theorem Two.new : Two (St.new 304) 0 := ⟨rfl, rfl, rfl, Nat.le_refl _, fun _ _ => rfl⟩
theorem Two.write {D : St} {k : Nat} (h : Two D k) (p : Nat) (T : ByteArray) : Two (D.write 3 p T) (k + 1) := by
  refine ⟨h.n, ?_, ?_, ?_, fun o ho => ?_⟩
  · show D.left - 1 = 0
    rw [h.left]
  · show (if D.left = 0 then D.down else D.left - 1 == 0) = false
    rw [if_pos h.left, h.down]
  · show D.writes + 1 ≤ k + 1
    have := h.writes
    omega
  · show upd D.waits 3 _ o = []
    rw [upd_other _ _ ho, h.others o ho]
theorem Two.flush {D : St} {k : Nat} (h : Two D k) : Two (D.flush 3) k := by
  refine ⟨h.n, h.left, h.down, h.writes, fun o ho => ?_⟩
  show upd D.waits 3 _ o = []
  rw [upd_other _ _ ho, h.others o ho]
theorem Two.mono {D : St} {k m : Nat} (h : Two D k) (hkm : k ≤ m) : Two D m := ⟨h.n, h.left, h.down, Nat.le_trans h.writes hkm, h.others⟩
theorem write_mine (D : St) (p : Nat) (T : ByteArray) : (D.write 3 p T).waits 3 = D.waits 3 ++ [⟨D.writes + 1, p, T⟩] := by
  show upd D.waits 3 (D.waits 3 ++ [⟨D.writes + 1, p, T⟩]) 3 = _
  exact upd_same _ _ _

/-- All but the heads, from sector 48 to i. -/
structure Copied (rd : Nat → ByteArray) (cs : List Fnd) (D : St) (i : Nat) : Prop where
  two : Two D (i - 48)
  dur : ∀ q, D.dur q = zbytes 256
  there : ∀ x ∈ D.waits 3, x.bytes = rd x.pos ∧ 48 ≤ x.pos ∧ x.pos < i ∧ ¬ isHd cs x.pos
  all : ∀ q, 48 ≤ q → q < i → ¬ isHd cs q → ∃ x ∈ D.waits 3, x.pos = q
section
variable {rd : Nat → ByteArray} {cs : List Fnd} {D : St} {i j : Nat}
theorem Copied.new : Copied rd cs (St.new 304) 48 := ⟨Two.new, fun _ => rfl, fun x hx => (by cases hx), fun q h1 h2 _ => absurd h2 (by omega)⟩
theorem Copied.skip (h : Copied rd cs D i) (hi : isHd cs i) : Copied rd cs D (i + 1) := by
  refine ⟨h.two.mono (by omega), h.dur, fun x hx => ?_, fun q h1 h2 h3 => ?_⟩
  · obtain ⟨a, b, c, d⟩ := h.there x hx
    exact ⟨a, b, by omega, d⟩
  · refine h.all q h1 ?_ h3
    rcases Nat.eq_or_lt_of_le (Nat.le_of_lt_succ h2) with e | e
    · subst e
      exact absurd hi h3
    · exact e
theorem Copied.write (h : Copied rd cs D i) (h48 : 48 ≤ i) (hi : ¬ isHd cs i) : Copied rd cs (D.write 3 i (rd i)) (i + 1) := by
  refine ⟨(h.two.write i (rd i)).mono (by omega), h.dur, fun x hx => ?_, fun q h1 h2 h3 => ?_⟩
  · rw [write_mine, List.mem_append, List.mem_singleton] at hx
    rcases hx with hx | rfl
    · obtain ⟨a, b, c, d⟩ := h.there x hx
      exact ⟨a, b, by omega, d⟩
    · exact ⟨rfl, h48, by show i < i + 1; omega, hi⟩
  · rw [write_mine]
    rcases Nat.eq_or_lt_of_le (Nat.le_of_lt_succ h2) with e | e
    · subst e
      exact ⟨_, List.mem_append.2 (.inr (List.mem_singleton.2 rfl)), rfl⟩
    · obtain ⟨x, hx, hq⟩ := h.all q h1 e h3
      exact ⟨x, List.mem_append.2 (.inl hx), hq⟩

/-- The heads written behind them, the first j. -/
structure Headed (rd : Nat → ByteArray) (cs : List Fnd) (D : St) (j : Nat) : Prop where
  two : Two D (256 + j)
  body : ∀ q, 48 ≤ q → q < 304 → ¬ isHd cs q → D.dur q = rd q
  head : ∀ q, (q < 48 ∨ 304 ≤ q ∨ isHd cs q) → D.dur q = zbytes 256
  len : (D.waits 3).length = j
  each : ∀ (k : Nat) (hk : k < cs.length), k < j → ∃ o, (D.waits 3)[k]? = some ⟨o, sec cs[k], rd (sec cs[k])⟩
theorem Copied.flush (h : Copied rd cs D 304) : Headed rd cs (D.flush 3) 0 := by
  refine ⟨h.two.flush, fun q h1 h2 h3 => ?_, fun q h1 => ?_, ?_, fun k _ hk => absurd hk (Nat.not_lt_zero _)⟩
  · exact settle_in _ _ q (fun x hx => (h.there x hx).1) (h.all q h1 h2 h3)
  · show settleL D.dur (D.waits 3) q = _
    rw [settle_out _ _ q fun x hx e => ?_, h.dur]
    obtain ⟨a, b, c, d⟩ := h.there x hx
    subst e
    rcases h1 with h1 | h1 | h1
    · omega
    · omega
    · exact d h1
  · show (upd D.waits 3 [] 3).length = 0
    rw [upd_same]
    rfl
theorem Headed.write (h : Headed rd cs D j) (hj : j < cs.length) : Headed rd cs (D.write 3 (sec cs[j]) (rd (sec cs[j]))) (j + 1) := by
  refine ⟨(h.two.write _ _).mono (by omega), h.body, h.head, ?_, fun k hk hkj => ?_⟩
  · rw [write_mine, List.length_append, h.len]
    rfl
  · rw [write_mine]
    rcases Nat.eq_or_lt_of_le (Nat.le_of_lt_succ hkj) with e | e
    · subst e
      rw [List.getElem?_append_right (by rw [h.len]; exact Nat.le_refl _), h.len, Nat.sub_self]
      exact ⟨_, rfl⟩
    · obtain ⟨o, ho⟩ := h.each k hk e
      rw [List.getElem?_append_left (by rw [h.len]; exact e)]
      exact ⟨o, ho⟩
end

/-- What was kept: the disk behind Back. -/
theorem Fil.back {S D : St} {cs : List Fnd} {L : Lg} (h : Fil S cs L) (hD : Headed S.read cs D cs.length) (keep : List Int) {L' : List Wr} (hp : L'.Perm (keptTo D.waits [[], [], [], keep] 4)) : Kept S.read (D.back L').read cs (fun i => (i : Int) ∈ keep) := by
  have hk : ∀ x, x ∈ L' ↔ ∃ (k : Nat) (hk : k < cs.length), (k : Int) ∈ keep ∧ x.pos = sec cs[k] ∧ x.bytes = S.read x.pos ∧ (D.waits 3)[k]? = some x := by
    intro x
    rw [hp.mem_iff]
    have e : keptTo D.waits [[], [], [], keep] 4 = sel (D.waits 3) keep := by
      show ((([] ++ sel (D.waits 0) []) ++ sel (D.waits 1) []) ++ sel (D.waits 2) []) ++ sel (D.waits 3) keep = _
      rw [hD.two.others 0 (by decide), hD.two.others 1 (by decide), hD.two.others 2 (by decide), sel_nil]
      rfl
    rw [e, sel_iff]
    constructor
    · rintro ⟨j, h1, h2, h3⟩
      have hj : j < cs.length := by rw [hD.len] at h1; exact h1
      obtain ⟨o, ho⟩ := hD.each j hj hj
      rw [ho] at h3
      have h4 := Option.some.inj h3
      subst h4
      exact ⟨j, hj, h2, rfl, rfl, ho⟩
    · rintro ⟨j, h1, h2, -, -, h3⟩
      exact ⟨j, by rw [hD.len]; exact h1, h2, h3⟩
  have hrd : ∀ q, (D.back L').read q = settleL D.dur L' q := fun q => read_none (fun _ => rfl) q
  have hT : ∀ x ∈ L', x.bytes = S.read x.pos := fun x hx => by
    obtain ⟨_, _, _, _, h4, _⟩ := (hk x).1 hx
    exact h4
  obtain ⟨s, a1, -, -, a5⟩ := h.segs
  have p1 := h.ok.pos1
  have p0 := h.ok.pos0
  have h304 : ∀ q, 304 ≤ q → S.read q = zbytes 256 := fun q hq => h.zero q (by unfold fr; omega)
  refine ⟨fun q h1 h2 => ?_, fun i hi hki => ?_, fun i hi hki => ?_⟩
  · rw [hrd, settle_out _ _ q fun x hx e => ?_]
    · rcases Nat.lt_or_ge q 304 with h3 | h3
      · exact hD.body q h1 h3 (not_isHd h2)
      · rw [hD.head q (.inr (.inl h3)), h304 q h3]
    · obtain ⟨k, hk1, _, h4, _⟩ := (hk x).1 hx
      exact h2 k hk1 (e.symm.trans h4)
  · rw [hrd]
    obtain ⟨o, ho⟩ := hD.each i hi hi
    exact settle_in _ _ _ hT ⟨_, (hk _).2 ⟨i, hi, hki, rfl, rfl, ho⟩, rfl⟩
  · rw [hrd, settle_out _ _ _ fun x hx e => ?_, hD.head _ (.inr (.inr ⟨i, hi, rfl⟩))]
    obtain ⟨k, hk1, hk2, h4, _⟩ := (hk x).1 hx
    rw [e] at h4
    rcases Nat.lt_trichotomy i k with h5 | h5 | h5
    · have := h.chain.apart pl0 i k h5 hk1
      omega
    · subst h5
      exact hki hk2
    · have := h.chain.apart pl0 k i h5 hi
      omega
end Rol
end Go.Proofs.YtaiebhkjkeadoaaGreat
