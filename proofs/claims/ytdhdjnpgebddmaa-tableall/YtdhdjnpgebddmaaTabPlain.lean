/- The table of houses, plainly: which houses may be, the table's bytes, the houses of bytes; there and back; a byte that is turned makes it none. Nothing of the program. -/
import Derived.Test.YtdhdjnpgebddmaaSum
import Derived.Test.YtdhdjnpgebddmaaBinNum
namespace Go.Proofs.Ytdhdjnpgebddmaa
namespace Tab
open Bin (low)

/-- Bounds. -/
structure Lm where
  s : Int
  hb : Int
  sb : Int
  hn : Int
  sn : Int
  gr : Int
  bu : Int
deriving DecidableEq
/-- A house. -/
structure Ho where
  st : Int
  gen : Int
  lim : Lm
  segs : List Int
deriving DecidableEq

def Lm.z : Lm := ⟨0, 0, 0, 0, 0, 0, 0⟩
def Ho.z : Ho := ⟨0, 0, Lm.z, []⟩

def inB (v a b : Int) : Bool := decide (a ≤ v ∧ v ≤ b)
theorem inB_yes {v a b : Int} (h1 : a ≤ v) (h2 : v ≤ b) : inB v a b = true := by simp [inB, h1, h2]
theorem inB_iff {v a b : Int} : inB v a b = true ↔ a ≤ v ∧ v ≤ b := by simp [inB]

def limB (x : Lm) : Bool := inB x.s 8 40 && inB x.hb 0 100000 && inB x.sb 0 x.hb && inB x.hn 1 255 && inB x.sn 1 x.hn && inB x.gr 0 1099511627776 && inB x.bu 0 1000
def zeroB (x : Lm) : Bool := decide (x = Lm.z)

/-- Does a list rise, all of it from least to n less 1? -/
def rises (n : Int) : Int → List Int → Bool
  | _, [] => true
  | least, a :: r => decide (least ≤ a ∧ a < n) && rises n (a + 1) r

def houseB (n : Int) (h : Ho) : Bool :=
  inB h.st 0 2 && inB h.gen 0 65535 && (if h.st = 0 then decide (h.segs.length = 0) && zeroB h.lim else decide (0 < h.gen) && limB h.lim && decide ((h.segs.length : Int) = h.lim.s) && rises n 0 h.segs)

def allSegs (l : List Ho) : List Int := l.flatMap Ho.segs
def apartB (l : List Ho) : Bool := decide (allSegs l).Nodup
def checkB (n : Int) (l : List Ho) : Bool := decide (l.length = 16) && l.all (houseB n) && apartB l

theorem rises_mem (n : Int) : ∀ (l : List Int) (least : Int), rises n least l = true → ∀ x ∈ l, least ≤ x ∧ x < n
  | [], _, _, x, hx => by cases hx
  | a :: r, least, h, x, hx => by
    simp only [rises, Bool.and_eq_true, decide_eq_true_eq] at h
    rcases List.mem_cons.1 hx with rfl | hx
    · exact h.1
    · have := rises_mem n r (a + 1) h.2 x hx
      omega

theorem rises_nodup (n : Int) : ∀ (l : List Int) (least : Int), rises n least l = true → l.Nodup
  | [], _, _ => List.nodup_nil
  | a :: r, least, h => by
    simp only [rises, Bool.and_eq_true, decide_eq_true_eq] at h
    refine List.nodup_cons.2 ⟨fun hm => ?_, rises_nodup n r (a + 1) h.2⟩
    have := rises_mem n r (a + 1) h.2 a hm
    omega

/-- A house's numbers, in the order of their bytes. -/
def fieldsOf (h : Ho) : List (Nat × Int) := [(1, h.st), (2, h.gen), (1, h.lim.s), (3, h.lim.hb), (3, h.lim.sb), (1, h.lim.hn), (1, h.lim.sn), (6, h.lim.gr), (2, h.lim.bu)]
def nums (l : List (Nat × Int)) : List UInt8 := l.flatMap fun p => low p.1 p.2
def segBytes (l : List Int) : List UInt8 := l.flatMap (low 2)
def hbytes (h : Ho) : List UInt8 := nums (fieldsOf h) ++ low 1 h.segs.length ++ segBytes h.segs ++ List.replicate (2 * (40 - h.segs.length)) 0
def body (num : Int) (l : List Ho) : List UInt8 := [66, 71, 84, 66] ++ low 6 num ++ l.flatMap hbytes
def front (num : Int) (l : List Ho) : List UInt8 := body num l ++ List.replicate (2044 - (body num l).length) 0
def tbytes (num : Int) (l : List Ho) : List UInt8 := front num l ++ low 4 (Sum.crc (front num l) : Nat)
def putB (num : Int) (l : List Ho) : Bool := inB num 0 1099511627776 && checkB 65536 l
def putS (num : Int) (l : List Ho) : ByteArray := if putB num l then ⟨(tbytes num l).toArray⟩ else ⟨#[]⟩

theorem segBytes_length : ∀ l : List Int, (segBytes l).length = 2 * l.length
  | [] => rfl
  | a :: r => by
    have e : segBytes (a :: r) = low 2 a ++ segBytes r := rfl
    rw [e, List.length_append, Bin.low_length, segBytes_length r, List.length_cons]
    omega
theorem nums_length (h : Ho) : (nums (fieldsOf h)).length = 20 := by
  simp [nums, fieldsOf, Bin.low_length]
theorem hbytes_length (h : Ho) (hs : h.segs.length ≤ 40) : (hbytes h).length = 101 := by
  simp only [hbytes, List.length_append, nums_length, Bin.low_length, segBytes_length, List.length_replicate]
  omega
theorem flat_length : ∀ (l : List Ho), (∀ h ∈ l, h.segs.length ≤ 40) → (l.flatMap hbytes).length = 101 * l.length
  | [], _ => rfl
  | a :: r, h => by
    rw [List.flatMap_cons, List.length_append, hbytes_length a (h a (by simp)), flat_length r (fun x hx => h x (by simp [hx])), List.length_cons]
    omega
theorem body_length (num : Int) (l : List Ho) (h : ∀ x ∈ l, x.segs.length ≤ 40) : (body num l).length = 10 + 101 * l.length := by
  simp only [body, List.length_append, Bin.low_length, flat_length l h, List.length_cons, List.length_nil]

theorem houseB_segs {n : Int} {h : Ho} (hh : houseB n h = true) : h.segs.length ≤ 40 := by
  simp only [houseB, Bool.and_eq_true] at hh
  obtain ⟨_, hh⟩ := hh
  split at hh
  · simp only [Bool.and_eq_true, decide_eq_true_eq] at hh
    omega
  · simp only [Bool.and_eq_true, decide_eq_true_eq, limB, inB_iff] at hh
    omega

theorem checkB_segs {n : Int} {l : List Ho} (h : checkB n l = true) : ∀ x ∈ l, x.segs.length ≤ 40 := by
  simp only [checkB, Bool.and_eq_true, List.all_eq_true] at h
  exact fun x hx => houseB_segs (h.1.2 x hx)
theorem checkB_len {n : Int} {l : List Ho} (h : checkB n l = true) : l.length = 16 := by
  simp only [checkB, Bool.and_eq_true, decide_eq_true_eq] at h
  exact h.1.1

theorem front_length {num : Int} {l : List Ho} (h : checkB 65536 l = true) : (front num l).length = 2044 := by
  simp only [front, List.length_append, List.length_replicate, body_length num l (checkB_segs h), checkB_len h]
theorem tbytes_length {num : Int} {l : List Ho} (h : checkB 65536 l = true) : (tbytes num l).length = 2048 := by
  simp only [tbytes, List.length_append, Bin.low_length, front_length h]
theorem putB_check {num : Int} {l : List Ho} (h : putB num l = true) : checkB 65536 l = true := by
  simp only [putB, Bool.and_eq_true] at h
  exact h.2
theorem putS_size {num : Int} {l : List Ho} (h : putB num l = true) : (putS num l).size = 2048 := by
  rw [putS, if_pos h]
  show (tbytes num l).toArray.size = 2048
  simp [tbytes_length (putB_check h)]
theorem putS_list {num : Int} {l : List Ho} (h : putB num l = true) : (putS num l).data.toList = tbytes num l := by
  rw [putS, if_pos h]

/-! ### Back -/

/-- The number at a place. -/
def numAt (s : List UInt8) (a n : Nat) : Int := (Bin.num ((s.drop a).take n) : Nat)
def segsAt (s : List UInt8) (a k : Nat) : List Int := (List.range k).map fun j => numAt s (a + 2 * j) 2
def houseAt (s : List UInt8) (a : Nat) : Ho :=
  ⟨numAt s a 1, numAt s (a + 1) 2, ⟨numAt s (a + 3) 1, numAt s (a + 4) 3, numAt s (a + 7) 3, numAt s (a + 10) 1, numAt s (a + 11) 1, numAt s (a + 12) 6, numAt s (a + 18) 2⟩,
   segsAt s (a + 21) (min (numAt s (a + 20) 1).toNat 40)⟩
def housesAt (s : List UInt8) (k : Nat) : List Ho := (List.range k).map fun i => houseAt s (10 + 101 * i)
def getN (s : List UInt8) : Int := numAt s 4 6
def getL (s : List UInt8) : List Ho := housesAt s 16
def getB (s : ByteArray) : Bool := decide (s.size = 2048) && (putB (getN s.data.toList) (getL s.data.toList) && decide (putS (getN s.data.toList) (getL s.data.toList) = s))

theorem numAt_lt (s : List UInt8) (a n : Nat) : 0 ≤ numAt s a n ∧ numAt s a n < ((256 ^ n : Nat) : Int) := by
  have h := Bin.num_lt ((s.drop a).take n)
  have h2 : ((s.drop a).take n).length ≤ n := List.length_take_le _ _
  have h3 : 256 ^ ((s.drop a).take n).length ≤ 256 ^ n := Nat.pow_le_pow_right (by decide) h2
  unfold numAt
  omega

theorem numAt_mid {s p q : List UInt8} {a n : Nat} {v : Int} (hs : s = p ++ low n v ++ q) (ha : p.length = a) (h0 : 0 ≤ v) (h1 : v < ((256 ^ n : Nat) : Int)) : numAt s a n = v := by
  subst hs ha
  unfold numAt
  have e : ((p ++ low n v ++ q).drop p.length).take n = low n v := by
    have hl := Bin.low_length n v
    generalize low n v = m at *
    subst hl
    rw [List.append_assoc, List.drop_left, List.take_left]
  rw [e]
  exact Bin.num_low n v h0 h1

theorem segBytes_split (l : List Int) (k : Nat) (hk : k < l.length) : segBytes l = segBytes (l.take k) ++ low 2 l[k] ++ segBytes (l.drop (k + 1)) := by
  conv => lhs; rw [← List.take_append_drop k l, List.drop_eq_getElem_cons hk]
  simp only [segBytes, List.flatMap_append, List.flatMap_cons, List.append_assoc]

theorem segsAt_mid {s p q : List UInt8} {a : Nat} {l : List Int} (hs : s = p ++ segBytes l ++ q) (ha : p.length = a) (h : ∀ x ∈ l, 0 ≤ x ∧ x < 65536) : segsAt s a l.length = l := by
  apply List.ext_getElem
  · simp [segsAt]
  · intro k h1 h2
    simp only [segsAt, List.getElem_map, List.getElem_range]
    have hx := h l[k] (List.getElem_mem h2)
    refine numAt_mid (p := p ++ segBytes (l.take k)) (q := segBytes (l.drop (k + 1)) ++ q) ?_ ?_ hx.1 (by omega)
    · rw [hs, segBytes_split l k h2]
      simp only [List.append_assoc]
    · rw [List.length_append, segBytes_length, List.length_take, ha, Nat.min_eq_left (by omega)]

/-- A house's numbers fit their bytes. -/
def Fits (h : Ho) : Prop := (∀ p ∈ fieldsOf h, 0 ≤ p.2 ∧ p.2 < ((256 ^ p.1 : Nat) : Int)) ∧ h.segs.length ≤ 40 ∧ ∀ x ∈ h.segs, 0 ≤ x ∧ x < 65536

theorem houseB_fits {h : Ho} (hh : houseB 65536 h = true) : Fits h := by
  have hl := houseB_segs hh
  simp only [houseB, Bool.and_eq_true, inB_iff] at hh
  obtain ⟨⟨h1, h2⟩, h3⟩ := hh
  split at h3
  · next h0 =>
    simp only [Bool.and_eq_true, decide_eq_true_eq, zeroB] at h3
    obtain ⟨h4, h5⟩ := h3
    refine ⟨?_, hl, ?_⟩
    · rw [fieldsOf, h5]
      simp only [Lm.z, List.mem_cons, List.not_mem_nil, or_false, forall_eq_or_imp, forall_eq]
      omega
    · rw [List.length_eq_zero_iff.1 h4]
      intro x hx
      cases hx
  · simp only [Bool.and_eq_true, decide_eq_true_eq, limB, inB_iff] at h3
    obtain ⟨⟨⟨h4, h5⟩, h6⟩, h7⟩ := h3
    refine ⟨?_, hl, fun x hx => ?_⟩
    · simp only [fieldsOf, List.mem_cons, List.not_mem_nil, or_false, forall_eq_or_imp, forall_eq]
      omega
    · exact rises_mem 65536 h.segs 0 h7 x hx

theorem houseAt_mid {s p q : List UInt8} {a : Nat} {h : Ho} (hs : s = p ++ hbytes h ++ q) (ha : p.length = a) (hf : Fits h) : houseAt s a = h := by
  obtain ⟨hn, hl, hg⟩ := hf
  obtain ⟨st, gen, ⟨s', hb, sb, hn', sn, gr, bu⟩, segs⟩ := h
  simp only [fieldsOf, List.mem_cons, List.not_mem_nil, or_false, forall_eq_or_imp, forall_eq] at hn
  simp only at hl hg
  obtain ⟨n1, n2, n3, n4, n5, n6, n7, n8, n9⟩ := hn
  have e : s = p ++ (low 1 st ++ (low 2 gen ++ (low 1 s' ++ (low 3 hb ++ (low 3 sb ++ (low 1 hn' ++ (low 1 sn ++ (low 6 gr ++ (low 2 bu ++ (low 1 segs.length ++ (segBytes segs ++ (List.replicate (2 * (40 - segs.length)) 0 ++ q)))))))))))) := by
    rw [hs]
    simp only [hbytes, nums, fieldsOf, List.flatMap_cons, List.flatMap_nil, List.append_assoc, List.append_nil]
  clear hs
  have m1 : numAt s a 1 = st := numAt_mid (p := p) (q := _) (by rw [e, List.append_assoc]) ha n1.1 n1.2
  have m2 : numAt s (a + 1) 2 = gen := numAt_mid (p := p ++ low 1 st) (q := _) (by rw [e]; simp only [List.append_assoc]; rfl) (by simp [Bin.low_length, ha]) n2.1 n2.2
  have m3 : numAt s (a + 3) 1 = s' := numAt_mid (p := p ++ low 1 st ++ low 2 gen) (q := _) (by rw [e]; simp only [List.append_assoc]; rfl) (by simp [Bin.low_length, ha]) n3.1 n3.2
  have m4 : numAt s (a + 4) 3 = hb := numAt_mid (p := p ++ low 1 st ++ low 2 gen ++ low 1 s') (q := _) (by rw [e]; simp only [List.append_assoc]; rfl) (by simp [Bin.low_length, ha]) n4.1 n4.2
  have m5 : numAt s (a + 7) 3 = sb := numAt_mid (p := p ++ low 1 st ++ low 2 gen ++ low 1 s' ++ low 3 hb) (q := _) (by rw [e]; simp only [List.append_assoc]; rfl) (by simp [Bin.low_length, ha]) n5.1 n5.2
  have m6 : numAt s (a + 10) 1 = hn' := numAt_mid (p := p ++ low 1 st ++ low 2 gen ++ low 1 s' ++ low 3 hb ++ low 3 sb) (q := _) (by rw [e]; simp only [List.append_assoc]; rfl) (by simp [Bin.low_length, ha]) n6.1 n6.2
  have m7 : numAt s (a + 11) 1 = sn := numAt_mid (p := p ++ low 1 st ++ low 2 gen ++ low 1 s' ++ low 3 hb ++ low 3 sb ++ low 1 hn') (q := _) (by rw [e]; simp only [List.append_assoc]; rfl) (by simp [Bin.low_length, ha]) n7.1 n7.2
  have m8 : numAt s (a + 12) 6 = gr := numAt_mid (p := p ++ low 1 st ++ low 2 gen ++ low 1 s' ++ low 3 hb ++ low 3 sb ++ low 1 hn' ++ low 1 sn) (q := _) (by rw [e]; simp only [List.append_assoc]; rfl) (by simp [Bin.low_length, ha]) n8.1 n8.2
  have m9 : numAt s (a + 18) 2 = bu := numAt_mid (p := p ++ low 1 st ++ low 2 gen ++ low 1 s' ++ low 3 hb ++ low 3 sb ++ low 1 hn' ++ low 1 sn ++ low 6 gr) (q := _) (by rw [e]; simp only [List.append_assoc]; rfl) (by simp [Bin.low_length, ha]) n9.1 n9.2
  have m10 : numAt s (a + 20) 1 = segs.length := numAt_mid (p := p ++ low 1 st ++ low 2 gen ++ low 1 s' ++ low 3 hb ++ low 3 sb ++ low 1 hn' ++ low 1 sn ++ low 6 gr ++ low 2 bu) (q := _) (by rw [e]; simp only [List.append_assoc]; rfl) (by simp [Bin.low_length, ha]) (by omega) (by omega)
  have m11 : segsAt s (a + 21) segs.length = segs := segsAt_mid (p := p ++ low 1 st ++ low 2 gen ++ low 1 s' ++ low 3 hb ++ low 3 sb ++ low 1 hn' ++ low 1 sn ++ low 6 gr ++ low 2 bu ++ low 1 segs.length) (q := _) (by rw [e]; simp only [List.append_assoc]; rfl) (by simp [Bin.low_length, ha]) hg
  have hm : min ((segs.length : Int)).toNat 40 = segs.length := by omega
  unfold houseAt
  rw [m1, m2, m3, m4, m5, m6, m7, m8, m9, m10, hm, m11]

theorem flat_split (l : List Ho) (k : Nat) (hk : k < l.length) : l.flatMap hbytes = (l.take k).flatMap hbytes ++ hbytes l[k] ++ (l.drop (k + 1)).flatMap hbytes := by
  conv => lhs; rw [← List.take_append_drop k l, List.drop_eq_getElem_cons hk]
  simp only [List.flatMap_append, List.flatMap_cons, List.append_assoc]

theorem get_tbytes {num : Int} {l : List Ho} (h : putB num l = true) : getN (tbytes num l) = num ∧ getL (tbytes num l) = l := by
  have hc := putB_check h
  have hn : inB num 0 1099511627776 = true := by
    simp only [putB, Bool.and_eq_true] at h
    exact h.1
  rw [inB_iff] at hn
  have hall : ∀ x ∈ l, houseB 65536 x = true := by
    simp only [checkB, Bool.and_eq_true, List.all_eq_true] at hc
    exact hc.1.2
  have h16 := checkB_len hc
  obtain ⟨C, hC⟩ : ∃ C, C = low 4 (Sum.crc (front num l) : Nat) := ⟨_, rfl⟩
  obtain ⟨R, hR⟩ : ∃ R : List UInt8, R = List.replicate (2044 - (body num l).length) 0 := ⟨_, rfl⟩
  have e : tbytes num l = [66, 71, 84, 66] ++ low 6 num ++ (l.flatMap hbytes ++ (R ++ C)) := by
    have e0 : tbytes num l = front num l ++ C := by rw [hC]; rfl
    have e1 : front num l = body num l ++ R := by rw [hR]; rfl
    have e2 : body num l = [66, 71, 84, 66] ++ low 6 num ++ l.flatMap hbytes := rfl
    rw [e0, e1, e2]
    simp only [List.append_assoc]
  refine ⟨numAt_mid (p := [66, 71, 84, 66]) (q := _) e rfl hn.1 (by omega), ?_⟩
  apply List.ext_getElem
  · simp [getL, housesAt, h16]
  · intro k h1 h2
    simp only [getL, housesAt, List.getElem_map, List.getElem_range]
    refine houseAt_mid (p := [66, 71, 84, 66] ++ low 6 num ++ (l.take k).flatMap hbytes) (q := (l.drop (k + 1)).flatMap hbytes ++ (R ++ C)) ?_ ?_ (houseB_fits (hall _ (List.getElem_mem h2)))
    · rw [e]
      conv => lhs; arg 2; arg 1; rw [flat_split l k h2]
      simp only [List.append_assoc]
    · rw [List.length_append, List.length_append, Bin.low_length, flat_length _ (fun x hx => checkB_segs hc x (List.mem_of_mem_take hx)), List.length_take, Nat.min_eq_left (by omega)]
      rfl

theorem get_put {num : Int} {l : List Ho} (h : putB num l = true) : getB (putS num l) = true ∧ getN (putS num l).data.toList = num ∧ getL (putS num l).data.toList = l := by
  have g := get_tbytes h
  have e := putS_list h
  refine ⟨?_, by rw [e]; exact g.1, by rw [e]; exact g.2⟩
  unfold getB
  rw [e, g.1, g.2, h, putS_size h]
  simp

/-- Bytes tell the table. -/
theorem putS_inj {num num' : Int} {l l' : List Ho} (h : putB num l = true) (h' : putB num' l' = true) (e : putS num l = putS num' l') : num = num' ∧ l = l' := by
  have g := get_put h
  have g' := get_put h'
  rw [e] at g
  exact ⟨g.2.1.symm.trans g'.2.1, g.2.2.symm.trans g'.2.2⟩

/-! ### A byte that is turned -/

theorem crc_one {p r : List UInt8} {x y : UInt8} (e : Sum.crc (p ++ x :: r) = Sum.crc (p ++ y :: r)) : x = y := by
  have h := Sum.more_inj 0 e
  rw [Sum.feed_append, Sum.feed_append, Sum.feed_cons, Sum.feed_cons] at h
  have hp : Sum.feed (Sum.ones ^^^ 0) p < 4294967296 := Sum.feed_lt p (by decide)
  have hx := Sum.byte_lt x
  have hy := Sum.byte_lt y
  have h2 := Sum.feed_inj r (Sum.byte1_lt hp hx) (Sum.byte1_lt hp hy) h
  unfold Sum.byte1 at h2
  have h3 := Sum.it_inj 8 (Sum.xor_lt hp (by omega)) (Sum.xor_lt hp (by omega)) h2
  have h4 := congrArg (Sum.feed (Sum.ones ^^^ 0) p ^^^ ·) h3
  simp only [Sum.xor_back] at h4
  exact UInt8.toNat_inj.1 h4

theorem low4_inj {a b : Nat} (ha : a < 4294967296) (hb : b < 4294967296) (e : low 4 (a : Int) = low 4 (b : Int)) : a = b := by
  have h1 := Bin.num_low 4 (a : Int) (by omega) (by omega)
  have h2 := Bin.num_low 4 (b : Int) (by omega) (by omega)
  rw [e, h2] at h1
  omega

theorem turned {num num' : Int} {l l' : List Ho} (h : putB num l = true) (h' : putB num' l' = true) {i : Nat} {y : UInt8} (hi : i < (tbytes num l).length) (e : tbytes num' l' = (tbytes num l).set i y) : y = (tbytes num l)[i] := by
  have hl := front_length (num := num) (putB_check h)
  have hl' := front_length (num := num') (putB_check h')
  have ht := tbytes_length (num := num) (putB_check h)
  by_cases hlt : i < 2044
  · have e1 : front num' l' ++ low 4 (Sum.crc (front num' l') : Nat) = (front num l).set i y ++ low 4 (Sum.crc (front num l) : Nat) := by
      rw [← List.set_append_left _ _ (by omega)]
      exact e
    obtain ⟨e2, e3⟩ := List.append_inj e1 (by simp [hl, hl'])
    have e4 := low4_inj (Sum.crc_lt _) (Sum.crc_lt _) e3
    have hi2 : i < (front num l).length := by omega
    rw [e2] at e4
    have e5 : (front num l).set i y = (front num l).take i ++ y :: (front num l).drop (i + 1) := List.set_eq_take_append_cons_drop .. |>.trans (by rw [if_pos hi2])
    have e6 : front num l = (front num l).take i ++ (front num l)[i] :: (front num l).drop (i + 1) := by
      rw [← List.drop_eq_getElem_cons hi2, List.take_append_drop]
    rw [e5] at e4
    have e7 := crc_one (e4.trans (congrArg Sum.crc e6))
    rw [e7]
    exact (List.getElem_append_left (bs := low 4 (Sum.crc (front num l) : Nat)) hi2).symm
  · have e1 : front num' l' ++ low 4 (Sum.crc (front num' l') : Nat) = front num l ++ (low 4 (Sum.crc (front num l) : Nat)).set (i - 2044) y := by
      rw [← hl, ← List.set_append_right _ _ (by omega)]
      exact e
    obtain ⟨e2, e3⟩ := List.append_inj e1 (by omega)
    have e4 : tbytes num' l' = tbytes num l := by unfold tbytes; rw [e2]
    rw [e4] at e
    have hi3 : i < ((tbytes num l).set i y).length := by simpa using hi
    have e8 : ((tbytes num l).set i y)[i] = y := List.getElem_set_self ..
    rw [← e8]
    congr 1
    exact e.symm

theorem get_turned {num : Int} {l : List Ho} (h : putB num l = true) {s : ByteArray} {i : Nat} {y : UInt8} (hi : i < (tbytes num l).length) (hy : y ≠ (tbytes num l)[i]) (hs : s.data.toList = (tbytes num l).set i y) : getB s = false := by
  rw [Bool.eq_false_iff]
  intro hg
  simp only [getB, Bool.and_eq_true, decide_eq_true_eq] at hg
  obtain ⟨_, hp, he⟩ := hg
  have e := putS_list hp
  rw [he, hs] at e
  exact hy (turned h hp hi (by rw [← hs]; rw [← hs] at e; exact e.symm))

theorem get_long {s : ByteArray} (h : s.size ≠ 2048) : getB s = false := by simp [getB, h]
end Tab
end Go.Proofs.Ytdhdjnpgebddmaa
