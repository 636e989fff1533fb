/-
  Sums, without the program: the sum's step over natural numbers, the sum of a list of bytes, and what follows: the step is linear and turns no number but 0 to 0, so bits turned within 32 in a row turn the sum, and two unlike lists of at most four bytes of one length have unlike sums. No condition.
-/
import Derived.Laws.BitsAllLaws
namespace Go.Proofs.Ytaiebhkjkeadoaa
namespace Sum

def poly : Nat := 3988292384
def ones : Nat := 4294967295
/-- one step: shifted down by one, turned by poly if the bit that went out was 1 -/
def stp (n : Nat) : Nat := if n % 2 = 1 then n / 2 ^^^ poly else n / 2
def it : Nat → Nat → Nat
  | 0, n => n
  | k + 1, n => it k (stp n)
def byte1 (h : Nat) (b : Nat) : Nat := it 8 (h ^^^ b)
def feed : Nat → List UInt8 → Nat
  | h, [] => h
  | h, b :: r => feed (byte1 h b.toNat) r
theorem feed_nil (h : Nat) : feed h [] = h := rfl
theorem feed_cons (h : Nat) (b : UInt8) (r : List UInt8) : feed h (b :: r) = feed (byte1 h b.toNat) r := rfl
def more (sum : Nat) (l : List UInt8) : Nat := ones ^^^ feed (ones ^^^ sum) l
def crc (l : List UInt8) : Nat := more 0 l

theorem xor_half (a b : Nat) : (a ^^^ b) / 2 = a / 2 ^^^ b / 2 := Nat.xor_div_two
theorem xor_odd (a b : Nat) : (a ^^^ b) % 2 = (a % 2 + b % 2) % 2 := by
  have h1 : (a ^^^ b) % 2 = a % 2 ^^^ b % 2 := Nat.xor_mod_two_pow (n := 1)
  rw [h1]
  rcases Nat.mod_two_eq_zero_or_one a with h3 | h3 <;> rcases Nat.mod_two_eq_zero_or_one b with h4 | h4 <;> rw [h3, h4] <;> rfl

theorem stp_xor (a b : Nat) : stp (a ^^^ b) = stp a ^^^ stp b := by
  unfold stp
  rw [xor_odd, xor_half]
  rcases Nat.mod_two_eq_zero_or_one a with ha | ha <;> rcases Nat.mod_two_eq_zero_or_one b with hb | hb <;> simp [ha, hb]
  · rw [Nat.xor_assoc]
  · rw [Nat.xor_assoc, Nat.xor_assoc, Nat.xor_comm poly]
  · rw [Nat.xor_assoc, Nat.xor_comm poly, Nat.xor_assoc, Nat.xor_self, Nat.xor_zero]

theorem it_xor : ∀ k a b, it k (a ^^^ b) = it k a ^^^ it k b
  | 0, _, _ => rfl
  | k + 1, a, b => by rw [it, it, it, stp_xor, it_xor k]

theorem it_add : ∀ j k n, it (j + k) n = it k (it j n)
  | 0, k, n => by simp [it]
  | j + 1, k, n => by rw [Nat.succ_add, it, it, it_add j]

theorem stp_lt {n : Nat} (h : n < 4294967296) : stp n < 4294967296 := by
  unfold stp
  split
  · exact Nat.xor_lt_two_pow (n := 32) (by omega) (by decide)
  · omega

theorem it_lt : ∀ k {n}, n < 4294967296 → it k n < 4294967296
  | 0, _, h => h
  | k + 1, _, h => it_lt k (stp_lt h)

theorem stp_zero : stp 0 = 0 := rfl
theorem it_zero : ∀ k, it k 0 = 0
  | 0 => rfl
  | k + 1 => by rw [it, stp_zero, it_zero k]

theorem xor_back (a b : Nat) : a ^^^ (a ^^^ b) = b := by rw [← Nat.xor_assoc, Nat.xor_self, Nat.zero_xor]
theorem xor_eq {a b : Nat} (h : a ^^^ b = 0) : a = b := by
  have := xor_back a b
  rwa [h, Nat.xor_zero] at this

theorem stp_ne {n : Nat} (h : n < 4294967296) (e : stp n = 0) : n = 0 := by
  unfold stp at e
  split at e
  · have := xor_eq e
    unfold poly at this
    omega
  · omega

theorem it_ne : ∀ k {n}, n < 4294967296 → it k n = 0 → n = 0
  | 0, _, _, e => e
  | k + 1, _, h, e => stp_ne h (it_ne k (stp_lt h) e)

theorem xor_lt {a b : Nat} (ha : a < 4294967296) (hb : b < 4294967296) : a ^^^ b < 4294967296 := Nat.xor_lt_two_pow (n := 32) ha hb

theorem it_inj (k : Nat) {a b : Nat} (ha : a < 4294967296) (hb : b < 4294967296) (e : it k a = it k b) : a = b :=
  xor_eq (it_ne k (xor_lt ha hb) (by rw [it_xor, e, Nat.xor_self]))

theorem stp_twice (n : Nat) : stp (n * 2) = n := by
  unfold stp
  rw [if_neg (by omega)]
  omega

theorem it_pow : ∀ k n, it k (n * 2 ^ k) = n
  | 0, n => by simp [it]
  | k + 1, n => by rw [it, Nat.pow_succ, ← Nat.mul_assoc, stp_twice, it_pow k]

/-- a number is its lowest byte, and the rest -/
theorem split256 (n : Nat) : n = n % 256 ^^^ n / 256 * 256 := by
  have h : (n / 256) <<< 8 ^^^ n % 256 = (n / 256) <<< 8 + n % 256 := by
    rw [Nat.shiftLeft_add_eq_or_of_lt (by omega : n % 256 < 2 ^ 8)]
    apply Nat.eq_of_testBit_eq
    intro i
    rw [Nat.testBit_xor, Nat.testBit_or, Nat.testBit_shiftLeft]
    by_cases hi : 8 ≤ i
    · have : (n % 256).testBit i = false := Nat.testBit_lt_two_pow (Nat.lt_of_lt_of_le (by omega : n % 256 < 2 ^ 8) (Nat.pow_le_pow_right (by decide) hi))
      simp [this]
    · simp [hi]
  rw [Nat.xor_comm]
  have e : n / 256 * 256 = (n / 256) <<< 8 := by rw [Nat.shiftLeft_eq]
  rw [e, h, ← e]
  omega

theorem it_eight (h n : Nat) : it 8 (h ^^^ n) = it 8 (h ^^^ n % 256) ^^^ n / 256 := by
  conv => lhs; rw [split256 n]
  rw [← Nat.xor_assoc, it_xor, (it_pow 8 (n / 256) : it 8 (n / 256 * 256) = n / 256)]

/-- the table's way: a byte's eight steps, and the rest shifted down -/
theorem it_table (n : Nat) : it 8 n = n / 256 ^^^ it 8 (n % 256) := by
  have := it_eight 0 n
  rwa [Nat.zero_xor, Nat.zero_xor, Nat.xor_comm] at this

theorem feed_append (h : Nat) : ∀ (l m : List UInt8), feed h (l ++ m) = feed (feed h l) m := by
  intro l m
  induction l generalizing h with
  | nil => rfl
  | cons b r ih => exact ih _

theorem byte_lt (b : UInt8) : b.toNat < 256 := b.toNat_lt
theorem byte1_lt {h b : Nat} (hh : h < 4294967296) (hb : b < 256) : byte1 h b < 4294967296 := it_lt 8 (xor_lt hh (by omega))
theorem feed_lt : ∀ (l : List UInt8) {h : Nat}, h < 4294967296 → feed h l < 4294967296
  | [], _, h => h
  | b :: r, _, h => feed_lt r (byte1_lt h (byte_lt b))
theorem more_lt {s : Nat} (hs : s < 4294967296) (l : List UInt8) : more s l < 4294967296 := xor_lt (by decide) (feed_lt l (xor_lt (by decide) hs))
theorem crc_lt (l : List UInt8) : crc l < 4294967296 := more_lt (by decide) l

theorem more_append (s : Nat) (l m : List UInt8) : more (more s l) m = more s (l ++ m) := by
  unfold more
  rw [xor_back, feed_append]
theorem more_nil (s : Nat) : more s [] = s := by
  unfold more
  rw [feed_nil, xor_back]
theorem more_crc (l m : List UInt8) : more (crc l) m = crc (l ++ m) := more_append 0 l m
theorem crc_nil : crc [] = 0 := more_nil 0

theorem feed_inj : ∀ (l : List UInt8) {a b : Nat}, a < 4294967296 → b < 4294967296 → feed a l = feed b l → a = b
  | [], _, _, _, _, e => e
  | c :: r, a, b, ha, hb, e => by
    rw [feed_cons, feed_cons] at e
    have h := feed_inj r (byte1_lt ha (byte_lt c)) (byte1_lt hb (byte_lt c)) e
    have hc : c.toNat < 4294967296 := Nat.lt_trans (byte_lt c) (by decide)
    unfold byte1 at h
    have h2 := it_inj 8 (xor_lt ha hc) (xor_lt hb hc) h
    have h3 : (a ^^^ c.toNat) ^^^ c.toNat = (b ^^^ c.toNat) ^^^ c.toNat := by rw [h2]
    rwa [Nat.xor_assoc, Nat.xor_assoc, Nat.xor_self, Nat.xor_zero, Nat.xor_zero] at h3

theorem more_inj (s : Nat) {l m : List UInt8} (e : more s l = more s m) : feed (ones ^^^ s) l = feed (ones ^^^ s) m := by
  unfold more at e
  have : ones ^^^ (ones ^^^ feed (ones ^^^ s) l) = ones ^^^ (ones ^^^ feed (ones ^^^ s) m) := by rw [e]
  rwa [xor_back, xor_back] at this

/-- the lowest k bytes of a number, the lowest first -/
def low : Nat → Nat → List UInt8
  | 0, _ => []
  | k + 1, n => UInt8.ofNat (n % 256) :: low k (n / 256)

theorem toNat_low (n : Nat) : (UInt8.ofNat (n % 256)).toNat = n % 256 := by simp

theorem feed_low (k : Nat) : ∀ (h n : Nat), it (8 * k) (h ^^^ n) = feed h (low k n) ^^^ n / 256 ^ k := by
  induction k with
  | zero => intro h n; rw [low, feed_nil, Nat.mul_zero, it, Nat.pow_zero, Nat.div_one]
  | succ k ih =>
    intro h n
    have e1 : 8 * (k + 1) = 8 + 8 * k := by omega
    have e2 : n / 256 ^ (k + 1) = n / 256 / 256 ^ k := by rw [Nat.div_div_eq_div_mul, Nat.pow_succ, Nat.mul_comm 256]
    rw [e1, it_add, it_eight, ih, low, feed_cons, toNat_low, e2]
    rfl

theorem feed_low' (k h n : Nat) (hn : n < 256 ^ k) : feed h (low k n) = it (8 * k) (h ^^^ n) := by
  rw [feed_low, Nat.div_eq_of_lt hn, Nat.xor_zero]

theorem it_forty {row j : Nat} (hj : j < 8) : it 40 (row * 2 ^ j) = it (40 - j) row := by
  have h : 40 = j + (40 - j) := by omega
  have h2 := it_add j (40 - j) (row * 2 ^ j)
  rw [it_pow, ← h] at h2
  exact h2

/-- bits turned within 32 in a row, ahead of nothing, leave a sum in hand that is not 0 -/
theorem burst {row j : Nat} (h0 : row ≠ 0) (hr : row < 4294967296) (hj : j < 8) : feed 0 (low 5 (row * 2 ^ j)) ≠ 0 := by
  intro e
  have hn : row * 2 ^ j < 256 ^ 5 := by
    have : (2 : Nat) ^ j ≤ 2 ^ 7 := Nat.pow_le_pow_right (by decide) (by omega)
    have h2 : row * 2 ^ j ≤ 4294967295 * 2 ^ 7 := Nat.mul_le_mul (by omega) this
    omega
  have h1 := feed_low' 5 0 (row * 2 ^ j) hn
  rw [Nat.zero_xor] at h1
  have h3 : it 40 (row * 2 ^ j) = 0 := h1.symm.trans e
  rw [it_forty hj] at h3
  exact h0 (it_ne _ hr h3)

def xorL : List UInt8 → List UInt8 → List UInt8
  | a :: l, b :: m => (a ^^^ b) :: xorL l m
  | l, _ => l

theorem feed_xorL : ∀ (l m : List UInt8) (a c : Nat), l.length = m.length → feed (a ^^^ c) (xorL l m) = feed a l ^^^ feed c m
  | [], [], _, _, _ => rfl
  | x :: l, y :: m, a, c, h => by
    rw [xorL, feed_cons, feed_cons, feed_cons, ← feed_xorL l m _ _ (by simpa using h)]
    congr 1
    unfold byte1
    rw [← it_xor, UInt8.toNat_xor]
    congr 1
    rw [Nat.xor_assoc, Nat.xor_assoc, ← Nat.xor_assoc c, Nat.xor_comm c, Nat.xor_assoc]
  | [], _ :: _, _, _, h => by simp at h
  | _ :: _, [], _, _, h => by simp at h

theorem low_length : ∀ k n, (low k n).length = k
  | 0, _ => rfl
  | k + 1, n => by rw [low, List.length_cons, low_length k]

/-- P2.2: five bytes of a text turned by a row of at most 32 bits: another sum -/
theorem turned {p q r : List UInt8} (hq : q.length = 5) {row j : Nat} (h0 : row ≠ 0) (hr : row < 4294967296) (hj : j < 8) :
    crc (p ++ q ++ r) ≠ crc (p ++ xorL q (low 5 (row * 2 ^ j)) ++ r) := by
  intro e
  have e1 := more_inj 0 e
  have hh : feed (ones ^^^ 0) p < 4294967296 := feed_lt p (by decide)
  rw [feed_append, feed_append, feed_append, feed_append] at e1
  have e2 := feed_inj r (feed_lt q hh) (feed_lt _ hh) e1
  have e3 := feed_xorL q (low 5 (row * 2 ^ j)) (feed (ones ^^^ 0) p) 0 (by rw [hq, low_length])
  rw [Nat.xor_zero, ← e2] at e3
  have e4 : feed 0 (low 5 (row * 2 ^ j)) = 0 := by
    have := congrArg (fun x => feed (feed (ones ^^^ 0) p) q ^^^ x) e3
    simp only [Nat.xor_self, xor_back] at this
    exact this.symm
  exact burst h0 hr hj e4

/-- the number that bytes make -/
def num : List UInt8 → Nat
  | [] => 0
  | b :: r => b.toNat + 256 * num r
theorem num_lt : ∀ l : List UInt8, num l < 256 ^ l.length
  | [] => by simp [num]
  | b :: r => by
    have := num_lt r
    have hb := byte_lt b
    rw [num, List.length_cons, Nat.pow_succ]
    omega
theorem low_num : ∀ l : List UInt8, low l.length (num l) = l
  | [] => rfl
  | b :: r => by
    have hb := byte_lt b
    have e1 : (b.toNat + 256 * num r) % 256 = b.toNat := by omega
    have e2 : (b.toNat + 256 * num r) / 256 = num r := by omega
    rw [List.length_cons, num, low, e1, e2, low_num r, UInt8.ofNat_toNat]

theorem short {l m : List UInt8} (hl : l.length ≤ 4) (hm : m.length = l.length) (e : crc l = crc m) : l = m := by
  have e1 := more_inj 0 e
  have h4 : (256 : Nat) ^ l.length ≤ 256 ^ 4 := Nat.pow_le_pow_right (by decide) hl
  have hnl := num_lt l
  have hnm := num_lt m
  rw [hm] at hnm
  have a1 := feed_low' l.length (ones ^^^ 0) (num l) hnl
  have a2 := feed_low' l.length (ones ^^^ 0) (num m) hnm
  rw [low_num] at a1
  have a3 := low_num m
  rw [hm] at a3
  rw [a3] at a2
  have e2 := it_inj _ (xor_lt (by decide) (by omega)) (xor_lt (by decide) (by omega)) ((a1.symm.trans e1).trans a2)
  have e3 : ones ^^^ 0 ^^^ (ones ^^^ 0 ^^^ num l) = ones ^^^ 0 ^^^ (ones ^^^ 0 ^^^ num m) := by rw [e2]
  rw [xor_back, xor_back] at e3
  rw [← low_num l, ← a3, e3]

theorem check9 : crc [49, 50, 51, 52, 53, 54, 55, 56, 57] = 3421780262 := by decide +kernel

end Sum
end Go.Proofs.Ytaiebhkjkeadoaa
