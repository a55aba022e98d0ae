/-
  The sum of bytes as numbers: one step, its linearity, the half table, parts, the four bytes behind, one bit and two bits turned.
-/
import Derived.Laws.BitsAllLaws
namespace Go.Proofs.YtghdojiffooilaaDoor.C02
set_option linter.unusedSimpArgs false

/-- one step: the bits go down by one, the polynomial is put in where a set bit fell out -/
def stp1 (n : Nat) : Nat := if n % 2 = 1 then (n / 2) ^^^ 3988292384 else n / 2
def stp : Nat → Nat → Nat
  | 0, n => n
  | k + 1, n => stp k (stp1 n)
def crc (s : Nat) (l : List UInt8) : Nat := l.foldl (fun s c => stp 8 (s ^^^ c.toNat)) s
def sumOf (l : List UInt8) : Nat := 4294967295 - crc 4294967295 l

theorem stp_add (a b n : Nat) : stp (a + b) n = stp b (stp a n) := by
  induction a generalizing n with
  | zero => simp [stp]
  | succ a ih => rw [Nat.succ_add]; exact ih _
theorem stp_succ (k n : Nat) : stp (k + 1) n = stp1 (stp k n) := by rw [stp_add]; rfl

theorem xor_mod2 (a b : Nat) : (a ^^^ b) % 2 = (a % 2 + b % 2) % 2 := by
  have := Nat.xor_mod_two_pow (a := a) (b := b) (n := 1)
  rw [Nat.pow_one] at this
  rw [this]
  rcases Nat.mod_two_eq_zero_or_one a with ha | ha <;> rcases Nat.mod_two_eq_zero_or_one b with hb | hb <;> simp [ha, hb]
theorem xor_div2 (a b : Nat) : (a ^^^ b) / 2 = a / 2 ^^^ b / 2 := Nat.xor_div_two
theorem stp1_xor (a b : Nat) : stp1 (a ^^^ b) = stp1 a ^^^ stp1 b := by
  unfold stp1
  rw [xor_mod2, xor_div2]
  rcases Nat.mod_two_eq_zero_or_one a with ha | ha <;> rcases Nat.mod_two_eq_zero_or_one b with hb | hb <;> simp only [ha, hb]
  · simp
  · simp [Nat.xor_assoc]
  · simp only [Nat.add_zero, Nat.reduceMod, if_true, reduceIte, Nat.reduceEqDiff, if_false]
    rw [Nat.xor_assoc, Nat.xor_assoc, Nat.xor_comm (b / 2)]
  · simp only [Nat.reduceAdd, Nat.reduceMod, reduceIte, Nat.reduceEqDiff]
    rw [Nat.xor_assoc, Nat.xor_comm 3988292384, Nat.xor_assoc, Nat.xor_self, Nat.xor_zero]
theorem stp_xor (k a b : Nat) : stp k (a ^^^ b) = stp k a ^^^ stp k b := by
  induction k generalizing a b with
  | zero => rfl
  | succ k ih => simp only [stp]; rw [stp1_xor, ih]
theorem stp1_lt (n : Nat) (h : n < 4294967296) : stp1 n < 4294967296 := by
  unfold stp1
  split
  · exact Nat.xor_lt_two_pow (n := 32) (by omega) (by omega)
  · omega
theorem stp_lt (k n : Nat) (h : n < 4294967296) : stp k n < 4294967296 := by
  induction k generalizing n with
  | zero => exact h
  | succ k ih => exact ih _ (stp1_lt n h)
theorem stp_zero (k : Nat) : stp k 0 = 0 := by
  induction k with
  | zero => rfl
  | succ k ih => simp only [stp]; rw [show stp1 0 = 0 from rfl, ih]
theorem stp1_even (m : Nat) : stp1 (2 * m) = m := by
  unfold stp1
  rw [if_neg (by omega)]
  omega
/-- low bits that are nought go down -/
theorem stp_high (k m : Nat) : stp k (2 ^ k * m) = m := by
  induction k generalizing m with
  | zero => simp [stp]
  | succ k ih =>
    simp only [stp]
    rw [show 2 ^ (k + 1) * m = 2 * (2 ^ k * m) from by rw [Nat.pow_succ, Nat.mul_comm (2 ^ k) 2, Nat.mul_assoc], stp1_even, ih]
theorem stp1_ne (n : Nat) (h : n < 4294967296) (h0 : n ≠ 0) : stp1 n ≠ 0 := by
  unfold stp1
  split
  · intro e
    have : n / 2 = 3988292384 := by
      have := congrArg (· ^^^ 3988292384) e
      simpa [Nat.xor_assoc] using this
    omega
  · omega
theorem stp_ne (k n : Nat) (h : n < 4294967296) (h0 : n ≠ 0) : stp k n ≠ 0 := by
  induction k generalizing n with
  | zero => exact h0
  | succ k ih => exact ih _ (stp1_lt n h) (stp1_ne n h h0)
theorem xor_eq_zero {a b : Nat} (h : a ^^^ b = 0) : a = b := by
  have := congrArg (· ^^^ b) h
  simpa [Nat.xor_assoc] using this
theorem stp_inj (k a b : Nat) (ha : a < 4294967296) (hb : b < 4294967296) (h : stp k a = stp k b) : a = b := by
  have hx : stp k (a ^^^ b) = 0 := by rw [stp_xor, h, Nat.xor_self]
  by_cases h0 : a ^^^ b = 0
  · exact xor_eq_zero h0
  · exact absurd hx (stp_ne k _ (Nat.xor_lt_two_pow (n := 32) ha hb) h0)

/-- a number parted at its bit k -/
theorem part (k n : Nat) : n = (n % 2 ^ k) ^^^ (2 ^ k * (n / 2 ^ k)) := by
  apply Nat.eq_of_testBit_eq
  intro i
  rw [Nat.testBit_xor, Nat.testBit_mod_two_pow, Nat.testBit_two_pow_mul, Nat.testBit_div_two_pow]
  by_cases h : i < k
  · simp [h, show ¬ k ≤ i by omega]
  · simp [h, show k ≤ i by omega, show k + (i - k) = i by omega, show i - k + k = i by omega]
theorem stp_part (k n : Nat) : stp k n = (n / 2 ^ k) ^^^ stp k (n % 2 ^ k) := by
  conv => lhs; rw [part k n]
  rw [stp_xor, stp_high, Nat.xor_comm]

def tab : List Int := [0, 498536548, 997073096, 651767980, 1994146192, 1802195444, 1303535960, 1342533948, 3988292384, 4027552580, 3604390888, 3412177804, 2607071920, 2262029012, 2685067896, 3183342108]
theorem tab_all : ∀ i, i < 16 → tab.getD i 0 = ((stp 4 i : Nat) : Int) := by decide
theorem half_eq (n : Nat) : (n / 16) ^^^ stp 4 (n % 16) = stp 4 n := (stp_part 4 n).symm

/-! ### bytes -/
theorem crc_nil (s : Nat) : crc s [] = s := rfl
theorem crc_cons (s : Nat) (c : UInt8) (l : List UInt8) : crc s (c :: l) = crc (stp 8 (s ^^^ c.toNat)) l := rfl
theorem crc_append (s : Nat) (a b : List UInt8) : crc s (a ++ b) = crc (crc s a) b := by unfold crc; rw [List.foldl_append]
theorem crc_snoc (s : Nat) (a : List UInt8) (c : UInt8) : crc s (a ++ [c]) = stp 8 (crc s a ^^^ c.toNat) := crc_append s a [c]
theorem u8_lt (c : UInt8) : c.toNat < 256 := c.toNat_lt
theorem xor_byte (s : Nat) (c : UInt8) (h : s < 4294967296) : s ^^^ c.toNat < 4294967296 := Nat.xor_lt_two_pow (n := 32) h (by have := u8_lt c; omega)
theorem crc_lt (s : Nat) (l : List UInt8) (h : s < 4294967296) : crc s l < 4294967296 := by
  induction l generalizing s with
  | nil => exact h
  | cons c l ih => exact ih _ (stp_lt 8 _ (xor_byte s c h))
theorem sumOf_lt (l : List UInt8) : sumOf l < 4294967296 := by unfold sumOf; omega
theorem not_xor (a : Nat) (h : a < 4294967296) : 4294967295 - a = 4294967295 ^^^ a := by
  apply Nat.eq_of_testBit_eq
  intro i
  rw [show 4294967295 - a = 2 ^ 32 - (a + 1) from by omega, Nat.testBit_two_pow_sub_succ (by omega), Nat.testBit_xor, show (4294967295 : Nat) = 2 ^ 32 - 1 from rfl, Nat.testBit_two_pow_sub_one]
  by_cases hi : i < 32
  · simp [hi]
  · have : a.testBit i = false := Nat.testBit_lt_two_pow (Nat.lt_of_lt_of_le h (Nat.pow_le_pow_right (n := 2) (i := 32) (by decide) (by omega)))
    simp [hi, this]

/-! ### the four bytes behind -/
def toldN : List UInt8 → Nat
  | [] => 0
  | c :: t => c.toNat + 256 * toldN t
theorem toldN_snoc (a : List UInt8) (c : UInt8) : toldN (a ++ [c]) = toldN a + c.toNat * 2 ^ (8 * a.length) := by
  induction a with
  | nil => simp [toldN]
  | cons x a ih =>
    simp only [List.cons_append, toldN, ih, List.length_cons]
    rw [show 8 * (a.length + 1) = 8 * a.length + 8 from by omega, Nat.pow_add, Nat.mul_add, ← Nat.mul_assoc, Nat.mul_comm 256 c.toNat, Nat.mul_assoc, Nat.mul_comm 256 (2 ^ (8 * a.length)), show (2 : Nat) ^ 8 = 256 from rfl]
    omega
theorem toldN_lt (a : List UInt8) : toldN a < 2 ^ (8 * a.length) := by
  induction a with
  | nil => simp [toldN]
  | cons x a ih =>
    simp only [toldN, List.length_cons]
    rw [show 8 * (a.length + 1) = 8 * a.length + 8 from by omega, Nat.pow_add]
    have := u8_lt x
    omega
theorem toldN_inj : ∀ (a b : List UInt8), a.length = b.length → toldN a = toldN b → a = b
  | [], [], _, _ => rfl
  | x :: a, y :: b, hl, h => by
    simp only [toldN] at h
    have hx := u8_lt x
    have hy := u8_lt y
    have e1 : x.toNat = y.toNat := by omega
    have e2 := toldN_inj a b (by simpa using hl) (by omega)
    rw [e2, UInt8.toNat_inj.1 e1]
def tail4 (n : Nat) : List UInt8 := [UInt8.ofNat (n % 256), UInt8.ofNat (n / 256 % 256), UInt8.ofNat (n / 65536 % 256), UInt8.ofNat (n / 16777216)]
theorem tail4_len (n : Nat) : (tail4 n).length = 4 := rfl
theorem ofNat_toNat (n : Nat) (h : n < 256) : (UInt8.ofNat n).toNat = n := UInt8.toNat_ofNat_of_lt' h
theorem toldN_tail4 (n : Nat) (h : n < 4294967296) : toldN (tail4 n) = n := by
  simp only [tail4, toldN]
  rw [ofNat_toNat _ (by omega), ofNat_toNat _ (by omega), ofNat_toNat _ (by omega), ofNat_toNat _ (by omega)]
  omega
theorem eq_tail4 (l : List UInt8) (n : Nat) (hl : l.length = 4) (h : n < 4294967296) : l = tail4 n ↔ toldN l = n := by
  constructor
  · rintro rfl
    exact toldN_tail4 n h
  · intro e
    exact toldN_inj _ _ hl (by rw [toldN_tail4 n h, e])
theorem xor_low (c t : Nat) (h : c < 256) : c + 256 * t = c ^^^ (256 * t) := by
  have := part 8 (c + 256 * t)
  rw [show (c + 256 * t) % 2 ^ 8 = c from by omega, show (c + 256 * t) / 2 ^ 8 = t from by omega] at this
  exact this
/-- bytes put in one by one are put in together -/
theorem crc_told (s : Nat) (l : List UInt8) : crc s l = stp (8 * l.length) (s ^^^ toldN l) := by
  induction l generalizing s with
  | nil => simp [crc, toldN, stp]
  | cons c l ih =>
    rw [crc_cons, ih, List.length_cons, show 8 * (l.length + 1) = 8 + 8 * l.length from by omega, stp_add, toldN, xor_low _ _ (u8_lt c), ← Nat.xor_assoc, stp_xor 8 (s ^^^ c.toNat), stp_high 8]
/-- all bits set, and 32 steps -/
def rest : Nat := stp 32 4294967295
theorem opens_iff (l : List UInt8) (k : Nat) (hk : l.length = k + 4) : toldN (l.drop k) = sumOf (l.take k) ↔ crc 4294967295 l = rest := by
  have hs : crc 4294967295 (l.take k) < 4294967296 := crc_lt _ _ (by omega)
  have hd : (l.drop k).length = 4 := by simp; omega
  have ht : toldN (l.drop k) < 4294967296 := by have := toldN_lt (l.drop k); rw [hd] at this; simpa using this
  have e : crc 4294967295 l = stp 32 (crc 4294967295 (l.take k) ^^^ toldN (l.drop k)) := by
    conv => lhs; rw [← List.take_append_drop k l, crc_append, crc_told, hd]
  rw [e, sumOf, not_xor _ hs, rest]
  clear e
  generalize crc 4294967295 (l.take k) = s at *
  generalize toldN (l.drop k) = t at *
  constructor
  · intro h
    rw [h, Nat.xor_comm, Nat.xor_assoc, Nat.xor_self, Nat.xor_zero]
  · intro h
    have := stp_inj 32 _ _ (Nat.xor_lt_two_pow (n := 32) hs ht) (by omega) h
    rw [← this, Nat.xor_comm s t, Nat.xor_assoc, Nat.xor_self, Nat.xor_zero]
theorem sealed_rest (b : List UInt8) : crc 4294967295 (b ++ tail4 (sumOf b)) = rest := by
  refine (opens_iff _ b.length (by simp [tail4])).1 ?_
  simp only [List.drop_left, List.take_left]
  exact toldN_tail4 _ (sumOf_lt b)

/-! ### bits turned -/
theorem crc_xor_state (s d : Nat) (l : List UInt8) : crc (s ^^^ d) l = crc s l ^^^ stp (8 * l.length) d := by
  rw [crc_told, crc_told, ← stp_xor, Nat.xor_assoc, Nat.xor_assoc, Nat.xor_comm d]
theorem crc_set (s j r : Nat) (c : UInt8) (l : List UInt8) (hj : j < l.length) (hr : r < 8) (hc : c.toNat = l[j].toNat ^^^ 2 ^ r) :
    crc s (l.set j c) = crc s l ^^^ stp (8 * l.length - (8 * j + r)) 1 := by
  induction l generalizing s j with
  | nil => simp at hj
  | cons x l ih =>
    cases j with
    | zero =>
      simp only [List.getElem_cons_zero] at hc
      rw [List.set_cons_zero, crc_cons, crc_cons, hc, ← Nat.xor_assoc, stp_xor, crc_xor_state]
      congr 1
      have e : stp 8 (2 ^ r) = stp (8 - r) 1 := by
        have := stp_add r (8 - r) (2 ^ r)
        rw [show r + (8 - r) = 8 from by omega] at this
        rw [this]
        congr 1
        simpa using stp_high r 1
      rw [e, ← stp_add]
      congr 1
      simp only [List.length_cons]
      omega
    | succ j =>
      simp only [List.getElem_cons_succ] at hc
      rw [List.set_cons_succ, crc_cons, crc_cons, ih _ j (by simpa using hj) hc]
      congr 2
      simp only [List.length_cons]
      omega
/-- the steps, by numbers alone -/
def bst (n : Nat) : Nat := Nat.xor (Nat.div n 2) (Nat.mul 3988292384 (Nat.mod n 2))
theorem bst_eq (n : Nat) : bst n = stp1 n := by
  show (n / 2) ^^^ (3988292384 * (n % 2)) = _
  unfold stp1
  rcases Nat.mod_two_eq_zero_or_one n with h | h <;> simp [h]
def run : Nat → Nat → Bool
  | 0, _ => true
  | k + 1, s => match Nat.beq (bst s) 1 with
    | true => false
    | false => run k (bst s)
theorem run_spec (k s d : Nat) (h : run k s = true) (h0 : 0 < d) (hd : d ≤ k) : stp d s ≠ 1 := by
  induction k generalizing s d with
  | zero => omega
  | succ k ih =>
    unfold run at h
    cases hb : Nat.beq (bst s) 1 with
    | true => rw [hb] at h; cases h
    | false =>
      rw [hb] at h
      obtain ⟨e, rfl⟩ : ∃ e, d = e + 1 := ⟨d - 1, by omega⟩
      simp only [stp]
      rw [← bst_eq]
      rcases Nat.eq_zero_or_pos e with he | he
      · subst he
        simp only [stp]
        exact Nat.ne_of_beq_eq_false hb
      · exact ih (bst s) e h he (by omega)
theorem run_all : run 15952 1 = true := by decide +kernel
theorem one_far (d : Nat) (h0 : 0 < d) (hd : d ≤ 15952) : stp d 1 ≠ 1 := run_spec 15952 1 d run_all h0 hd
theorem two_far (a b : Nat) (h : a ≠ b) (ha : a ≤ 15952) (hb : b ≤ 15952) : stp a 1 ≠ stp b 1 := by
  intro e
  rcases Nat.lt_or_gt_of_ne h with hl | hl
  · obtain ⟨d, rfl⟩ : ∃ d, b = d + a := ⟨b - a, by omega⟩
    rw [stp_add] at e
    exact one_far d (by omega) (by omega) (stp_inj a _ _ (by omega) (stp_lt _ _ (by omega)) e).symm
  · obtain ⟨d, rfl⟩ : ∃ d, a = d + b := ⟨a - b, by omega⟩
    rw [stp_add] at e
    exact one_far d (by omega) (by omega) (stp_inj b _ _ (stp_lt _ _ (by omega)) (by omega) e)
end Go.Proofs.YtghdojiffooilaaDoor.C02
