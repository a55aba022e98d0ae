/-
  The plain mathematics of numbers in few bytes: the bytes of a number, and what is got from bytes.
-/
import Derived.PlainAid
namespace Go.Proofs.YtghdojiffooilaaDoor.V01

/-- a number's bytes, seven bits each, with so many bytes more than one at the most -/
def vb : Nat → Nat → List Nat
  | 0, n => [n]
  | f + 1, n => if n < 128 then [n] else (n % 128 + 128) :: vb f (n / 128)
def vbytes (n : Nat) : List Nat := vb 9 n

theorem vb_pos (f n : Nat) : 0 < (vb f n).length := by
  cases f with
  | zero => simp [vb]
  | succ f => rw [vb]; split <;> simp
theorem vb_len (f n : Nat) : (vb f n).length ≤ f + 1 := by
  induction f generalizing n with
  | zero => simp [vb]
  | succ f ih =>
    rw [vb]; split
    · simp
    · have := ih (n / 128); simp only [List.length_cons]; omega
theorem vb_small (f n : Nat) (h : n < 128) : vb f n = [n] := by
  cases f with
  | zero => rfl
  | succ f => rw [vb, if_pos h]
theorem vb_step (f n : Nat) (h : 128 ≤ n) (hn : n < 128 ^ (f + 1)) : ∃ g, f = g + 1 ∧ vb f n = (n % 128 + 128) :: vb g (n / 128) ∧ n / 128 < 128 ^ (g + 1) := by
  cases f with
  | zero => simp at hn; omega
  | succ f =>
    refine ⟨f, rfl, by rw [vb, if_neg (by omega)], ?_⟩
    rw [Nat.pow_succ] at hn
    exact Nat.div_lt_of_lt_mul (by omega)
theorem vb_byte (f n : Nat) (hn : n < 128 ^ (f + 1)) : ∀ c ∈ vb f n, c < 256 := by
  induction f generalizing n with
  | zero => intro c hc; simp [vb] at hc hn; omega
  | succ f ih =>
    intro c hc
    rcases Nat.lt_or_ge n 128 with h | h
    · rw [vb_small _ _ h] at hc; simp at hc; omega
    · obtain ⟨g, hg, e, hg2⟩ := vb_step (f + 1) n h hn
      obtain rfl : f = g := by omega
      rw [e] at hc
      rcases List.mem_cons.1 hc with rfl | hc
      · omega
      · exact ih _ hg2 c hc
theorem two64 {n : Nat} (h : n ≤ 18446744073709551615) : n < 128 ^ (9 + 1) := Nat.lt_of_le_of_lt h (by decide)

/-- 'n' has room in so many bytes more than one: behind a name, so that no great power is reckoned -/
def Fit (f n : Nat) : Prop := n < 128 ^ (f + 1)
theorem fit_step (f n : Nat) (h : 128 ≤ n) (hn : Fit f n) : ∃ g, f = g + 1 ∧ vb f n = (n % 128 + 128) :: vb g (n / 128) ∧ Fit g (n / 128) := vb_step f n h hn
theorem fit64 {n : Nat} (h : n ≤ 18446744073709551615) : Fit 9 n := two64 h
/-- how many bytes, and which -/
def vsize (n : Nat) : Nat := (vbytes n).length
theorem vsize_le (n : Nat) : vsize n ≤ 10 := vb_len 9 n
theorem vsize_pos (n : Nat) : 0 < vsize n := vb_pos 9 n

/-- what is got from bytes: the number, how many bytes it has, the error -/
def getF : Nat → Nat → List Nat → Nat × Nat × Nat
  | _, _, [] => (0, 0, 10)
  | i, acc, c :: r =>
    if 9 < i ∨ (i = 9 ∧ 2 ≤ c % 128) then (0, 0, 11)
    else if 128 ≤ c then getF (i + 1) (acc + c % 128 * 2 ^ (7 * i)) r
    else if c = 0 ∧ 0 < i then (0, 0, 11)
    else (acc + c % 128 * 2 ^ (7 * i), i + 1, 0)

/-- the bytes as bytes -/
def b8 (l : List Nat) : List UInt8 := l.map UInt8.ofNat
def nat8 (l : List UInt8) : List Nat := l.map UInt8.toNat
theorem b8_len (l : List Nat) : (b8 l).length = l.length := by simp [b8]
theorem nat8_len (l : List UInt8) : (nat8 l).length = l.length := by simp [nat8]
theorem nat8_b8 (l : List Nat) (h : ∀ c ∈ l, c < 256) : nat8 (b8 l) = l := by
  unfold nat8 b8
  rw [List.map_map]
  conv => rhs; rw [← List.map_id l]
  refine List.map_congr_left fun c hc => ?_
  have := h c hc
  simp [Nat.mod_eq_of_lt (show c < 256 from this)]
def vby (n : Nat) : List UInt8 := b8 (vbytes n)
theorem vby_len (n : Nat) : (vby n).length = vsize n := by simp [vby, b8, vsize]
theorem nat8_vby {n : Nat} (h : n ≤ 18446744073709551615) : nat8 (vby n) = vbytes n := nat8_b8 _ (vb_byte 9 n (two64 h))

end Go.Proofs.YtghdojiffooilaaDoor.V01
