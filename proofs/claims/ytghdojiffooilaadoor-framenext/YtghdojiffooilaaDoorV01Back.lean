/-
  The plain mathematics of there and back: what is put is got, beginnings are short, greater numbers have no fewer bytes.
-/
import Derived.Test.YtghdojiffooilaaDoorV01Pure
namespace Go.Proofs.YtghdojiffooilaaDoor.V01

theorem pow7 (i : Nat) : 2 ^ (7 * (i + 1)) = 128 * 2 ^ (7 * i) := by rw [Nat.mul_add, Nat.pow_add]; omega
theorem parts (m P : Nat) : m % 128 * P + m / 128 * (128 * P) = m * P := by
  have h : m = m / 128 * 128 + m % 128 := by omega
  have e : m * P = (m / 128 * 128 + m % 128) * P := by rw [← h]
  rw [e, Nat.add_mul, Nat.mul_assoc]
  omega
theorem at9 (m : Nat) (h : m * 2 ^ (7 * 9) < 18446744073709551616) : m < 2 := by
  have : (2 : Nat) ^ (7 * 9) = 9223372036854775808 := by decide
  omega
theorem getF_vb (f : Nat) : ∀ (i acc m : Nat) (rest : List Nat), Fit f m → i ≤ 9 → m * 2 ^ (7 * i) < 18446744073709551616 → (i = 0 ∨ 0 < m) →
    getF i acc (vb f m ++ rest) = (acc + m * 2 ^ (7 * i), i + (vb f m).length, 0) := by
  induction f with
  | zero =>
    intro i acc m rest hf hi hm h0
    have hlt : m < 128 := by unfold Fit at hf; simpa using hf
    have h9 : i = 9 → m < 2 := fun e => by subst e; exact at9 m hm
    rw [vb_small _ _ hlt]
    simp only [List.cons_append, List.nil_append, List.length_cons, List.length_nil]
    rw [getF, if_neg (by omega), if_neg (by omega), if_neg (by omega), Nat.mod_eq_of_lt hlt]
  | succ f ih =>
    intro i acc m rest hf hi hm h0
    have h9 : i = 9 → m < 2 := fun e => by subst e; exact at9 m hm
    rcases Nat.lt_or_ge m 128 with hlt | hge
    · rw [vb_small _ _ hlt]
      simp only [List.cons_append, List.nil_append, List.length_cons, List.length_nil]
      rw [getF, if_neg (by omega), if_neg (by omega), if_neg (by omega), Nat.mod_eq_of_lt hlt]
    · obtain ⟨g, hg, e, hfg⟩ := fit_step (f + 1) m hge hf
      obtain rfl : f = g := by omega
      have hp := parts m (2 ^ (7 * i))
      rw [e]
      simp only [List.cons_append, List.length_cons]
      rw [getF, if_neg (by omega), if_pos (by omega), show (m % 128 + 128) % 128 = m % 128 by omega, ih (i + 1) _ (m / 128) rest hfg (by omega) (by rw [pow7]; omega) (by omega), pow7]
      simp only [Prod.mk.injEq]
      refine ⟨by omega, by omega, trivial⟩
theorem getF_take (f : Nat) : ∀ (i acc m k : Nat), Fit f m → i ≤ 9 → m * 2 ^ (7 * i) < 18446744073709551616 → k < (vb f m).length → getF i acc ((vb f m).take k) = (0, 0, 10) := by
  induction f with
  | zero =>
    intro i acc m k hf hi hm hk
    have hlt : m < 128 := by unfold Fit at hf; simpa using hf
    rw [vb_small _ _ hlt] at hk ⊢
    simp only [List.length_cons, List.length_nil] at hk
    obtain rfl : k = 0 := by omega
    rfl
  | succ f ih =>
    intro i acc m k hf hi hm hk
    have h9 : i = 9 → m < 2 := fun e => by subst e; exact at9 m hm
    cases k with
    | zero => rfl
    | succ k =>
      rcases Nat.lt_or_ge m 128 with hlt | hge
      · rw [vb_small _ _ hlt] at hk
        simp at hk
      · obtain ⟨g, hg, e, hfg⟩ := fit_step (f + 1) m hge hf
        obtain rfl : f = g := by omega
        have hp := parts m (2 ^ (7 * i))
        rw [e] at hk ⊢
        simp only [List.length_cons] at hk
        rw [List.take_succ_cons, getF, if_neg (by omega), if_pos (by omega)]
        exact ih (i + 1) _ (m / 128) k hfg (by omega) (by rw [pow7]; omega) (by omega)

theorem nat8_app (a b : List UInt8) : nat8 (a ++ b) = nat8 a ++ nat8 b := by simp [nat8]
theorem nat8_take (a : List UInt8) (k : Nat) : nat8 (a.take k) = (nat8 a).take k := by simp [nat8, List.map_take]
/-- what was put is got, with whatever behind it -/
theorem get_put {n : Nat} (h : n ≤ 18446744073709551615) (rest : List UInt8) : getF 0 0 (nat8 (vby n ++ rest)) = (n, (vby n).length, 0) := by
  rw [nat8_app, nat8_vby h, vbytes, getF_vb 9 0 0 n (nat8 rest) (fit64 h) (by omega) (by omega) (by omega), vby_len]
  simp [vsize, vbytes]
theorem get_put_nil {n : Nat} (h : n ≤ 18446744073709551615) : getF 0 0 (nat8 (vby n)) = (n, (vby n).length, 0) := by
  have := get_put h []
  rwa [List.append_nil] at this
theorem get_begin {n : Nat} (h : n ≤ 18446744073709551615) (k : Nat) (hk : k < (vby n).length) : getF 0 0 (nat8 ((vby n).take k)) = (0, 0, 10) := by
  rw [nat8_take, nat8_vby h, vbytes]
  exact getF_take 9 0 0 n k (fit64 h) (by omega) (by omega) (by rw [vby_len] at hk; exact hk)
/-- two numbers' bytes never begin alike but where they are the same -/
theorem begin_alike {n m : Nat} (hn : n ≤ 18446744073709551615) (hm : m ≤ 18446744073709551615) (h : vby n = (vby m).take (vby n).length) : n = m := by
  have h1 := get_put hn ((vby m).drop (vby n).length)
  rw [show vby n ++ (vby m).drop (vby n).length = vby m from by
    conv => lhs; lhs; rw [h]
    exact List.take_append_drop _ _, get_put_nil hm] at h1
  simp only [Prod.mk.injEq] at h1
  exact h1.1.symm
/-- a greater number never has fewer bytes -/
theorem vb_mono (f : Nat) : ∀ n m, n ≤ m → (vb f n).length ≤ (vb f m).length := by
  induction f with
  | zero => intro n m _; simp [vb]
  | succ f ih =>
    intro n m h
    rcases Nat.lt_or_ge n 128 with h1 | h1
    · rw [vb_small _ _ h1]
      have := vb_pos (f + 1) m
      simp only [List.length_cons, List.length_nil]
      omega
    · rw [vb, vb, if_neg (by omega), if_neg (by omega)]
      have := ih (n / 128) (m / 128) (by omega)
      simp only [List.length_cons]
      omega
theorem vsize_mono {n m : Nat} (h : n ≤ m) : vsize n ≤ vsize m := vb_mono 9 n m h

end Go.Proofs.YtghdojiffooilaaDoor.V01
