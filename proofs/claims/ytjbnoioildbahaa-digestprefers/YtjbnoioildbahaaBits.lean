/-
  Small facts on the bits of whole numbers, in the walk's own spelling.
-/
import Derived.Laws.BitsAllLaws
import Derived.Lib.Zigzag
import Derived.IntWalk
namespace Go.Proofs.Ytjbnoioildbahaa.Bitty

theorem i64_not_any (z : Int) (h1 : -9223372036854775808 ≤ z) (h2 : z ≤ 9223372036854775807) : bits .xor .i64 (-1) z = -z - 1 := by
  show IntKind.i64.wrap ((BitVec.ofInt 64 (-1) ^^^ BitVec.ofInt 64 z).toNat : Int) = _
  have e1 : (BitVec.ofInt 64 (-1)).toNat = 2 ^ 64 - 1 := by decide
  have e2 : (BitVec.ofInt 64 z).toNat = (z % 18446744073709551616).toNat := by rw [BitVec.toNat_ofInt]; rfl
  rw [BitVec.toNat_xor, e1, e2, Lib.xor_ones64 _ (by omega), IntKind.wrap_i64]
  omega
theorem u64_or1 (x : Int) (h0 : 0 ≤ x) (h1 : x ≤ 18446744073709551615) (h2 : x % 2 = 0) : bits .or .u64 x 1 = x + 1 := by
  rw [u64_or x 1 h0 (by omega) (by omega) (by omega)]
  have := nat_join 1 x.toNat 1 (by omega) (by omega)
  rw [show (1 : Int).toNat = 1 from rfl, this]
  omega
theorem u64_or_high (i : Nat) (x y : Int) (h0 : 0 ≤ x) (hx : x < 2 ^ i) (h1 : 0 ≤ y) (hy : y % 2 ^ i = 0) (h2 : x + y ≤ 18446744073709551615) : bits .or .u64 x y = x + y := by
  rw [u64_or x y h0 (by omega) (by omega) (by omega), Nat.or_comm]
  have hx' : x.toNat < 2 ^ i := by
    have : ((x.toNat : Nat) : Int) < ((2 ^ i : Nat) : Int) := by rw [Int.toNat_of_nonneg h0]; simpa using hx
    omega
  have hy' : y.toNat % 2 ^ i = 0 := by
    have : (((y.toNat % 2 ^ i : Nat)) : Int) = 0 := by rw [Int.natCast_emod, Int.toNat_of_nonneg h1]; simpa using hy
    omega
  rw [nat_join i y.toNat x.toNat hy' hx']
  omega
theorem u8_or128 (x : Int) (h0 : 0 ≤ x) (h1 : x < 128) : bits .or .u8 x 128 = x + 128 := by
  rw [u8_or x 128 h0 (by omega) (by omega) (by omega), Nat.or_comm]
  have := nat_join 7 128 x.toNat (by omega) (by omega)
  rw [show (128 : Int).toNat = 128 from rfl, this]
  omega
theorem u64_and1 (x : Int) (h0 : 0 ≤ x) (h1 : x ≤ 18446744073709551615) : bits .and .u64 x 1 = x % 2 := Lib.u64_and1 x h0 (by omega)

/-- a byte goes to nothing by eight places and more -/
theorem shr_u8_zero (x y : Int) (yk : IntKind) (h0 : 0 ≤ x) (h1 : x < 256) (h2 : 8 ≤ y) : Op.shift .shr .u8 x yk y = pure (.int .u8 0) := by
  have hm : min y.toNat IntKind.u8.bits = 8 := by have : IntKind.u8.bits = 8 := rfl; omega
  have hf : x.fdiv (2 ^ 8) = 0 := by rw [Int.fdiv_eq_ediv_of_nonneg _ (by decide)]; omega
  unfold Op.shift
  rw [if_neg (by omega), hm]
  simp only [hf]
/-- seven bits go to nothing by eight places and more -/
theorem low7_zero (x : Nat) (m : Nat) (h : 8 ≤ m) : (((x : Int) % 128 / 2 ^ m) != 0) = false := by
  have hp : (2 : Int) ^ 8 ≤ 2 ^ m := by
    have := Nat.pow_le_pow_right (n := 2) (by decide) h
    exact_mod_cast this
  have : (x : Int) % 128 / 2 ^ m = 0 := Int.ediv_eq_zero_of_lt (by omega) (by omega)
  simp [this]
/-- seven bits at their place in 64 -/
def sh7 (x k : Nat) : Nat := x % 128 * 2 ^ (7 * k)
theorem sh7_le (x k : Nat) (hk : k ≤ 8) : sh7 x k + 2 ^ (7 * k) ≤ 2 ^ 63 := by
  unfold sh7
  have h1 : x % 128 + 1 ≤ 128 := by omega
  have h2 : (x % 128 + 1) * 2 ^ (7 * k) ≤ 128 * 2 ^ (7 * k) := Nat.mul_le_mul_right _ h1
  have h3 : 128 * 2 ^ (7 * k) = 2 ^ (7 * k + 7) := by rw [Nat.pow_add]; omega
  have h4 : 2 ^ (7 * k + 7) ≤ 2 ^ 63 := Nat.pow_le_pow_right (by decide) (by omega)
  rw [Nat.add_mul, Nat.one_mul] at h2
  omega
theorem sh7_lt (x k : Nat) (hk : k ≤ 8) : sh7 x k ≤ 9223372036854775808 := Nat.le_trans (Nat.le_add_right _ _) (sh7_le x k hk)
theorem wrap_sh7 (x k : Nat) (hk : k ≤ 8) : IntKind.u64.wrap ((x : Int) % 128 * 2 ^ (7 * k)) = ((sh7 x k : Nat) : Int) := by
  have e : ((x : Int) % 128 * 2 ^ (7 * k)) = ((sh7 x k : Nat) : Int) := by
    unfold sh7
    simp
  rw [e, IntWalk.u64_in _ ⟨by omega, by have := sh7_lt x k hk; omega⟩]
theorem or_sh7 (acc x k : Nat) (hk : k ≤ 8) (ha : acc < 2 ^ (7 * k)) : bits .or .u64 (acc : Int) (sh7 x k : Nat) = ((acc + sh7 x k : Nat) : Int) := by
  have hs := sh7_lt x k hk
  have hp : (2 : Nat) ^ (7 * k) ≤ 2 ^ 56 := Nat.pow_le_pow_right (by decide) (by omega)
  rw [u64_or_nat acc (sh7 x k) (by omega) (by omega), Nat.or_comm, nat_join (7 * k) (sh7 x k) acc (by unfold sh7; exact Nat.mul_mod_left _ _) ha, Nat.add_comm]

end Go.Proofs.Ytjbnoioildbahaa.Bitty
