/-
  Small facts on the bits of whole numbers, in the walk's own spelling.
  What the small calls of varint do: Size, Zig, Zag.
-/
import Derived.Laws.BitsAllLaws
import Derived.Lib.Zigzag
import Derived.IntWalk
import Derived.Test.YtndcdidepdcmnaaRows
import Derived.Test.YtndcdidepdcmnaaKV01Pure
import Derived.WalkKit
import Derived.Lib.Hide
import Derived.WalkSpells
import Derived.WalkLawsBesides
section
namespace Go.Proofs.Ytndcdidepdcmnaa.Bitty

theorem i64_not_any (z : Int) (h1 : -9223372036854775808 ≤ z) (h2 : z ≤ 9223372036854775807) : bits .xor .i64 (-1) z = -z - 1 := by
  show IntKind.i64.wrap ((BitVec.ofInt 64 (-1) ^^^ BitVec.ofInt 64 z).toNat : Int) = _
  have e1 : (BitVec.ofInt 64 (-1)).toNat = 2 ^ 64 - 1 := by decide
  have e2 : (BitVec.ofInt 64 z).toNat = (z % 18446744073709551616).toNat := by rw [BitVec.toNat_ofInt]; rfl
  rw [BitVec.toNat_xor, e1, e2, Lib.xor_ones64 _ (by omega), IntKind.wrap_i64]
  omega
theorem u64_or1 (x : Int) (h0 : 0 ≤ x) (h1 : x ≤ 18446744073709551615) (h2 : x % 2 = 0) : bits .or .u64 x 1 = x + 1 := by
  rw [u64_or x 1 h0 (by omega) (by omega) (by omega)]
  have := nat_join 1 x.toNat 1 (by omega) (by omega)
  rw [show (1 : Int).toNat = 1 from rfl, this]
  omega
theorem u64_or_high (i : Nat) (x y : Int) (h0 : 0 ≤ x) (hx : x < 2 ^ i) (h1 : 0 ≤ y) (hy : y % 2 ^ i = 0) (h2 : x + y ≤ 18446744073709551615) : bits .or .u64 x y = x + y := by
  rw [u64_or x y h0 (by omega) (by omega) (by omega), Nat.or_comm]
  have hx' : x.toNat < 2 ^ i := by
    have : ((x.toNat : Nat) : Int) < ((2 ^ i : Nat) : Int) := by rw [Int.toNat_of_nonneg h0]; simpa using hx
    omega
  have hy' : y.toNat % 2 ^ i = 0 := by
    have : (((y.toNat % 2 ^ i : Nat)) : Int) = 0 := by rw [Int.natCast_emod, Int.toNat_of_nonneg h1]; simpa using hy
    omega
  rw [nat_join i y.toNat x.toNat hy' hx']
  omega
theorem u8_or128 (x : Int) (h0 : 0 ≤ x) (h1 : x < 128) : bits .or .u8 x 128 = x + 128 := by
  rw [u8_or x 128 h0 (by omega) (by omega) (by omega), Nat.or_comm]
  have := nat_join 7 128 x.toNat (by omega) (by omega)
  rw [show (128 : Int).toNat = 128 from rfl, this]
  omega
theorem u64_and1 (x : Int) (h0 : 0 ≤ x) (h1 : x ≤ 18446744073709551615) : bits .and .u64 x 1 = x % 2 := Lib.u64_and1 x h0 (by omega)

/-- a byte goes to nothing by eight places and more -/
theorem shr_u8_zero (x y : Int) (yk : IntKind) (h0 : 0 ≤ x) (h1 : x < 256) (h2 : 8 ≤ y) : Op.shift .shr .u8 x yk y = pure (.int .u8 0) := by
  have hm : min y.toNat IntKind.u8.bits = 8 := by have : IntKind.u8.bits = 8 := rfl; omega
  have hf : x.fdiv (2 ^ 8) = 0 := by rw [Int.fdiv_eq_ediv_of_nonneg _ (by decide)]; omega
  unfold Op.shift
  rw [if_neg (by omega), hm]
  simp only [hf]
/-- seven bits go to nothing by eight places and more -/
theorem low7_zero (x : Nat) (m : Nat) (h : 8 ≤ m) : (((x : Int) % 128 / 2 ^ m) != 0) = false := by
  have hp : (2 : Int) ^ 8 ≤ 2 ^ m := by
    have := Nat.pow_le_pow_right (n := 2) (by decide) h
    exact_mod_cast this
  have : (x : Int) % 128 / 2 ^ m = 0 := Int.ediv_eq_zero_of_lt (by omega) (by omega)
  simp [this]
/-- seven bits at their place in 64 -/
def sh7 (x k : Nat) : Nat := x % 128 * 2 ^ (7 * k)
theorem sh7_le (x k : Nat) (hk : k ≤ 8) : sh7 x k + 2 ^ (7 * k) ≤ 2 ^ 63 := by
  unfold sh7
  have h1 : x % 128 + 1 ≤ 128 := by omega
  have h2 : (x % 128 + 1) * 2 ^ (7 * k) ≤ 128 * 2 ^ (7 * k) := Nat.mul_le_mul_right _ h1
  have h3 : 128 * 2 ^ (7 * k) = 2 ^ (7 * k + 7) := by rw [Nat.pow_add]; omega
  have h4 : 2 ^ (7 * k + 7) ≤ 2 ^ 63 := Nat.pow_le_pow_right (by decide) (by omega)
  rw [Nat.add_mul, Nat.one_mul] at h2
  omega
theorem sh7_lt (x k : Nat) (hk : k ≤ 8) : sh7 x k ≤ 9223372036854775808 := Nat.le_trans (Nat.le_add_right _ _) (sh7_le x k hk)
theorem wrap_sh7 (x k : Nat) (hk : k ≤ 8) : IntKind.u64.wrap ((x : Int) % 128 * 2 ^ (7 * k)) = ((sh7 x k : Nat) : Int) := by
  have e : ((x : Int) % 128 * 2 ^ (7 * k)) = ((sh7 x k : Nat) : Int) := by
    unfold sh7
    simp
  rw [e, IntWalk.u64_in _ ⟨by omega, by have := sh7_lt x k hk; omega⟩]
theorem or_sh7 (acc x k : Nat) (hk : k ≤ 8) (ha : acc < 2 ^ (7 * k)) : bits .or .u64 (acc : Int) (sh7 x k : Nat) = ((acc + sh7 x k : Nat) : Int) := by
  have hs := sh7_lt x k hk
  have hp : (2 : Nat) ^ (7 * k) ≤ 2 ^ 56 := Nat.pow_le_pow_right (by decide) (by omega)
  rw [u64_or_nat acc (sh7 x k) (by omega) (by omega), Nat.or_comm, nat_join (7 * k) (sh7 x k) acc (by unfold sh7; exact Nat.mul_mod_left _ _) ha, Nat.add_comm]

end Go.Proofs.Ytndcdidepdcmnaa.Bitty
end

section
namespace Go.Proofs.Ytndcdidepdcmnaa.V01
open Go.RowKit

theorem ret_int {k : IntKind} {a b : Int} (h : a = b) : Ending.returned (.int k a) = .returned (.int k b) := by rw [h]

/-- a number of 64 bits, behind a name -/
def In64 (m : Nat) : Prop := (m : Int) ≤ 18446744073709551615
def SizeRel (n f m k : Nat) : Prop := k + f ≤ 10 ∧ k + (vb f m).length = vsize n + 1
theorem size_step (n g m k : Nat) (h : SizeRel n (g + 1) m k) (e : vb (g + 1) m = (m % 128 + 128) :: vb g (m / 128)) : SizeRel n g (m / 128) (k + 1) := by
  obtain ⟨h1, h2⟩ := h
  rw [e] at h2
  simp only [List.length_cons] at h2
  exact ⟨by omega, by omega⟩
theorem size_end (n f m k : Nat) (h : SizeRel n f m k) (hm : m < 128) : k = vsize n := by
  obtain ⟨h1, h2⟩ := h
  rw [vb_small f m hm] at h2
  simp at h2
  omega

set_option maxRecDepth 20000 in
set_option maxHeartbeats 400000 in
theorem size_any (n : Nat) (w : World) (hn : (n : Int) ≤ 18446744073709551615) :
    Calls Try.prog 56 #[.int .u64 n] w fun e w' => e = .returned (.int .i64 (vsize n)) ∧ w = w' := by
  have hf := fit64 (n := n) (by omega)
  go_enter Try.func56, Try.ntmps56
  go_wp2
  go_loop [0, 3] (fun a s => ∃ f m k : Nat, a = .int .u64 m ∧ s = .int .i64 k ∧ In64 m ∧ k ≤ 10 ∧ Fit f m ∧ SizeRel n f m k) (fun a _ => (intOf a).toNat)
  case atStart => exact ⟨9, n, 1, rfl, rfl, hn, by omega, hf, by omega, by simp [vsize, vbytes]; omega⟩
  case round =>
    obtain ⟨f, m, k, rfl, rfl, hm0, hk, hfm, hr⟩ := hrel
    have hm : (m : Int) ≤ 18446744073709551615 := hm0
    clear hm0
    by_cases h : 128 ≤ m
    · obtain ⟨g, rfl, e, hg⟩ := fit_step f m h hfm
      have R := size_step n g m k hr e
      have hk9 : k + g + 1 ≤ 10 := hr.1
      have HE := Lib.hid e
      clear e hr hf
      go_wp2
      go_round
      case rel => exact ⟨g, m / 128, k + 1, by go_num, by go_num, by unfold In64; omega, by omega, hg, R⟩
      case measure => simp [intOf]; omega
    · have E := Lib.hid (size_end n f m k hr (by omega))
      clear hr hf hfm
      go_wp2
      go_ret
      exact ⟨ret_int (by rw [E.out]), rfl⟩

def zig (z : Int) : Int := if 0 ≤ z then 2 * z else -2 * z - 1
def zag (n : Int) : Int := if n % 2 = 0 then n / 2 else -(n / 2) - 1
theorem zig_bd (z : Int) (h1 : -9223372036854775808 ≤ z) (h2 : z ≤ 9223372036854775807) : 0 ≤ zig z ∧ zig z ≤ 18446744073709551615 := by unfold zig; split <;> omega
theorem zag_bd (z : Int) (h1 : 0 ≤ z) (h2 : z ≤ 18446744073709551615) : -9223372036854775808 ≤ zag z ∧ zag z ≤ 9223372036854775807 := by unfold zag; split <;> omega
theorem zag_zig (z : Int) : zag (zig z) = z := by unfold zag zig; split <;> split <;> omega
theorem zig_zag (n : Int) (h : 0 ≤ n) : zig (zag n) = n := by unfold zag zig; split <;> split <;> omega

theorem zig_any (z : Int) (w : World) (h1 : -9223372036854775808 ≤ z) (h2 : z ≤ 9223372036854775807) :
    Calls Try.prog 70 #[.int .i64 z] w fun e w' => e = .returned (.int .u64 (zig z)) ∧ w = w' := by
  by_cases hz : z < 0
  · have hx := Bitty.i64_not_any z h1 h2
    have ho := Bitty.u64_or1 ((-z - 1) * 2) (by omega) (by omega) (by omega)
    have e1 : IntKind.u64.wrap (-z - 1) = -z - 1 := IntWalk.u64_in _ (by omega)
    have e2 : IntKind.u64.wrap ((-z - 1) * 2) = (-z - 1) * 2 := IntWalk.u64_in _ (by omega)
    go_enter Try.func70, Try.ntmps70
    go_wp2
    go_ret
    exact ⟨ret_int (by unfold zig; rw [if_neg (by omega)]; omega), rfl⟩
  · go_enter Try.func70, Try.ntmps70
    go_wp2
    go_ret
    exact ⟨ret_int (by unfold zig; rw [if_pos (by omega)]; omega), rfl⟩
theorem zag_any (n : Int) (w : World) (h1 : 0 ≤ n) (h2 : n ≤ 18446744073709551615) :
    Calls Try.prog 80 #[.int .u64 n] w fun e w' => e = .returned (.int .i64 (zag n)) ∧ w = w' := by
  have ha := Bitty.u64_and1 n h1 h2
  have hx := Bitty.i64_not_any (n / 2) (by omega) (by omega)
  by_cases hz : n % 2 = 0
  · have hb : (n % 2 == 1) = false := by simp; omega
    have Z := Lib.hid hz
    clear hz
    go_enter Try.func80, Try.ntmps80
    go_wp2
    go_ret
    exact ⟨ret_int (by unfold zag; rw [if_pos Z.out]), rfl⟩
  · have hb : (n % 2 == 1) = true := by simp; omega
    have Z := Lib.hid hz
    clear hz
    go_enter Try.func80, Try.ntmps80
    go_wp2
    go_ret
    exact ⟨ret_int (by unfold zag; rw [if_neg Z.out]), rfl⟩
theorem refzig_any (z : Int) (w : World) (h1 : -9223372036854775808 ≤ z) (h2 : z ≤ 9223372036854775807) :
    Calls Try.prog 48 #[.int .i64 z] w fun e w' => e = .returned (.int .u64 (zig z)) ∧ w = w' := by
  by_cases hz : z < 0
  · go_enter Try.func48, Try.ntmps48
    go_wp2
    go_ret
    exact ⟨ret_int (by unfold zig; rw [if_neg (by omega)]; omega), rfl⟩
  · go_enter Try.func48, Try.ntmps48
    go_wp2
    go_ret
    exact ⟨ret_int (by unfold zig; rw [if_pos (by omega)]), rfl⟩
end Go.Proofs.Ytndcdidepdcmnaa.V01
end
