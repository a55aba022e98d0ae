/-
  The plain mathematics of there and back: what is put is got, and cut anywhere it isn't whole.
-/
import Derived.Test.YtndcdidepdcmnaaKV04Get2
import Derived.Test.YtndcdidepdcmnaaKV04Texts
set_option linter.unusedSimpArgs false
namespace Go.Proofs.Ytndcdidepdcmnaa.V04
open Go.RowKit Go.Lib Go.Proofs.Ytndcdidepdcmnaa.Wd Go.Proofs.Ytndcdidepdcmnaa.V01

theorem zig_nat {N : Int} (h0 : -9223372036854775808 ≤ N) (h1 : N ≤ 9223372036854775807) : (((zig N).toNat : Nat) : Int) = zig N ∧ (zig N).toNat ≤ 18446744073709551615 := by
  have := zig_bd N h0 h1
  omega
theorem ls_size (S : ByteArray) : S.data.toList.length = S.size := Array.length_toList
theorem bit_byte {N : Int} (h : N = 0 ∨ N = 1) : ((UInt8.ofNat N.toNat).toNat : Int) = N := by rcases h with rfl | rfl <;> rfl
theorem back {K N : Int} {S : ByteArray} (hr : right K N S = true) (h0 : -9223372036854775808 ≤ N) (h1 : N ≤ 9223372036854775807) (rest : List UInt8) :
    getV (vbs K N S ++ rest) = ⟨K, N, S, (vbs K N S).length, 0⟩ := by
  unfold vbs
  rw [if_pos hr]
  rcases right_cases hr with ⟨rfl, rfl⟩ | ⟨rfl, rfl, hn⟩ | ⟨rfl, rfl, hs⟩
  · obtain ⟨z1, z2⟩ := zig_nat h0 h1
    rw [if_pos rfl]
    show finV (intR (vby (zig N).toNat ++ rest)) = _
    unfold intR
    rw [get_put z2 rest]
    simp only [finV, ne_eq, not_true, if_false, z1, zag_zig, List.length_cons]
    congr 1
    omega
  · rw [if_neg (by omega), if_pos rfl]
    show finV (boolR (UInt8.ofNat N.toNat :: rest)) = _
    have hb := bit_byte hn
    have hb2 : ¬ 1 < (UInt8.ofNat N.toNat).toNat := by omega
    simp only [boolR, if_neg hb2, finV, ne_eq, not_true, if_false, hb, List.length_cons, List.length_nil]
  · rw [if_neg (by omega), if_neg (by omega)]
    show finV (textR ((vby S.size ++ S.data.toList) ++ rest)) = _
    have hg := get_put (n := S.size) (by omega) (S.data.toList ++ rest)
    unfold textR
    rw [List.append_assoc, hg]
    have hl := ls_size S
    simp only [ne_eq, not_true, if_false]
    rw [if_neg (by omega), if_neg (by simp only [List.length_append, hl]; omega), List.drop_left, show S.size = S.data.toList.length from hl.symm, List.take_left, hl]
    simp only [finV, ne_eq, not_true, if_false, List.length_cons, List.length_append, hl]
    congr 1
    omega
theorem vbs_cut {K N : Int} {S : ByteArray} (hr : right K N S = true) (h0 : -9223372036854775808 ≤ N) (h1 : N ≤ 9223372036854775807) (i : Nat) (hi : i < (vbs K N S).length) : (getV ((vbs K N S).take i)).e = 10 := by
  unfold vbs at hi ⊢
  rw [if_pos hr] at hi ⊢
  cases i with
  | zero => rfl
  | succ j =>
    rcases right_cases hr with ⟨rfl, rfl⟩ | ⟨rfl, rfl, hn⟩ | ⟨rfl, rfl, hs⟩
    · obtain ⟨z1, z2⟩ := zig_nat h0 h1
      rw [if_pos rfl] at hi ⊢
      rw [List.length_cons] at hi
      rw [List.take_succ_cons]
      show (finV (intR ((vby (zig N).toNat).take j))).e = 10
      unfold intR
      rw [get_begin z2 j (by omega)]
      rfl
    · rw [if_neg (by omega), if_pos rfl] at hi ⊢
      simp only [List.length_cons, List.length_nil] at hi
      obtain rfl : j = 0 := by omega
      rfl
    · rw [if_neg (by omega), if_neg (by omega)] at hi ⊢
      have hl := ls_size S
      rw [List.length_cons, List.length_append, hl] at hi
      rw [List.take_succ_cons]
      show (finV (textR ((vby S.size ++ S.data.toList).take j))).e = 10
      by_cases hj : j < (vby S.size).length
      · rw [List.take_append_of_le_length (by omega)]
        unfold textR
        rw [get_begin (n := S.size) (by omega) j hj]
        rfl
      · have e : (vby S.size ++ S.data.toList).take j = vby S.size ++ S.data.toList.take (j - (vby S.size).length) := by
          rw [List.take_append, List.take_of_length_le (by omega)]
        rw [e]
        unfold textR
        rw [get_put (n := S.size) (by omega) _]
        simp only [ne_eq, not_true, if_false]
        rw [if_neg (by omega), if_pos (by simp only [List.length_append, List.length_take, hl]; omega)]
        rfl
end Go.Proofs.Ytndcdidepdcmnaa.V04
