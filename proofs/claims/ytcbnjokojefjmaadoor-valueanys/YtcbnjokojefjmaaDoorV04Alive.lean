/-
  The chapter's example (alive).
-/
import Derived.Test.YtcbnjokojefjmaaDoorV04Any
set_option linter.unusedSimpArgs false
set_option linter.unusedVariables false
namespace Go.Proofs.YtcbnjokojefjmaaDoor.V04
open Go.RowKit Go.Lib Go.Proofs.YtcbnjokojefjmaaDoor.Wd

set_option maxRecDepth 20000 in
theorem alive_any (w : World) (hT : Tb w) : Calls Tryd.prog 8 #[] w fun e w' => e = .returned (.bool true) ∧ Below w.heap.size w w' := by
  go_enter Tryd.func8, Tryd.ntmps8
  go_wp2_with fail
  refine (of_at (.other 5) 0 0 emp false rfl rfl rfl (by decide) _).mono ?_
  rintro e w1 ⟨rfl, hb1⟩
  go_wp2_with fail
  refine (of_at (.bool true) 2 1 emp true rfl rfl rfl (by decide) _).mono ?_
  rintro e w2 ⟨rfl, hb2⟩
  have hb2' : Below w.heap.size w w2 := hb1.trans (((Below.refl _ _).alloc hb1.size _).trans (hb2.mono (by have := hb1.size; simp; omega)))
  have hT2 := hT.below hb2'
  clear hb1 hb2 hT
  go_wp2_with fail
  refine (text_any (.int (-5)) _ (hT2.below (below_box _ _ (Nat.le_refl _))) (by unfold Av.fits; omega)).mono ?_
  rintro e w3 ⟨rfl, hb3⟩
  have e0 : (Av.int (-5)).text = [45, 53] := by
    show itoa (-5) = [45, 53]
    unfold itoa
    rw [if_pos (by decide), decDigits_one (by decide)]
    rfl
  have c0 : w3.cell? ⟨w2.heap.size, 0, none⟩ = some (.int .i64 2) := by rw [hb3.cell (by simp)]; simp
  have c1 : w3.cell? ⟨w2.heap.size, 1, none⟩ = some (.int .i64 1) := by rw [hb3.cell (by simp)]; simp
  rw [e0]
  go_wp2_with fail
  refine (any_any 0 0 emp _).mono ?_
  rintro e w4 ⟨rfl, hb4⟩
  have e1 : (anyOf 0 0 emp).v = .nilIface := by
    unfold anyOf
    rw [if_neg (by decide)]
    rfl
  rw [e1]
  go_wp2
  go_ret
  refine ⟨rfl, ?_⟩
  have q1 := hb2'.alloc hb2'.size (box 27 2 1 emp)
  have q2 := q1.trans (hb3.mono q1.size)
  exact q2.trans (hb4.mono q2.size)
theorem emp_of {S : ByteArray} (h : S.size = 0) : S = emp := by
  cases S with | mk d => 
    have : d = #[] := Array.size_eq_zero_iff.1 h
    subst this; rfl
theorem any_parts {K N : Int} {S : ByteArray} (h : right K N S = true) : (anyOf K N S).K = K ∧ (anyOf K N S).N = N ∧ (anyOf K N S).S = S ∧ (anyOf K N S).isN = (K != 3) := by
  have h' : (K = 1 ∧ S.size = 0) ∨ (K = 2 ∧ S.size = 0 ∧ (N = 0 ∨ N = 1)) ∨ (K = 3 ∧ N = 0 ∧ S.size ≤ 4096) := by simpa [right] using h
  unfold anyOf
  rw [if_pos h]
  rcases h' with ⟨rfl, h0⟩ | ⟨rfl, h0, h1⟩ | ⟨rfl, rfl, h0⟩
  · rw [emp_of h0]; exact ⟨rfl, rfl, rfl, rfl⟩
  · rw [emp_of h0]
    rcases h1 with rfl | rfl <;> exact ⟨rfl, rfl, rfl, rfl⟩
  · exact ⟨rfl, rfl, rfl, rfl⟩
theorem any_none {K N : Int} {S : ByteArray} (h : right K N S = false) : anyOf K N S = .nil := by
  unfold anyOf
  rw [if_neg (by rw [h]; decide)]
theorem any_fits {K N : Int} {S : ByteArray} (h0 : -9223372036854775808 ≤ N) (h1 : N ≤ 9223372036854775807) : (anyOf K N S).fits := by
  unfold anyOf
  repeat' split
  all_goals first | exact ⟨h0, h1⟩ | exact trivial

end Go.Proofs.YtcbnjokojefjmaaDoor.V04
