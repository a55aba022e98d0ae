/-
  The document's Label.
-/
import Derived.Test.YtpjldoahinocjaaP06Alike
import Derived.Test.YtpjldoahinocjaaT03LawTells
set_option linter.unusedSimpArgs false
set_option linter.unusedVariables false
namespace Go.Proofs.Ytpjldoahinocjaa.P06
open Go.Shelf Go.RowKit Go.Lib Go.Sort Go.Proofs.Ytpjldoahinocjaa.Wd Go.Proofs.Ytpjldoahinocjaa.V04

set_option maxRecDepth 20000 in
theorem reflabel_any (s : ByteArray) (n : Int) (w : World) (hs : s.size ≤ 65536) : Calls Try.prog 29 #[.string s, .int .i64 n] w fun e w' => e = .returned (.string (lab s n)) ∧ w' = w := by
  obtain ⟨C, hC⟩ : ∃ C, T03.str (T03.clean (T03.ls s)) = C := ⟨_, rfl⟩
  have hCs : C.size ≤ 65536 := by
    have := T03.clean_le (T03.ls s)
    have h8 : (T03.ls s).length = s.size := rfl
    rw [← hC, T03.str_size]
    omega
  obtain ⟨X, hX⟩ : ∃ X, T03.str (T03.cut (T03.clean (T03.ls s)) n) = X := ⟨_, rfl⟩
  have hc1 := fun W => T03.refclean_at s C W hs hC
  have hc2 := fun W => T03.refcut_at C X n W hCs (by rw [← hC, T03.ls_str]; exact hX)
  have hz : X.size = (T03.cut (T03.clean (T03.ls s)) n).length := by rw [← hX, T03.str_size]
  have he := empty_iff X
  unfold lab
  rw [hX, ← hz]
  clear hX hz hC
  by_cases h0 : X.size = 0
  · have e1 : X.toList.isEmpty = true := by rw [List.isEmpty_iff]; exact he.2 h0
    have e2 : X.toList = [] := he.2 h0
    rw [if_pos h0]
    clear he h0
    go_enter Try.func29, Try.ntmps29
    go_wp2_with fail
    refine (hc1 _).mono ?_
    rintro e w2 ⟨rfl, rfl⟩
    go_wp2_with fail
    refine (hc2 _).mono ?_
    rintro e w2 ⟨rfl, rfl⟩
    go_wp2
    all_goals go_ret
    all_goals exact ⟨by first | rfl | simp_all, rfl⟩
  · have e1 : X.toList.isEmpty = false := by rw [Bool.eq_false_iff, ne_eq, List.isEmpty_iff]; exact fun e => h0 (he.1 e)
    rw [if_neg h0]
    clear he h0
    go_enter Try.func29, Try.ntmps29
    go_wp2_with fail
    refine (hc1 _).mono ?_
    rintro e w2 ⟨rfl, rfl⟩
    go_wp2_with fail
    refine (hc2 _).mono ?_
    rintro e w2 ⟨rfl, rfl⟩
    go_wp2
    all_goals go_ret
    all_goals exact ⟨by first | rfl | simp_all, rfl⟩
end Go.Proofs.Ytpjldoahinocjaa.P06
