/-
  alive.
-/
import Derived.Test.YtmonjlnmkkdnfaaW13New
set_option linter.unusedSimpArgs false
set_option linter.unusedVariables false
namespace Go.Proofs.Ytmonjlnmkkdnfaa.W13
open Go.RowKit Go.Lib Go.Proofs.Ytmonjlnmkkdnfaa.Wd

set_option maxRecDepth 20000 in
set_option maxHeartbeats 1000000 in
theorem alive_any (w : World) : Calls Try.prog 8 #[] w fun e w' => e = .returned (.bool true) ∧ Below w.heap.size w w' := by
  have hn := new_right 2 2 0 w ⟨by omega, by omega, by omega, by omega⟩
  have m1 : ((Cl.init 2 2 0).see 0 10).mark = 0 := by decide
  have m2 : (((Cl.init 2 2 0).see 0 10).see 1 7).mark = 5 := by decide
  have M1 := Lib.hid m1
  have M2 := Lib.hid m2
  clear m1 m2
  go_enter Try.func8, Try.ntmps8
  go_wp2_with fail
  refine hn.mono ?_
  rintro e w1 ⟨p, rfl, C1, b1⟩
  have hs := see_at 0 10 C1 (by show 0 < 2; omega) (by omega)
  clear hn
  go_wp2_with fail
  refine hs.mono ?_
  rintro e w2 ⟨rfl, C2, F2⟩
  have hm := mark_at C2
  rw [M1.out] at hm
  clear hs C1
  go_wp2_with fail
  refine hm.mono ?_
  rintro e w3 ⟨rfl, rfl⟩
  have hs := see_at 1 7 C2 (by show 1 < 2; omega) (by omega)
  clear hm
  go_wp2_with fail
  refine hs.mono ?_
  rintro e w3 ⟨rfl, C3, F3⟩
  have hb := b1.trans ((F2.trans F3).below (A := w.heap.size) (Nat.le_refl _) b1.size)
  have hn := new_wrong 0 0 0 w3 (by unfold Rt; omega)
  have hm := mark_at C3
  have h4 := late_at 4 C3
  have h5 := late_at 5 C3
  rw [M2.out] at hm h4 h5
  clear hs C2 F2 F3 b1 C3
  go_wp2_with fail
  refine hn.mono ?_
  rintro e w4 ⟨rfl, rfl⟩
  clear hn
  go_wp2_with fail
  refine hm.mono ?_
  rintro e w4 ⟨rfl, rfl⟩
  clear hm
  go_wp2_with fail
  refine h4.mono ?_
  rintro e w4 ⟨rfl, rfl⟩
  clear h4
  go_wp2_with fail
  refine h5.mono ?_
  rintro e w4 ⟨rfl, rfl⟩
  clear h5
  go_wp2
  go_ret
  exact ⟨rfl, hb⟩
end Go.Proofs.Ytmonjlnmkkdnfaa.W13
