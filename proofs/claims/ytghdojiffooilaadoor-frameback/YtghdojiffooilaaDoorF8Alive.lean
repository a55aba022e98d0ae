/-
  What tallyroomlaw08.alive does.
-/
import Derived.Test.YtghdojiffooilaaDoorF8Next
import Derived.Test.YtghdojiffooilaaDoorF8Wrap
namespace Go.Proofs.YtghdojiffooilaaDoor.F08
open Go.RowKit Go.Lib Go.Proofs.YtghdojiffooilaaDoor.Wd
open Go.Proofs.YtghdojiffooilaaDoor.C02 (Tb)

theorem alive_wrap : frm [] = [0, 0, 0, 0, 0] := by decide +kernel
theorem alive_next : nextF [0, 1, 0, 0, 0] = ([], 5, 12) := by decide +kernel
set_option maxRecDepth 20000 in
set_option maxHeartbeats 1000000 in
theorem alive_any (w : World) (hT : Tb w) : Calls Tryd.prog 7 #[] w fun e w' => e = .returned (.bool true) ∧ Below w.heap.size w w' := by
  go_enter Tryd.func7, Tryd.ntmps7
  go_wp2_with fail
  refine (wrap_own none 0 0 [] [0, 0, 0, 0, 0] _ hT (Bs.nil w) rfl (by decide) alive_wrap).mono ?_
  rintro x w1 ⟨A1, c1, rfl, hown1, hb1⟩
  have hB1 := Bs.own hown1
  have hb0 : Below w1.heap.size w1 (w1.alloc (.cells #[.int .u8 0, .int .u8 1, .int .u8 0, .int .u8 0, .int .u8 0] 5)) := (Below.refl _ _).alloc (Nat.le_refl _) _
  go_wp2_with fail
  refine (next_own _ 5 5 [0, 1, 0, 0, 0] [] 5 12 _ ((hT.below hb1).below hb0) (Bs.lit w1 5 #[.int .u8 0, .int .u8 1, .int .u8 0, .int .u8 0, .int .u8 0] [0, 1, 0, 0, 0] rfl (by decide)) rfl (by decide) alive_next).mono ?_
  rintro x w2 ⟨A2, c2, rfl, hown2, hb2⟩
  have hb2' : Below w1.heap.size w1 w2 := hb0.trans (hb2.mono (by simp))
  have hB1' := hB1.below hb2'
  have hbb := hb1.trans (hb2'.mono hb1.size)
  have hb3 : Below w2.heap.size w2 (w2.alloc (.cells #[.int .u8 0, .int .u8 0, .int .u8 0, .int .u8 0, .int .u8 0] 5)) := (Below.refl _ _).alloc (Nat.le_refl _) _
  go_wp2_with fail
  refine (bytes_at A1 _ c1 5 5 5 [0, 0, 0, 0, 0] [0, 0, 0, 0, 0] true _ (hB1'.below hb3) (Bs.lit w2 5 #[.int .u8 0, .int .u8 0, .int .u8 0, .int .u8 0, .int .u8 0] [0, 0, 0, 0, 0] rfl (by decide)) rfl rfl (by decide)).mono ?_
  rintro x w3 ⟨rfl, rfl⟩
  go_wp2
  go_ret
  exact ⟨rfl, hbb.trans (hb3.mono hbb.size)⟩
end Go.Proofs.YtghdojiffooilaaDoor.F08
