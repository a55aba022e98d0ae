/-
  What the document's Put does.
-/
import Derived.Test.YtghdojiffooilaaDoorV01Put
namespace Go.Proofs.YtghdojiffooilaaDoor.V01
open Go.RowKit Go.Lib Go.Proofs.YtghdojiffooilaaDoor.Wd

set_option maxRecDepth 20000 in
set_option maxHeartbeats 1000000 in
theorem refput_any (n : Nat) (w : World) (hn : (n : Int) ≤ 18446744073709551615) :
    Calls Tryd.prog 22 #[.int .u64 n] w fun e w' =>
      ∃ A' c', e = .returned (.slice A' (vby n).length c') ∧ w'.ownsRow w.heap.size 5 1 (.slice A' (vby n).length c') (vby n).length (byteCells (vby n)) ∧ Below w.heap.size w w' := by
  obtain ⟨i0, hi, hz0, hz1, hz2⟩ := info_parts byte_info
  have hf := fit64 (n := n) (by omega)
  go_enter Tryd.func22, Tryd.ntmps22
  go_wp2_with fail
  go_loopw [0, 3] (fun a v wr => ∃ f m out A' c', a = .int .u64 (m : Nat) ∧ v = .slice A' (out : List UInt8).length c' ∧ In64 m ∧ Fit f m ∧ PutRel n [] f m out ∧
      wr.ownsRow w.heap.size 5 1 (.slice A' out.length c') out.length (byteCells out) ∧ Below w.heap.size w wr) (fun a _ _ => (intOf a).toNat)
  case atStart => exact ⟨9, n, [], none, 0, rfl, rfl, hn, hf, ⟨rfl, by simp⟩, World.ownsRow_nil _ _ _ _, Below.refl _ _⟩
  case round =>
    obtain ⟨f, m, out, A3, c3, rfl, rfl, hm0, hfm, hr, hown3, hb3⟩ := hrel
    have hm : (m : Int) ≤ 18446744073709551615 := hm0
    have hol : out.length ≤ 65600 := by have := hr.2; simp at this; omega
    clear hm0 hf
    by_cases h : 128 ≤ m
    · obtain ⟨g, rfl, e, hg⟩ := fit_step f m h hfm
      have R := put_step n [] g m out hr e
      clear e hr hfm
      go_wp2_with (at_builtin; refine wpList_append_one _ rfl _ _ 22 rfl w.heap.size 5 i0 _ 1 Tryd.underlying22 hi hz0 hz1 hz2 rfl _ out.length (byteCells out) rfl hown3 (.int .u8 (128 + (m : Int) % 128)) rfl rfl ?d1 ?d2 ?d3 ?_)
      case d1 => unfold maxLen; omega
      case d2 => omega
      case d3 => exact hb3.size
      intro A4 c4 w4 hown4 hb4
      have hb5 := hb3.trans hb4
      have hown5 : w4.ownsRow w.heap.size 5 1 (.slice A4 (out ++ [UInt8.ofNat (m % 128 + 128)]).length c4) (out ++ [UInt8.ofNat (m % 128 + 128)]).length (byteCells (out ++ [UInt8.ofNat (m % 128 + 128)])) := by
        rw [bc_app, bc_one_nat _ (by omega), show ((m % 128 + 128 : Nat) : Int) = 128 + (m : Int) % 128 by omega]
        simpa using hown4
      clear hown3 hb3 hown4 hb4
      go_wp2
      go_roundw
      case rel => exact ⟨g, m / 128, _, A4, c4, by go_num, by simp, by unfold In64; omega, hg, R, hown5, hb5⟩
      case measure => simp [intOf]; omega
    · have E := Lib.hid (put_end n [] f m out hr (by omega))
      clear hr hfm
      go_wp2_with (at_builtin; refine wpList_append_one _ rfl _ _ 22 rfl w.heap.size 5 i0 _ 1 Tryd.underlying22 hi hz0 hz1 hz2 rfl _ out.length (byteCells out) rfl hown3 (.int .u8 (m : Int)) rfl rfl ?d4 ?d5 ?d6 ?_)
      case d4 => unfold maxLen; omega
      case d5 => omega
      case d6 => exact hb3.size
      intro A4 c4 w4 hown4 hb4
      have hb5 := hb3.trans hb4
      have hown5 : w4.ownsRow w.heap.size 5 1 (.slice A4 (out.length + 1) c4) (out.length + 1) (byteCells (out ++ [UInt8.ofNat m])) := by
        rw [bc_app, bc_one_nat _ (by omega)]
        exact hown4
      have hlen := Lib.hid (show out.length + 1 = (vby n).length from by rw [show vby n = [] ++ vby n from rfl, ← E.out, List.length_append]; rfl)
      rw [E.out] at hown5
      clear hown3 hb3 hown4 hb4
      go_wp2
      go_ret
      rw [← hlen.out]
      exact ⟨A4, c4, rfl, hown5, hb5⟩
end Go.Proofs.YtghdojiffooilaaDoor.V01
