/-
  No queue; alive.
-/
import Derived.Test.YtephbjomplmkgaaU12Out
set_option linter.unusedSimpArgs false
set_option linter.unusedVariables false
namespace Go.Proofs.Ytephbjomplmkgaa.U12
open Go.RowKit Go.Lib Go.Maps Go.Proofs.Ytephbjomplmkgaa.Wd

theorem put_nil (x y : Int) (w : World) : Calls Try.prog 10 #[.pointer none, .int .u64 x, .int .u64 y] w fun e w' => e = .returned (.bool false) ∧ w = w' := by
  go_enter Try.func10, Try.ntmps10
  go_wp2
  go_ret
  exact ⟨rfl, rfl⟩
theorem drop_nil (x : Nat) (w : World) (hx : (x : Int) ≤ 18446744073709551615) : Calls Try.prog 12 #[.pointer none, .int .u64 (x : Int)] w fun e w' => e = .returned (.bool false) ∧ Below w.heap.size w w' := by
  have ha := all_nil w
  have hb := nW_below w
  have hd := idrop_out x (nW_ob w) hx (fun y hy => by cases hy)
  generalize nW w = v at *
  go_enter Try.func12, Try.ntmps12
  go_wp2_with fail
  refine ha.mono ?_
  rintro e w1 ⟨rfl, rfl⟩
  clear ha
  go_wp2_with fail
  refine hd.mono ?_
  rintro e w1 ⟨rfl, rfl⟩
  clear hd
  go_wp2
  go_returns
  exact ⟨rfl, hb⟩
theorem at_nil (x : Nat) (w : World) (hx : (x : Int) ≤ 18446744073709551615) : Calls Try.prog 17 #[.pointer none, .int .u64 (x : Int)] w fun e w' => e = .returned (.tuple #[.int .u64 0, .bool false]) ∧ Below w.heap.size w w' := by
  have ha := all_nil w
  have hb := nW_below w
  obtain ⟨A, c, b, N, K, D, h1, hP, _, h2, _⟩ := nW_ob w
  obtain ⟨r, hk⟩ := look_out h1 hP hx (fun i hi => by have := h2.len; simp at this; omega)
  have c1 := h1.c1
  clear h1 hP h2
  generalize nW w = v at *
  go_enter Try.func17, Try.ntmps17
  go_wp2_with fail
  refine ha.mono ?_
  rintro e w1 ⟨rfl, rfl⟩
  clear ha
  go_wp2
  go_ret2
  exact ⟨rfl, hb⟩
theorem first_nil (w : World) : Calls Try.prog 15 #[.pointer none] w fun e w' => e = .returned (.tuple #[.int .u64 0, .int .u64 0, .bool false]) ∧ Below w.heap.size w w' := by
  have ha := all_nil w
  have hb := nW_below w
  obtain ⟨A, c, b, N, K, D, h1, hP, _, h2, _⟩ := nW_ob w
  have hN := h2.len
  simp at hN
  subst hN
  have c0 := h1.c0
  clear h1 hP h2
  generalize nW w = v at *
  go_enter Try.func15, Try.ntmps15
  go_wp2_with fail
  refine ha.mono ?_
  rintro e w1 ⟨rfl, rfl⟩
  clear ha
  go_wp2
  go_ret3
  exact ⟨rfl, hb⟩
theorem len_nil (w : World) : Calls Try.prog 16 #[.pointer none] w fun e w' => e = .returned (.int .i64 0) ∧ Below w.heap.size w w' := by
  have ha := all_nil w
  have hb := nW_below w
  obtain ⟨A, c, b, N, K, D, h1, hP, _, h2, _⟩ := nW_ob w
  have hN := h2.len
  simp at hN
  subst hN
  have hl := len_at h1
  clear h1 hP h2
  generalize nW w = v at *
  go_enter Try.func16, Try.ntmps16
  go_wp2_with fail
  refine ha.mono ?_
  rintro e w1 ⟨rfl, rfl⟩
  clear ha
  go_wp2_with fail
  refine hl.mono ?_
  rintro e w1 ⟨rfl, rfl⟩
  clear hl
  go_wp2
  go_returns
  exact ⟨by simp, hb⟩
theorem until_nil (t : Nat) (w : World) (ht : (t : Int) ≤ 18446744073709551615) : Calls Try.prog 14 #[.pointer none, .int .u64 (t : Int)] w fun e w' => (∃ U d, e = .returned (.slice U 0 d)) ∧ Below w.heap.size w w' :=
  (qunt_core t 0 (w.heap.size + 1) _ w ((all_nil w).mono fun _ _ ⟨h1, h2⟩ => ⟨h1, h2.symm⟩) (nW_ob w) ht rfl).mono fun _ _ ⟨U, d, h1, _, h3⟩ => ⟨⟨U, d, h1⟩, (nW_below w).trans (h3.mono (nW_below w).size)⟩

set_option maxRecDepth 20000 in
set_option maxHeartbeats 1000000 in
theorem alive_any (w : World) : Calls Try.prog 7 #[] w fun e w' => e = .returned (.bool true) ∧ Below w.heap.size w w' := by
  have hn := new_at w
  go_enter Try.func7, Try.ntmps7
  go_wp2_with fail
  refine hn.mono ?_
  rintro e w1 ⟨q, o1, rfl, h1, ho1, hb1⟩
  have hp1 := put_at (1, 9) true h1 ⟨by decide, by decide⟩ (by decide) rfl
  clear hn
  go_wp2_with fail
  refine hp1.mono ?_
  rintro e w2 ⟨rfl, o2, h2, hF2, hS2⟩
  have hp2 := put_at (2, 5) true h2 ⟨by decide, by decide⟩ (by decide) rfl
  have hb2 := hb1.trans (hF2.below hb1.size ho1)
  have ho2 := hS2.above hb1.size ho1
  clear hp1 h1 hF2 hS2 ho1 hb1
  go_wp2_with fail
  refine hp2.mono ?_
  rintro e w3 ⟨rfl, o3, h3, hF3, hS3⟩
  have hp3 := put_at (3, 5) true h3 ⟨by decide, by decide⟩ (by decide) rfl
  have hb3 := hb2.trans (hF3.below hb2.size ho2)
  have ho3 := hS3.above hb2.size ho2
  clear hp2 h2 hF3 hS3 ho2 hb2
  go_wp2_with fail
  refine hp3.mono ?_
  rintro e w4 ⟨rfl, o4, h4, hF4, hS4⟩
  have hb4 := hb3.trans (hF4.below hb3.size ho3)
  have e4 : putm (putm (putm [] (1, 9)) (2, 5)) (3, 5) = (2, 5) :: [(3, 5), (1, 9)] := by decide
  rw [e4] at h4
  have hf := first_some (2, 5) h4
  clear hp3 h3 hF4 hS4 ho3 hb3 e4
  go_wp2_with fail
  refine hf.mono ?_
  rintro e w5 ⟨rfl, hb5⟩
  have h5 := h4.below hb5
  have hl := qlen_at 3 h5 rfl
  have hb6 := hb4.trans (hb5.mono hb4.size)
  clear hf h4 h5 hb5 hb4
  go_wp2_with fail
  refine hl.mono ?_
  rintro e w6 ⟨rfl, rfl⟩
  go_wp2
  go_ret
  exact ⟨rfl, hb6⟩
end Go.Proofs.Ytephbjomplmkgaa.U12
