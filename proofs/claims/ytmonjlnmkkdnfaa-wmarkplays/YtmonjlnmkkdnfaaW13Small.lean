/-
  has, quiet, markOf, Mark, Now, Late of a clock.
-/
import Derived.Test.YtmonjlnmkkdnfaaW13Mem
import Derived.BigQuiet
import Derived.BigRegion
import Derived.Deep.QuietTactic
set_option linter.unusedSimpArgs false
set_option linter.unusedVariables false
namespace Go.Proofs.Ytmonjlnmkkdnfaa.W13
open Go.RowKit Go.Lib Go.Proofs.Ytmonjlnmkkdnfaa.Wd

section
variable {w w' : World} {p g : Nat} {c : Cl}
theorem ret_b {a b : Bool} (h : a = true ↔ b = true) : Ending.returned (.bool a) = .returned (.bool b) := by rw [Bool.eq_iff_iff.2 h]
/-- is it a source? -/
def isS (c : Cl) (s : Int) : Bool := decide (0 ≤ s ∧ s < (c.N : Int))
set_option maxRecDepth 20000 in
theorem has_at (h : Ck w p g c) (s : Int) : Calls Try.prog 19 #[.pointer (some ⟨p, 0, none⟩), .int .i64 s] w fun e w' => e = .returned (.bool (isS c s)) ∧ w = w' := by
  have c0 := h.c0
  clear h
  unfold isS
  generalize c.N = N at *
  go_enter Try.func19, Try.ntmps19
  by_cases h0 : 0 ≤ s
  · go_wp2
    go_ret
    exact ⟨ret_b (by simp [h0]), rfl⟩
  · go_wp2
    go_ret
    exact ⟨ret_b (by simp; omega), rfl⟩
set_option maxRecDepth 20000 in
set_option maxHeartbeats 1000000 in
theorem quiet_at (h : Ck w p g c) (k : c.Ok) (x : Kn) (hx : x.2 ≤ 100000) : Calls Try.prog 21 #[.pointer (some ⟨p, 0, none⟩), .agg #[.int .u64 (x.1 : Int), .int .u64 (x.2 : Int)]] w fun e w' => e = .returned (.bool (qt c.now c.idle x)) ∧ Below w.heap.size w w' := by
  have hb := below_box w (.cells #[.int .u64 (x.1 : Int), .int .u64 (x.2 : Int)] 51)
  have h2 := h.below hb
  have hh := heap_alloc_new w (.cells #[.int .u64 (x.1 : Int), .int .u64 (x.2 : Int)] 51)
  have y1 : _ = some (Value.int .u64 (x.2 : Int)) := cell_of (i := 1) hh rfl
  have c2 := h2.c2
  have c3 := h2.c3
  have k1 := k.idle
  have k2 := k.now
  have HB := Lib.hid (show ∀ n, Below w.heap.size w ((w.alloc (.cells #[.int .u64 (x.1 : Int), .int .u64 (x.2 : Int)] 51)).drewN n) from fun n => below_dn hb n)
  have hw : IntKind.u64.wrap ((x.2 : Int) + (c.idle : Int)) = (x.2 : Int) + (c.idle : Int) := IntWalk.u64_in _ (by omega)
  clear h h2 hh k hb
  unfold qt
  generalize c.now = n at *
  generalize c.idle = d at *
  obtain ⟨x0, x1⟩ := x
  simp only at *
  go_enter Try.func21, Try.ntmps21
  by_cases hd : d = 0
  · have d1 : decide (¬ (d : Int) = 0) = false := decide_eq_false (by omega)
    go_wp2_with fail
    go_quiet (fail)
    go_wp2
    go_ret
    exact ⟨by simp [hd], HB.out _⟩
  · have d1 : decide (¬ (d : Int) = 0) = true := decide_eq_true (by omega)
    go_wp2_with fail
    go_quiet (fail)
    go_wp2
    go_ret
    exact ⟨ret_b (by simp [hd]; omega), HB.out _⟩
set_option maxRecDepth 20000 in
set_option maxHeartbeats 1000000 in
theorem markof_at (h : Ck w p g c) (k : c.Ok) (x : Kn) (hx : x.1 ≤ 4611686018427387904) : Calls Try.prog 22 #[.pointer (some ⟨p, 0, none⟩), .agg #[.int .u64 (x.1 : Int), .int .u64 (x.2 : Int)]] w fun e w' => e = .returned (.int .u64 ((x.1 - c.late : Nat) : Int)) ∧ Below w.heap.size w w' := by
  have hb := below_box w (.cells #[.int .u64 (x.1 : Int), .int .u64 (x.2 : Int)] 51)
  have h2 := h.below hb
  have hh := heap_alloc_new w (.cells #[.int .u64 (x.1 : Int), .int .u64 (x.2 : Int)] 51)
  have y0 : _ = some (Value.int .u64 (x.1 : Int)) := cell_of (i := 0) hh rfl
  have c1 := h2.c1
  have k1 := k.late
  have HB := Lib.hid (show ∀ n, Below w.heap.size w ((w.alloc (.cells #[.int .u64 (x.1 : Int), .int .u64 (x.2 : Int)] 51)).drewN n) from fun n => below_dn hb n)
  clear h h2 hh k hb
  generalize c.late = d at *
  obtain ⟨x0, x1⟩ := x
  simp only at *
  go_enter Try.func22, Try.ntmps22
  by_cases hxd : (d : Int) < (x0 : Int)
  · have hw : IntKind.u64.wrap ((x0 : Int) - (d : Int)) = (x0 : Int) - (d : Int) := IntWalk.u64_in _ (by omega)
    have HM := Lib.hid (show ((x0 - d : Nat) : Int) = (x0 : Int) - (d : Int) by omega)
    go_wp2_with fail
    go_quiet (fail)
    go_wp2
    go_ret
    exact ⟨by rw [HM.out]; rfl, HB.out _⟩
  · have HM := Lib.hid (show ((x0 - d : Nat) : Int) = 0 by omega)
    go_wp2_with fail
    go_quiet (fail)
    go_wp2
    go_ret
    exact ⟨by rw [HM.out]; rfl, HB.out _⟩
/-- Mark, Now, Late -/
theorem mark_of (h : w.cell? ⟨p, 4, none⟩ = some (.int .u64 (c.mark : Int))) : Calls Try.prog 13 #[.pointer (some ⟨p, 0, none⟩)] w fun e w' => e = .returned (.int .u64 (c.mark : Int)) ∧ w = w' := by
  go_enter Try.func13, Try.ntmps13
  go_wp2
  go_ret
  exact ⟨rfl, rfl⟩
theorem now_of (h : w.cell? ⟨p, 3, none⟩ = some (.int .u64 (c.now : Int))) : Calls Try.prog 14 #[.pointer (some ⟨p, 0, none⟩)] w fun e w' => e = .returned (.int .u64 (c.now : Int)) ∧ w = w' := by
  go_enter Try.func14, Try.ntmps14
  go_wp2
  go_ret
  exact ⟨rfl, rfl⟩
theorem late_of (x : Nat) (h : w.cell? ⟨p, 4, none⟩ = some (.int .u64 (c.mark : Int))) : Calls Try.prog 15 #[.pointer (some ⟨p, 0, none⟩), .int .u64 (x : Int)] w fun e w' => e = .returned (.bool (decide (x < c.mark))) ∧ w = w' := by
  have hm := mark_of h
  go_enter Try.func15, Try.ntmps15
  go_wp2_with fail
  refine hm.mono ?_
  rintro e w1 ⟨rfl, rfl⟩
  clear hm
  go_wp2
  go_ret
  exact ⟨rfl, rfl⟩
end
/-- no clock -/
theorem mark_nil (w : World) : Calls Try.prog 13 #[.pointer none] w fun e w' => e = .returned (.int .u64 0) ∧ w = w' := by
  go_enter Try.func13, Try.ntmps13
  go_wp2
  go_ret
  exact ⟨rfl, rfl⟩
theorem now_nil (w : World) : Calls Try.prog 14 #[.pointer none] w fun e w' => e = .returned (.int .u64 0) ∧ w = w' := by
  go_enter Try.func14, Try.ntmps14
  go_wp2
  go_ret
  exact ⟨rfl, rfl⟩
theorem late_nil (x : Nat) (w : World) : Calls Try.prog 15 #[.pointer none, .int .u64 (x : Int)] w fun e w' => e = .returned (.bool false) ∧ w = w' := by
  go_enter Try.func15, Try.ntmps15
  go_wp2_with fail
  refine (mark_nil w).mono ?_
  rintro e w1 ⟨rfl, rfl⟩
  have hx : ¬ (x : Int) < 0 := by omega
  go_wp2
  go_ret
  exact ⟨rfl, rfl⟩
theorem tick_nil (w : World) : Calls Try.prog 10 #[.pointer none] w fun e w' => e = .returned (.int .i64 3) ∧ w = w' := by
  go_enter Try.func10, Try.ntmps10
  go_wp2
  go_ret
  exact ⟨rfl, rfl⟩
theorem see_nil (s e : Int) (w : World) : Calls Try.prog 11 #[.pointer none, .int .i64 s, .int .u64 e] w fun e w' => e = .returned (.int .i64 3) ∧ w = w' := by
  go_enter Try.func11, Try.ntmps11
  go_wp2
  go_ret
  exact ⟨rfl, rfl⟩
theorem idle_nil (s : Int) (w : World) : Calls Try.prog 16 #[.pointer none, .int .i64 s] w fun e w' => e = .returned (.bool false) ∧ w = w' := by
  go_enter Try.func16, Try.ntmps16
  go_wp2
  go_ret
  exact ⟨rfl, rfl⟩
end Go.Proofs.Ytmonjlnmkkdnfaa.W13
