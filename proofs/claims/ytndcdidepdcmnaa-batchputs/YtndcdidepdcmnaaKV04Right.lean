/-
  What Right does: value's and the document's.
  A value's box: three cells, kept where no block that was there turns.
-/
import Derived.Test.YtndcdidepdcmnaaRows
import Derived.Test.YtndcdidepdcmnaaKWords
import Derived.WalkKit
import Derived.WalkSpells
import Derived.WalkLawsBesides
import Derived.Lib.Hide
section
set_option linter.unusedSimpArgs false
set_option linter.unusedVariables false
namespace Go.Proofs.Ytndcdidepdcmnaa.V04
open Go.RowKit Go.Lib Go.Proofs.Ytndcdidepdcmnaa.Wd

/-- a value, as the machine holds it -/
abbrev vl (K N : Int) (S : ByteArray) : Value := .agg #[.int .i64 K, .int .i64 N, .string S]
abbrev box (t : TypeId) (K N : Int) (S : ByteArray) : Obj := .cells #[.int .i64 K, .int .i64 N, .string S] t
def right (K N : Int) (S : ByteArray) : Bool := decide ((K = 1 ∧ S.size = 0) ∨ (K = 2 ∧ S.size = 0 ∧ (N = 0 ∨ N = 1)) ∨ (K = 3 ∧ N = 0 ∧ S.size ≤ 4096))
theorem ret_bool {a b : Bool} (h : a = b) : Ending.returned (.bool a) = .returned (.bool b) := by rw [h]
theorem un {p : Prop} (h : Hid p) : p := h
theorem empty_iff (S : ByteArray) : S.toList = [] ↔ S.size = 0 := by
  rw [ByteArray.toList_eq, List.eq_nil_iff_length_eq_zero]
  rfl
theorem below_box {B : Nat} (w : World) (o : Obj) (h : B ≤ w.heap.size) : Below B w (w.alloc o) := (Below.refl _ _).alloc h o

set_option maxRecDepth 20000 in
theorem right_any (K N : Int) (S : ByteArray) (b : Bool) (w : World) (hb : right K N S = b) :
    Calls Try.prog 57 #[vl K N S] w fun e w' => e = .returned (.bool b) ∧ w' = w.alloc (box 47 K N S) := by
  have HB := Lib.hid hb
  clear hb
  have he := empty_iff S
  have HE := Lib.hid he
  clear he
  go_enter Try.func57, Try.ntmps57
  go_wp2
  all_goals go_ret
  all_goals refine ⟨ret_bool ?_, by first | rfl | (clear HB HE; simp_all)⟩
  all_goals (rw [← un HB, Bool.eq_iff_iff]; have he := un HE; clear HB HE; simp only [beq_iff_eq, beq_eq_false_iff_ne, right, List.isEmpty_iff, Bool.or_eq_true, decide_eq_true_eq, he, true_iff, false_iff, Bool.false_eq_true, ne_eq] at *; try omega)

set_option maxRecDepth 20000 in
theorem refright_any (K N : Int) (S : ByteArray) (b : Bool) (w : World) (hb : right K N S = b) :
    Calls Try.prog 26 #[vl K N S] w fun e w' => e = .returned (.bool b) ∧ w' = w.alloc (box 56 K N S) := by
  have HB := Lib.hid hb
  clear hb
  have he := empty_iff S
  have HE := Lib.hid he
  clear he
  go_enter Try.func26, Try.ntmps26
  go_wp2
  all_goals go_ret
  all_goals refine ⟨ret_bool ?_, by first | rfl | (clear HB HE; simp_all)⟩
  all_goals (rw [← un HB, Bool.eq_iff_iff]; have he := un HE; clear HB HE; simp only [beq_iff_eq, beq_eq_false_iff_ne, right, List.isEmpty_iff, Bool.or_eq_true, decide_eq_true_eq, he, true_iff, false_iff, Bool.false_eq_true, ne_eq] at *; try omega)
end Go.Proofs.Ytndcdidepdcmnaa.V04
end

section
namespace Go.Proofs.Ytndcdidepdcmnaa.V04
open Go.RowKit Go.Lib Go.Proofs.Ytndcdidepdcmnaa.Wd

/-- a value's box, where it lies -/
structure Vx (w : World) (g : Nat) (K N : Int) (S : ByteArray) : Prop where
  c0 : w.cell? ⟨g, 0, none⟩ = some (.int .i64 K)
  c1 : w.cell? ⟨g, 1, none⟩ = some (.int .i64 N)
  c2 : w.cell? ⟨g, 2, none⟩ = some (.string S)
  lt : g < w.heap.size
theorem Vx.below {w w' : World} {g : Nat} {K N : Int} {S : ByteArray} (h : Vx w g K N S) (hb : Below w.heap.size w w') : Vx w' g K N S :=
  ⟨by rw [hb.cell h.lt]; exact h.c0, by rw [hb.cell h.lt]; exact h.c1, by rw [hb.cell h.lt]; exact h.c2, Nat.lt_of_lt_of_le h.lt hb.size⟩
theorem Vx.box (w : World) (t : TypeId) (K N : Int) (S : ByteArray) : Vx (w.alloc (box t K N S)) w.heap.size K N S := ⟨by simp, by simp, by simp, by simp⟩

theorem Vx.old {w : World} {g : Nat} {K N : Int} {S : ByteArray} (h : Vx w g K N S) (o : Obj) : Vx (w.alloc o) g K N S := h.below (below_box _ _ (Nat.le_refl _))
theorem vx2 (w : World) (o : Obj) (t : TypeId) (K N : Int) (S : ByteArray) : Vx ((w.alloc o).alloc (box t K N S)) (w.heap.size + 1) K N S := by
  have := Vx.box (w.alloc o) t K N S
  simpa using this
theorem vx3 (w : World) (o p : Obj) (t : TypeId) (K N : Int) (S : ByteArray) : Vx (((w.alloc o).alloc p).alloc (box t K N S)) (w.heap.size + 1 + 1) K N S := by
  have := Vx.box ((w.alloc o).alloc p) t K N S
  simpa using this
end Go.Proofs.Ytndcdidepdcmnaa.V04
end
