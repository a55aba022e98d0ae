/-
  What Right does: value's and the document's.
-/
import Derived.Test.YtjbnoioildbahaaRows
import Derived.Test.YtjbnoioildbahaaWords
import Derived.WalkKit
import Derived.WalkSpells
import Derived.WalkLawsBesides
import Derived.Lib.Hide
set_option linter.unusedSimpArgs false
set_option linter.unusedVariables false
namespace Go.Proofs.Ytjbnoioildbahaa.V04
open Go.RowKit Go.Lib Go.Proofs.Ytjbnoioildbahaa.Wd

/-- a value, as the machine holds it -/
abbrev vl (K N : Int) (S : ByteArray) : Value := .agg #[.int .i64 K, .int .i64 N, .string S]
abbrev box (t : TypeId) (K N : Int) (S : ByteArray) : Obj := .cells #[.int .i64 K, .int .i64 N, .string S] t
def right (K N : Int) (S : ByteArray) : Bool := decide ((K = 1 ∧ S.size = 0) ∨ (K = 2 ∧ S.size = 0 ∧ (N = 0 ∨ N = 1)) ∨ (K = 3 ∧ N = 0 ∧ S.size ≤ 4096))
theorem ret_bool {a b : Bool} (h : a = b) : Ending.returned (.bool a) = .returned (.bool b) := by rw [h]
theorem un {p : Prop} (h : Hid p) : p := h
theorem empty_iff (S : ByteArray) : S.toList = [] ↔ S.size = 0 := by
  rw [ByteArray.toList_eq, List.eq_nil_iff_length_eq_zero]
  rfl
theorem below_box {B : Nat} (w : World) (o : Obj) (h : B ≤ w.heap.size) : Below B w (w.alloc o) := (Below.refl _ _).alloc h o

end Go.Proofs.Ytjbnoioildbahaa.V04
