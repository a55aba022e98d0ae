/-
  A value's box: three cells, kept where no block that was there turns.
-/
import Derived.Test.YtjbnoioildbahaaV04Right
namespace Go.Proofs.Ytjbnoioildbahaa.V04
open Go.RowKit Go.Lib Go.Proofs.Ytjbnoioildbahaa.Wd

/-- a value's box, where it lies -/
structure Vx (w : World) (g : Nat) (K N : Int) (S : ByteArray) : Prop where
  c0 : w.cell? ⟨g, 0, none⟩ = some (.int .i64 K)
  c1 : w.cell? ⟨g, 1, none⟩ = some (.int .i64 N)
  c2 : w.cell? ⟨g, 2, none⟩ = some (.string S)
  lt : g < w.heap.size
theorem Vx.below {w w' : World} {g : Nat} {K N : Int} {S : ByteArray} (h : Vx w g K N S) (hb : Below w.heap.size w w') : Vx w' g K N S :=
  ⟨by rw [hb.cell h.lt]; exact h.c0, by rw [hb.cell h.lt]; exact h.c1, by rw [hb.cell h.lt]; exact h.c2, Nat.lt_of_lt_of_le h.lt hb.size⟩
theorem Vx.box (w : World) (t : TypeId) (K N : Int) (S : ByteArray) : Vx (w.alloc (box t K N S)) w.heap.size K N S := ⟨by simp, by simp, by simp, by simp⟩

theorem Vx.old {w : World} {g : Nat} {K N : Int} {S : ByteArray} (h : Vx w g K N S) (o : Obj) : Vx (w.alloc o) g K N S := h.below (below_box _ _ (Nat.le_refl _))
theorem vx2 (w : World) (o : Obj) (t : TypeId) (K N : Int) (S : ByteArray) : Vx ((w.alloc o).alloc (box t K N S)) (w.heap.size + 1) K N S := by
  have := Vx.box (w.alloc o) t K N S
  simpa using this
theorem vx3 (w : World) (o p : Obj) (t : TypeId) (K N : Int) (S : ByteArray) : Vx (((w.alloc o).alloc p).alloc (box t K N S)) (w.heap.size + 1 + 1) K N S := by
  have := Vx.box ((w.alloc o).alloc p) t K N S
  simpa using this
end Go.Proofs.Ytjbnoioildbahaa.V04
