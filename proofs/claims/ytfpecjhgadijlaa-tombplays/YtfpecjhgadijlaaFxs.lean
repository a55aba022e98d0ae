/-
  What stays where objects lie in ranges of blocks: 'Fx lo hi'; a new block's cells; 'make' of n elements.
-/
import Derived.Test.YtfpecjhgadijlaaRows
import Derived.Test.YtfpecjhgadijlaaWords
import Derived.WalkKit
import Derived.WalkSpells
import Derived.Handy
import Derived.Lib.Hide
import Derived.Laws.MakeOwn
set_option linter.unusedSimpArgs false
set_option linter.unusedVariables false
namespace Go.Proofs.Ytfpecjhgadijlaa.Wd
open Go.RowKit Go.Lib

/-- outside of the blocks from lo to hi all is as it was -/
structure Fx (lo hi : Nat) (w w' : World) : Prop where
  os : w'.os = w.os
  tape : w'.tape = w.tape
  output : w'.output = w.output
  size : w.heap.size ≤ w'.heap.size
  block : ∀ k, k < w.heap.size → (k < lo ∨ hi ≤ k) → w'.heap[k]? = w.heap[k]?
section
variable {w w' : World} {lo hi : Nat}
theorem Fx.refl (lo hi : Nat) (w : World) : Fx lo hi w w := ⟨rfl, rfl, rfl, Nat.le_refl _, fun _ _ _ => rfl⟩
theorem Fx.trans {a b c : World} (h : Fx lo hi a b) (k : Fx lo hi b c) : Fx lo hi a c :=
  ⟨k.os.trans h.os, k.tape.trans h.tape, k.output.trans h.output, Nat.le_trans h.size k.size, fun i hl hi => (k.block i (Nat.lt_of_lt_of_le hl h.size) hi).trans (h.block i hl hi)⟩
theorem Fx.of (h : Below w.heap.size w w') (lo hi : Nat) : Fx lo hi w w' := ⟨h.os, h.tape, h.output, h.size, fun k hk _ => h.block k hk⟩
theorem Fx.below {A : Nat} (h : Fx lo hi w w') (hA : A ≤ lo) (hs : A ≤ w.heap.size) : Below A w w' := ⟨h.os, h.tape, h.output, h.size, fun k hk => h.block k (by omega) (.inl (by omega))⟩
theorem Fx.setCell (w : World) (a : Addr) (v : Value) (h1 : lo ≤ a.block) (h2 : a.block < hi) : Fx lo hi w (w.setCell a v) :=
  ⟨rfl, rfl, rfl, by simp, fun k _ hk => heap_setCell_other w a k v (by omega)⟩
end
theorem Fx.drew {w w' : World} {lo hi : Nat} (h : Fx lo hi w w') : Fx lo hi w w'.drew := ⟨h.os, h.tape, h.output, h.size, h.block⟩
theorem below_box (w : World) (o : Obj) : Below w.heap.size w (w.alloc o) := (Below.refl _ _).alloc (Nat.le_refl _) o
theorem cell_of {w : World} {g i : Nat} {cs : Array Value} {t : TypeId} {u : Value} (h : w.heap[g]? = some (.cells cs t (0, 0))) (hu : cs[i]? = some u) : w.cell? ⟨g, i, none⟩ = some u := by simp [World.cell?, h, hu]
theorem froz_of {w : World} {g i : Nat} {cs : Array Value} {t : TypeId} (h : w.heap[g]? = some (.cells cs t (0, 0))) : w.frozen? ⟨g, i, none⟩ = false := by simp [World.frozen?, h]
theorem cell_set_same {w : World} {a : Addr} {u : Value} (v : Value) (h : w.cell? a = some u) : (w.setCell a v).cell? a = some v := World.cell?_setCell_same _ _ _ h
theorem cell_set_other {w : World} {a p : Addr} {u : Value} (v : Value) (h : w.cell? p = some u) (hn : a ≠ p) : (w.setCell a v).cell? p = some u := (World.cell?_setCell_other _ _ _ _ hn).trans h
theorem addr_ne {g h i j : Nat} (hn : g ≠ h ∨ i ≠ j) : (⟨g, i, none⟩ : Addr) ≠ ⟨h, j, none⟩ := by
  intro e
  injection e with e1 e2
  omega
theorem info_two {t : TypeId} {P : Program} {z : Value} {n b : Nat} (h : (P.info? t).map (fun i => (i.zero, i.size, i.bytes)) = some (some z, n, b)) : ∃ i, P.info? t = some i ∧ i.zero = some z ∧ i.size = n ∧ i.bytes = b := by
  cases hi : P.info? t with
  | none => rw [hi] at h; cases h
  | some i =>
    rw [hi] at h
    simp only [Option.map_some, Option.some.injEq, Prod.mk.injEq] at h
    exact ⟨i, rfl, h.1, h.2.1, h.2.2⟩
/-- 'make' of m elements, the length spelled as the walk spells it -/
theorem make_n {P : Program} {t e : TypeId} {i : TypeInfo} {z : Value} (ht : P.underlying t = some (.slice e)) (hi : P.info? e = some i) (hz : i.zero = some z) (m : Nat) (hm : m ≤ 100000) (hb : i.bytes ≤ 1000) (X : Int) (hX : (m : Int) = X) (W : World) :
    (Instr.makeSlice t (.int .i64 X) (.int .i64 X)).run P W = .ok (.slice (some ⟨W.heap.size, 0, none⟩) m m) (W.alloc (.cells (madeCells z.cells (m * i.size)) e)) := by
  subst hX
  have few : i.bytes * m ≤ 1000 * 100000 := Nat.mul_le_mul hb hm
  have few2 : (i.bytes : Int) * (m : Int) ≤ 281474976710656 := by
    rw [← Int.natCast_mul]
    omega
  simpa using run_make (P := P) W t e i z ht hi hz .i64 .i64 m m (by omega) (by omega) few2 (by omega)
theorem u64_info : (Try.prog.info? 23).map (fun i => (i.zero, i.size, i.bytes)) = some (some (.int .u64 0), 1, 8) := by kernel_rfl
/-- a row of numbers in a block -/
structure Nr (w : World) (g m : Nat) (F : Nat → Nat) : Prop where
  lt : g < w.heap.size
  c : ∀ i, i < m → w.cell? ⟨g, i, none⟩ = some (.int .u64 (F i : Int))
  f : ∀ i, i < m → w.frozen? ⟨g, i, none⟩ = false
def upn (F : Nat → Nat) (k T : Nat) : Nat → Nat := fun i => if i = k then T else F i
theorem upn_same (F : Nat → Nat) (k T : Nat) : upn F k T k = T := if_pos rfl
theorem upn_other (F : Nat → Nat) {k i : Nat} (T : Nat) (h : i ≠ k) : upn F k T i = F i := if_neg h
theorem Nr.kept {w w' : World} {g m : Nat} {F : Nat → Nat} (h : Nr w g m F) (hs : w.heap.size ≤ w'.heap.size) (hb : w'.heap[g]? = w.heap[g]?) : Nr w' g m F :=
  ⟨Nat.lt_of_lt_of_le h.lt hs, fun i hi => (World.cell?_of_block (a := ⟨g, i, none⟩) hb).trans (h.c i hi), fun i hi => (World.frozen?_of_block (a := ⟨g, i, none⟩) hb).trans (h.f i hi)⟩
theorem Nr.below {w w' : World} {g m : Nat} {F : Nat → Nat} (h : Nr w g m F) (hb : Below w.heap.size w w') : Nr w' g m F := h.kept hb.size (hb.block g h.lt)
theorem Nr.fx {w w' : World} {g m lo hi : Nat} {F : Nat → Nat} (h : Nr w g m F) (hb : Fx lo hi w w') (hg : g < lo ∨ hi ≤ g) : Nr w' g m F := h.kept hb.size (hb.block g h.lt hg)
theorem Nr.set {w : World} {g m : Nat} {F : Nat → Nat} (h : Nr w g m F) {k : Nat} (hk : k < m) (T : Nat) : Nr (w.setCell ⟨g, k, none⟩ (.int .u64 (T : Int))) g m (upn F k T) := by
  refine ⟨by simpa using h.lt, fun i hi => ?_, fun i hi => by rw [World.frozen?_setCell]; exact h.f i hi⟩
  by_cases e : i = k
  · subst e
    rw [upn_same]
    exact cell_set_same _ (h.c i hk)
  · rw [upn_other _ _ e]
    exact cell_set_other _ (h.c i hi) (addr_ne (.inr (fun q => e q.symm)))
/-- n zeros -/
def nrow (t : TypeId) (m : Nat) : Obj := .cells (madeCells #[.int .u64 0] m) t
theorem nrow_at (w : World) (t : TypeId) (m : Nat) : Nr (w.alloc (nrow t m)) w.heap.size m (fun _ => 0) := by
  have hh := heap_alloc_new w (nrow t m)
  refine ⟨by simp, fun i hi => cell_of hh ?_, fun i hi => froz_of hh⟩
  unfold madeCells
  rw [Array.getElem?_map, Array.getElem?_range, if_pos hi]
  simp [Nat.mod_one]
end Go.Proofs.Ytfpecjhgadijlaa.Wd
