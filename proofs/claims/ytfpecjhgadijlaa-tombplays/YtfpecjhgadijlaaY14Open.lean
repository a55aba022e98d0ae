/-
  A parameter that is a slice of items, as the shell of a proof wants it.
-/
import Derived.Test.YtfpecjhgadijlaaU12Its
import Derived.Deep.Slices
import Derived.Deep.Fields
import Derived.ChangeSame
set_option linter.unusedSimpArgs false
set_option linter.unusedVariables false
namespace Go.Proofs.Ytfpecjhgadijlaa.Y14
open Go.RowKit Go.Lib Go.ChangeShapes Go.WideShapes Go.Deep Go.Proofs.Ytfpecjhgadijlaa.Wd Go.Proofs.Ytfpecjhgadijlaa.U12

def OkI (x : It) : Prop := (x.1 : Int) ≤ 18446744073709551615 ∧ (x.2 : Int) ≤ 18446744073709551615
theorem irow_at (l : List It) (k : Nat) (h : k < l.length) (j : Nat) (hj : j < 2) : (irow l)[k * 2 + j]? = (ic l[k])[j]? := by
  obtain ⟨g0, g1⟩ := irow_get l k h
  rw [Nat.mul_comm] at g0 g1
  match j, hj with
  | 0, _ => exact g0
  | 1, _ => exact g1
section
variable {H : Type} {enc' : TypeId × Value → H} {w : World} {base : Nat} {spare : Nat → Bool} {held : Bool}
theorem open_item {n : Nat} {cs : List Value} {x : DataW H × List MemPlace} (h : DataW.trod enc' Try.prog w base spare held n 32 cs = some x) : ∃ y : It, cs = ic y ∧ OkI y := by
  have z22 : Try.prog.cellsOf 23 = 1 := by kernel_rfl
  have z10 : Try.prog.cellsOf 32 = 2 := by kernel_rfl
  obtain ⟨xs, n, _, _, hl, hlen, hg⟩ := DataW.trod_struct Try.underlying32 h
  rw [z10] at hl
  match cs, hl with
  | [c0, c1], _ =>
    match xs, hlen with
    | [y0, y1], _ =>
      have g0 := hg 0 _ rfl
      have g1 := hg 1 _ rfl
      simp only [z22, List.drop_zero, List.drop_succ_cons, List.take_succ_cons, List.take_zero, List.getElem?_cons_zero, List.getElem?_cons_succ, List.getElem_toArray, List.getElem_cons_zero, List.getElem_cons_succ] at g0 g1
      obtain ⟨n0, e0, _, w0⟩ := DataW.trod_int (k := .u64) Try.underlying23 g0
      obtain ⟨n1, e1, _, w1⟩ := DataW.trod_int (k := .u64) Try.underlying23 g1
      simp only [List.cons.injEq, and_true] at e0 e1
      subst e0 e1
      have b0 : 0 ≤ n0 ∧ n0 ≤ 18446744073709551615 := by simpa [Lit.wf, IntKind.min, IntKind.max, IntKind.signed, IntKind.bits] using w0
      have b1 : 0 ≤ n1 ∧ n1 ≤ 18446744073709551615 := by simpa [Lit.wf, IntKind.min, IntKind.max, IntKind.signed, IntKind.bits] using w1
      obtain ⟨i, rfl⟩ : ∃ i : Nat, n1 = (i : Int) := ⟨n1.toNat, by omega⟩
      obtain ⟨k, rfl⟩ : ∃ k : Nat, n0 = (k : Int) := ⟨n0.toNat, by omega⟩
      exact ⟨(k, i), rfl, b0.2, b1.2⟩
theorem its_of_trod {n : Nat} {v : Value} {x : DataW H × List MemPlace} (h : DataW.trod enc' Try.prog w base spare held n 22 [v] = some x) : ∃ (A : Option Addr) (c : Nat) (L : List It), v = .slice A L.length c ∧ Its w A c L ∧ ∀ y ∈ L, OkI y := by
  have z10 : Try.prog.cellsOf 32 = 2 := by kernel_rfl
  rcases open_slice Try.underlying22 h with ⟨h0, _⟩ | ⟨a, len, cap, m, n', D, Pl, hcs, hb, hl, hm, hmm, _, hi⟩
  · simp only [List.cons.injEq, and_true] at h0
    exact ⟨none, 0, [], h0, Its.nil w, fun _ h => by cases h⟩
  · simp only [List.cons.injEq, and_true] at hcs
    have hlm : len ≤ m := by rw [hmm]; split <;> omega
    have hx : ∀ i, i < len → ∃ y : It, (∀ j, j < 2 → w.cell? (a.add (i * 2 + j)) = (ic y)[j]?) ∧ OkI y := fun i hil => by
      obtain ⟨cs', hc, ht⟩ := hi i (by omega)
      obtain ⟨y, rfl, hy⟩ := open_item ht
      rw [z10] at hc
      obtain ⟨_, _, hat⟩ := World.cells?_some hc
      refine ⟨y, fun j hj => ?_, hy⟩
      rw [← Wd.add_add]
      exact hat j hj
    let f : Nat → It := fun i => if h : i < len then Classical.choose (hx i h) else (0, 0)
    have hf : ∀ i, i < len → (∀ j, j < 2 → w.cell? (a.add (i * 2 + j)) = (ic (f i))[j]?) ∧ OkI (f i) := fun i hil => by
      have : f i = Classical.choose (hx i hil) := by simp only [f, hil, dif_pos]
      rw [this]
      exact Classical.choose_spec (hx i hil)
    refine ⟨some a, cap, (List.range len).map f, by rw [hcs]; simp, ?_, fun y hy => ?_⟩
    · refine ⟨irow_len _, fun e => (by cases e), by simpa using hl, hm, fun ad ha i u hu => ?_⟩
      injection ha with ha
      subst ha
      have hi4 : i < len * 2 := by
        have := (List.getElem?_eq_some_iff.1 hu).1
        rw [irow_len] at this
        simpa using this
      have e1 := irow_at ((List.range len).map f) (i / 2) (by simp; omega) (i % 2) (by omega)
      rw [show i / 2 * 2 + i % 2 = i by omega, hu] at e1
      have e2 := (hf (i / 2) (by omega)).1 (i % 2) (by omega)
      rw [show i / 2 * 2 + i % 2 = i by omega] at e2
      rw [e2, e1]
      simp
    · obtain ⟨i, hi, rfl⟩ := List.mem_map.1 hy
      exact (hf i (List.mem_range.1 hi)).2
theorem its_of_slice {fuel : Nat} {x : DataW H × List MemPlace} {a : Option Addr} {len cap : Nat}
    (h : DataW.trod enc' Try.prog w base (fun _ => true) held fuel 22 (Value.slice a len cap).cells.toList = some x) :
    ∃ L : List It, (Its w a cap L ∧ ∀ x ∈ L, OkI x) ∧ L.length = len := by
  obtain ⟨A, c, L, e, h1, h2⟩ := its_of_trod (v := .slice a len cap) h
  injection e with e1 e2 e3
  subst e1 e2 e3
  exact ⟨L, ⟨h1, h2⟩, rfl⟩
end
end Go.Proofs.Ytfpecjhgadijlaa.Y14
