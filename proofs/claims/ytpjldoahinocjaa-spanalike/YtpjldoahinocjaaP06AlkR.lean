/-
  The walk of SpanAlike: what is kept in its loops.
-/
import Derived.Test.YtpjldoahinocjaaP06AlkPure
import Derived.Test.YtpjldoahinocjaaP06Open
import Derived.Deep.QuietTactic
import Derived.BigQuiet
import Derived.Deep.CutRange
set_option linter.unusedSimpArgs false
set_option linter.unusedVariables false
namespace Go.Proofs.Ytpjldoahinocjaa.P06
open Go.Shelf Go.RowKit Go.Lib Go.Sort Go.Proofs.Ytpjldoahinocjaa.Wd Go.Proofs.Ytpjldoahinocjaa.V04

/-- the two boxes -/
structure AlR (w w4 : World) (s y : Sp) (A : Option Addr) (n c : Nat) (A6 : Option Addr) (c6 : Nat) (wr : World) : Prop where
  k1 : Bk wr w.heap.size 25 (spc s (.slice A n c))
  k2 : Bk wr w4.heap.size 30 (spc y (.slice A6 n c6))
  b0 : Below w.heap.size w wr
  b4 : Below w4.heap.size w4 wr
section
variable {w w4 : World} {s y : Sp} {A : Option Addr} {n c : Nat} {A6 : Option Addr} {c6 : Nat} {wr w' : World}
theorem AlR.below (h : AlR w w4 s y A n c A6 c6 wr) (hb : Below wr.heap.size wr w') : AlR w w4 s y A n c A6 c6 w' := ⟨h.k1.below hb, h.k2.below hb, h.b0.trans (hb.mono h.b0.size), h.b4.trans (hb.mono h.b4.size)⟩
theorem AlR.drewN (h : AlR w w4 s y A n c A6 c6 wr) (q : Nat) : AlR w w4 s y A n c A6 c6 (wr.drewN q) := ⟨h.k1, h.k2, ⟨h.b0.os, h.b0.tape, h.b0.output, h.b0.size, h.b0.block⟩, ⟨h.b4.os, h.b4.tape, h.b4.output, h.b4.size, h.b4.block⟩⟩
theorem AlR.cells (h : AlR w w4 s y A n c A6 c6 wr) {p : Addr} {x : At} (F : w.cell? p = some (.string x.key)) : wr.cell? ⟨w.heap.size, 0, none⟩ = some (.int .u64 s.T) ∧ wr.cell? ⟨w.heap.size, 1, none⟩ = some (.int .u64 s.I) ∧ wr.cell? ⟨w.heap.size, 2, none⟩ = some (.int .u64 s.P) ∧ wr.cell? ⟨w.heap.size, 3, none⟩ = some (.string s.sv) ∧ wr.cell? ⟨w.heap.size, 4, none⟩ = some (.string s.nm) ∧ wr.cell? ⟨w.heap.size, 5, none⟩ = some (.int .i64 s.kd) ∧ wr.cell? ⟨w.heap.size, 6, none⟩ = some (.int .i64 s.st) ∧ wr.cell? ⟨w.heap.size, 7, none⟩ = some (.int .u64 s.t0) ∧ wr.cell? ⟨w.heap.size, 8, none⟩ = some (.int .u64 s.t1) ∧ wr.cell? ⟨w.heap.size, 9, none⟩ = some (.slice A n c) ∧ wr.cell? ⟨w4.heap.size, 0, none⟩ = some (.int .u64 y.T) ∧ wr.cell? ⟨w4.heap.size, 1, none⟩ = some (.int .u64 y.I) ∧ wr.cell? ⟨w4.heap.size, 2, none⟩ = some (.int .u64 y.P) ∧ wr.cell? ⟨w4.heap.size, 3, none⟩ = some (.string y.sv) ∧ wr.cell? ⟨w4.heap.size, 4, none⟩ = some (.string y.nm) ∧ wr.cell? ⟨w4.heap.size, 5, none⟩ = some (.int .i64 y.kd) ∧ wr.cell? ⟨w4.heap.size, 6, none⟩ = some (.int .i64 y.st) ∧ wr.cell? ⟨w4.heap.size, 7, none⟩ = some (.int .u64 y.t0) ∧ wr.cell? ⟨w4.heap.size, 8, none⟩ = some (.int .u64 y.t1) ∧ wr.cell? ⟨w4.heap.size, 9, none⟩ = some (.slice A6 n c6) ∧ wr.cell? p = some (.string x.key) :=
  ⟨h.k1.cell 0, h.k1.cell 1, h.k1.cell 2, h.k1.cell 3, h.k1.cell 4, h.k1.cell 5, h.k1.cell 6, h.k1.cell 7, h.k1.cell 8, h.k1.cell 9, h.k2.cell 0, h.k2.cell 1, h.k2.cell 2, h.k2.cell 3, h.k2.cell 4, h.k2.cell 5, h.k2.cell 6, h.k2.cell 7, h.k2.cell 8, h.k2.cell 9, (h.b0.cell (p := p) (World.block_lt_of_cell? _ _ F)).trans F⟩
theorem AlR.set3 (h : AlR w w4 s y A n c A6 c6 wr) {g : Nat} (h1 : w.heap.size < g) (h2 : w4.heap.size < g) (a b d : Value) : AlR w w4 s y A n c A6 c6 (((wr.setCell ⟨g, 0, none⟩ a).setCell ⟨g, 1, none⟩ b).setCell ⟨g, 2, none⟩ d) :=
  ⟨((h.k1.other _ _ _ (by omega)).other _ _ _ (by omega)).other _ _ _ (by omega), ((h.k2.other _ _ _ (by omega)).other _ _ _ (by omega)).other _ _ _ (by omega),
    ((h.b0.setCell (p := ⟨g, 0, none⟩) (Nat.le_of_lt h1) a).setCell (p := ⟨g, 1, none⟩) (Nat.le_of_lt h1) b).setCell (p := ⟨g, 2, none⟩) (Nat.le_of_lt h1) d,
    ((h.b4.setCell (p := ⟨g, 0, none⟩) (Nat.le_of_lt h2) a).setCell (p := ⟨g, 1, none⟩) (Nat.le_of_lt h2) b).setCell (p := ⟨g, 2, none⟩) (Nat.le_of_lt h2) d⟩
theorem Bk.set3 {W : World} {g : Nat} {t : TypeId} {x1 x2 x3 : Value} (h : Bk W g t #[x1, x2, x3]) (a b d : Value) : Bk (((W.setCell ⟨g, 0, none⟩ a).setCell ⟨g, 1, none⟩ b).setCell ⟨g, 2, none⟩ d) g t #[a, b, d] := by
  have := ((h.set 0 a).set 1 b).set 2 d
  simpa using this
/-- and a value's box -/
structure AlS (w w4 : World) (s y : Sp) (A : Option Addr) (n c : Nat) (A6 : Option Addr) (c6 g : Nat) (K N : Int) (S : ByteArray) (wr : World) : Prop where
  r : AlR w w4 s y A n c A6 c6 wr
  v : Bk wr g 41 #[.int .i64 K, .int .i64 N, .string S]
variable {g0 : Nat} {K N : Int} {S : ByteArray}
theorem AlS.below (h : AlS w w4 s y A n c A6 c6 g0 K N S wr) (hb : Below wr.heap.size wr w') : AlS w w4 s y A n c A6 c6 g0 K N S w' := ⟨h.r.below hb, h.v.below hb⟩
theorem AlS.set3 (h : AlS w w4 s y A n c A6 c6 g0 K N S wr) {g : Nat} (h1 : w.heap.size < g) (h2 : w4.heap.size < g) (h3 : g ≠ g0) (a b d : Value) : AlS w w4 s y A n c A6 c6 g0 K N S (((wr.setCell ⟨g, 0, none⟩ a).setCell ⟨g, 1, none⟩ b).setCell ⟨g, 2, none⟩ d) :=
  ⟨h.r.set3 h1 h2 a b d, ((h.v.other _ _ _ h3).other _ _ _ h3).other _ _ _ h3⟩
end
theorem gt_no (x y : At) (h : ble (kb y) (kb x)) : (!Op.bytesLess y.key.toList x.key.toList && !(y.key.toList == x.key.toList)) = false := by
  rw [less_cb]
  have h3 := same_cb y.key x.key
  unfold ble kb at h
  have h2 := cb_vals y.key.data.toList x.key.data.toList
  rcases h2 with h2 | h2 | h2
  · simp [h2]
  · simp [h3.2 h2]
  · omega
theorem far_sizes2 {s : Sp} {l : List At} (h : far s l = false) : s.sv.size ≤ 5000 ∧ s.nm.size ≤ 5000 := by
  unfold far at h
  simp only [Bool.or_eq_false_iff, decide_eq_false_iff_not] at h
  omega
theorem attr_form2 (l : List At) (key : ByteArray) : ∃ K N S, attrV l key = vl K N S := by
  unfold attrV
  split
  · exact ⟨_, _, _, rfl⟩
  · exact ⟨_, _, _, rfl⟩
theorem rs_cell {W : World} {g : Nat} {t : TypeId} (h : Bk W g t #[.int .i64 50, .int .i64 51, .int .i64 52, .int .i64 53, .int .i64 54, .int .i64 55]) {k : Nat} (hk : k < 6) : W.cell? ⟨g, k, none⟩ = some (.int .i64 (50 + (k : Int))) := by
  rw [h.cell]
  have : k = 0 ∨ k = 1 ∨ k = 2 ∨ k = 3 ∨ k = 4 ∨ k = 5 := by omega
  rcases this with rfl | rfl | rfl | rfl | rfl | rfl <;> rfl
end Go.Proofs.Ytpjldoahinocjaa.P06
