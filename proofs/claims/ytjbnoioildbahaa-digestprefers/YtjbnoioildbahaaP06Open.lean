/-
  A span that comes in, opened: its nine fields, and its attributes.
-/
import Derived.Test.YtjbnoioildbahaaP06Span
import Derived.Deep.Slices
import Derived.Deep.Fields
import Derived.ChangeOld
set_option linter.unusedSimpArgs false
set_option linter.unusedVariables false
namespace Go.Proofs.Ytjbnoioildbahaa.P06
open Go.RowKit Go.Lib Go.ChangeShapes Go.WideShapes Go.Deep Go.Proofs.Ytjbnoioildbahaa.Wd

/-- its times fit their kind -/
structure OkS (s : Sp) : Prop where
  a0 : 0 ≤ s.t0
  a1 : s.t0 ≤ 18446744073709551615
  b0 : 0 ≤ s.t1
  b1 : s.t1 ≤ 18446744073709551615
section
variable {H : Type} {enc' : TypeId × Value → H} {w : World} {base : Nat} {spare : Nat → Bool} {held : Bool}
set_option maxRecDepth 100000 in
theorem open_attr {n : Nat} {cs : List Value} {x : DataW H × List MemPlace} (h : DataW.trod enc' Try.prog w base spare held n 53 cs = some x) : ∃ y : At, cs = enc y := by
  have z9 : Try.prog.cellsOf 9 = 1 := by kernel_rfl
  have z44 : Try.prog.cellsOf 51 = 3 := by kernel_rfl
  have z46 : Try.prog.cellsOf 53 = 4 := by kernel_rfl
  have z3 : Try.prog.cellsOf 3 = 1 := by kernel_rfl
  have z2 : Try.prog.cellsOf 2 = 1 := by kernel_rfl
  obtain ⟨xs, m, _, _, hl, hxl, hg⟩ := DataW.trod_struct Try.underlying53 h
  rw [z46] at hl
  match cs, hl with
  | [d0, d1, d2, d3], _ =>
    match xs, hxl with
    | [y0, y1], _ =>
      have g0 := hg 0 _ rfl
      have g1 := hg 1 _ rfl
      simp only [z9, z44, List.drop_zero, List.drop_succ_cons, List.take_succ_cons, List.take_zero, List.getElem?_cons_zero, List.getElem?_cons_succ, List.getElem_toArray, List.getElem_cons_zero, List.getElem_cons_succ] at g0 g1
      obtain ⟨key, e0, _, _⟩ := DataW.trod_string Try.underlying9 g0
      obtain ⟨ys, m2, _, _, _, hyl, hg2⟩ := DataW.trod_struct Try.underlying51 g1
      match ys, hyl with
      | [u0, u1, u2], _ =>
        have k0 := hg2 0 _ rfl
        have k1 := hg2 1 _ rfl
        have k2 := hg2 2 _ rfl
        simp only [z9, z3, z2, List.drop_zero, List.drop_succ_cons, List.take_succ_cons, List.take_zero, List.getElem?_cons_zero, List.getElem?_cons_succ, List.getElem_toArray, List.getElem_cons_zero, List.getElem_cons_succ] at k0 k1 k2
        obtain ⟨K, f0, _, _⟩ := DataW.trod_int (k := .i64) Try.underlying3 k0
        obtain ⟨N, f1, _, _⟩ := DataW.trod_int (k := .i64) Try.underlying2 k1
        obtain ⟨S, f2, _, _⟩ := DataW.trod_string Try.underlying9 k2
        simp only [List.cons.injEq, and_true] at e0 f0 f1 f2
        subst e0 f0 f1 f2
        exact ⟨⟨key, K, N, S⟩, rfl⟩
set_option maxRecDepth 100000 in
theorem open_attrs {n : Nat} {v : Value} {x : DataW H × List MemPlace} (h : DataW.trod enc' Try.prog w base spare held n 34 [v] = some x) : ∃ (A : Option Addr) (c : Nat) (l : List At), v = .slice A l.length c ∧ Ats w A c l := by
  have z46 : Try.prog.cellsOf 53 = 4 := by kernel_rfl
  rcases open_slice Try.underlying34 h with ⟨h0, _⟩ | ⟨a, len, cap, m, n', D, Pl, hcs, hb, hl, hm, hmm, _, hi⟩
  · simp only [List.cons.injEq, and_true] at h0
    exact ⟨none, 0, [], h0, Ats.nil w⟩
  · simp only [List.cons.injEq, and_true] at hcs
    have hlm : len ≤ m := by rw [hmm]; split <;> omega
    have hx : ∀ i, i < len → ∃ y : At, ∀ j, j < 4 → w.cell? (a.add (i * 4 + j)) = (enc y)[j]? := fun i hil => by
      obtain ⟨cs', hc, ht⟩ := hi i (by omega)
      obtain ⟨y, rfl⟩ := open_attr ht
      rw [z46] at hc
      obtain ⟨_, _, hat⟩ := World.cells?_some hc
      refine ⟨y, fun j hj => ?_⟩
      rw [← Wd.add_add]
      exact hat j hj
    let f : Nat → At := fun i => if h : i < len then Classical.choose (hx i h) else default
    have hf : ∀ i, i < len → ∀ j, j < 4 → w.cell? (a.add (i * 4 + j)) = (enc (f i))[j]? := fun i hil => by
      have : f i = Classical.choose (hx i hil) := by simp only [f, hil, dif_pos]
      rw [this]
      exact Classical.choose_spec (hx i hil)
    refine ⟨some a, cap, (List.range len).map f, by rw [hcs]; simp, ?_⟩
    refine ⟨fm_len _, fun e => (by cases e), by simpa using hl, hm, fun ad ha i u hu => ?_⟩
    injection ha with ha
    subst ha
    have hi4 : i < len * 4 := by
      have := (List.getElem?_eq_some_iff.1 hu).1
      rw [fm_len] at this
      simpa using this
    have e1 := fm_at ((List.range len).map f) (i / 4) (by simp; omega) (i % 4) (by omega)
    rw [show i / 4 * 4 + i % 4 = i by omega, hu] at e1
    have e2 := hf (i / 4) (by omega) (i % 4) (by omega)
    rw [show i / 4 * 4 + i % 4 = i by omega] at e2
    rw [e2, e1]
    simp
set_option maxRecDepth 100000 in
theorem open_span {r : Reach} {b0 : Nat} {v : Value} {d : DataW H} {p : List MemPlace} (hv : Value.okWide Try.prog w r b0 36 v) (h : DataW.Trod enc' Try.prog w base spare held 36 v d p) :
    ∃ (s : Sp) (A : Option Addr) (c : Nat) (l : List At), v = spv s (.slice A l.length c) ∧ Ats w A c l ∧ OkS s := by
  have z9 : Try.prog.cellsOf 9 = 1 := by kernel_rfl
  have z3 : Try.prog.cellsOf 3 = 1 := by kernel_rfl
  have z22 : Try.prog.cellsOf 24 = 1 := by kernel_rfl
  have z23 : Try.prog.cellsOf 34 = 1 := by kernel_rfl
  obtain ⟨cs, rfl, hsz⟩ := okWide_struct Try.underlying36 hv
  obtain ⟨l⟩ := cs
  match l, hsz.trans (show Try.prog.cellsOf 36 = 10 by kernel_rfl) with
  | [c0, c1, c2, c3, c4, c5, c6, c7, c8, c9], _ =>
    obtain ⟨fuel, hf⟩ := h
    obtain ⟨xs, n, _, _, _, hlen, hg⟩ := DataW.trod_struct Try.underlying36 hf
    match xs, hlen with
    | [y0, y1, y2, y3, y4, y5, y6, y7, y8, y9], _ =>
      have g0 := hg 0 _ rfl
      have g1 := hg 1 _ rfl
      have g2 := hg 2 _ rfl
      have g3 := hg 3 _ rfl
      have g4 := hg 4 _ rfl
      have g5 := hg 5 _ rfl
      have g6 := hg 6 _ rfl
      have g7 := hg 7 _ rfl
      have g8 := hg 8 _ rfl
      have g9 := hg 9 _ rfl
      simp only [Value.cells, z9, z3, z22, z23, List.drop_zero, List.drop_succ_cons, List.take_succ_cons, List.take_zero, List.getElem?_cons_zero, List.getElem?_cons_succ, List.getElem_toArray, List.getElem_cons_zero, List.getElem_cons_succ] at g0 g1 g2 g3 g4 g5 g6 g7 g8 g9
      obtain ⟨n0, e0, _, _⟩ := DataW.trod_int (k := .u64) Try.underlying24 g0
      obtain ⟨n1, e1, _, _⟩ := DataW.trod_int (k := .u64) Try.underlying24 g1
      obtain ⟨n2, e2, _, _⟩ := DataW.trod_int (k := .u64) Try.underlying24 g2
      obtain ⟨n3, e3, _, _⟩ := DataW.trod_string Try.underlying9 g3
      obtain ⟨n4, e4, _, _⟩ := DataW.trod_string Try.underlying9 g4
      obtain ⟨n5, e5, _, _⟩ := DataW.trod_int (k := .i64) Try.underlying3 g5
      obtain ⟨n6, e6, _, _⟩ := DataW.trod_int (k := .i64) Try.underlying3 g6
      obtain ⟨n7, e7, _, w7⟩ := DataW.trod_int (k := .u64) Try.underlying24 g7
      obtain ⟨n8, e8, _, w8⟩ := DataW.trod_int (k := .u64) Try.underlying24 g8
      obtain ⟨A, c, l, e9, hA⟩ := open_attrs g9
      simp only [List.cons.injEq, and_true] at e0 e1 e2 e3 e4 e5 e6 e7 e8
      subst e0 e1 e2 e3 e4 e5 e6 e7 e8 e9
      have b7 : 0 ≤ n7 ∧ n7 ≤ 18446744073709551615 := by simpa [Lit.wf, IntKind.min, IntKind.max, IntKind.signed, IntKind.bits] using w7
      have b8 : 0 ≤ n8 ∧ n8 ≤ 18446744073709551615 := by simpa [Lit.wf, IntKind.min, IntKind.max, IntKind.signed, IntKind.bits] using w8
      exact ⟨⟨n0, n1, n2, n3, n4, n5, n6, n7, n8⟩, A, c, l, rfl, hA, b7.1, b7.2, b8.1, b8.2⟩
end
end Go.Proofs.Ytjbnoioildbahaa.P06
