/-
  A parameter that is a slice of acts, as the shell of a proof wants it.
-/
import Derived.Test.YtmonjlnmkkdnfaaFxs
import Derived.Deep.Slices
import Derived.Deep.Fields
import Derived.ChangeSame
set_option linter.unusedSimpArgs false
set_option linter.unusedVariables false
namespace Go.Proofs.Ytmonjlnmkkdnfaa.W13
open Go.RowKit Go.Lib Go.ChangeShapes Go.WideShapes Go.Deep Go.Proofs.Ytmonjlnmkkdnfaa.Wd

/-- an act: a source (below 0: a tick), an end -/
structure Ac where
  S : Int
  E : Nat
instance : Inhabited Ac := ⟨⟨0, 0⟩⟩
def ac (x : Ac) : List Value := [.int .i64 x.S, .int .u64 (x.E : Int)]
def Ac.Ok (x : Ac) : Prop := (-9223372036854775808 ≤ x.S ∧ x.S ≤ 9223372036854775807) ∧ (x.E : Int) ≤ 18446744073709551615
def arow (L : List Ac) : List Value := L.flatMap ac
theorem arow_len (L : List Ac) : (arow L).length = L.length * 2 := by
  induction L with
  | nil => rfl
  | cons a l ih => simp only [arow, List.flatMap_cons, List.length_append, List.length_cons] at *; rw [ih]; simp [ac]; omega
theorem arow_at : ∀ (l : List Ac) (k : Nat) (h : k < l.length) (j : Nat), j < 2 → (arow l)[k * 2 + j]? = (ac l[k])[j]?
  | x :: l, 0, h, j, hj => by
    unfold arow
    rw [List.flatMap_cons, List.getElem?_append_left (by simp [ac]; omega)]
    simp
  | x :: l, k + 1, h, j, hj => by
    have ih := arow_at l k (by simpa using h) j hj
    unfold arow at *
    rw [List.flatMap_cons, List.getElem?_append_right (by simp [ac]; omega), show (ac x).length = 2 from rfl, show (k + 1) * 2 + j - 2 = k * 2 + j by omega, ih]
    simp
/-- a slice of acts -/
def Acs (w : World) (A : Option Addr) (c : Nat) (L : List Ac) : Prop := Rd 2 w A L.length c (arow L)
theorem Acs.nil (w : World) : Acs w none 0 [] := Rd.nil 2 w
theorem Acs.below {w w' : World} {A : Option Addr} {c : Nat} {L : List Ac} (h : Acs w A c L) (hb : Below w.heap.size w w') : Acs w' A c L := Rd.below h hb
theorem arow_app (a b : List Ac) : arow (a ++ b) = arow a ++ arow b := List.flatMap_append
theorem arow_one (l : List Ac) : ∀ u ∈ arow l, u.oneCell' = true := by
  intro u hu
  obtain ⟨S, _, hS⟩ := List.mem_flatMap.1 hu
  simp only [ac, List.mem_cons, List.not_mem_nil, or_false] at hS
  rcases hS with rfl | rfl <;> rfl
theorem Acs.get {w : World} {A : Option Addr} {c : Nat} {L : List Ac} (h : Acs w A c L) {k : Nat} (hk : k < L.length) : ∃ ad p, A = some ad ∧ ad.add (k * 2) = p ∧ w.cell? p = some (.int .i64 L[k].S) ∧ w.cell? ⟨p.block, p.off + 1, none⟩ = some (.int .u64 (L[k].E : Int)) := by
  cases hA : A with
  | none => have := h.none_ hA; omega
  | some ad =>
    have e : ∀ j, 0 < j → (⟨(ad.add (k * 2)).block, (ad.add (k * 2)).off + j, none⟩ : Addr) = ad.add (k * 2 + j) := by
      intro j hj
      unfold Addr.add
      by_cases h0 : k * 2 = 0
      · simp [h0]; omega
      · simp [h0, Nat.add_assoc]
    refine ⟨ad, _, rfl, rfl, ?_, ?_⟩
    · exact h.at_ ad hA (k * 2) _ (by have := arow_at L k hk 0 (by omega); simpa [ac] using this)
    · rw [e 1 (by omega)]; exact h.at_ ad hA (k * 2 + 1) _ (by have := arow_at L k hk 1 (by omega); simpa [ac] using this)
theorem Acs.take {w : World} {A : Option Addr} {c : Nat} {L : List Ac} (h : Acs w A c L) (k : Nat) (hk : k ≤ L.length) : Acs w A c (L.take k) := by
  have hl : (L.take k).length = k := by simp; omega
  unfold Acs
  rw [hl]
  refine ⟨by rw [arow_len, hl], fun ha => ⟨by have := (h.none_ ha).1; omega, (h.none_ ha).2⟩, Nat.le_trans hk h.cap, h.max, fun ad ha i u hu => ?_⟩
  refine h.at_ ad ha i u ?_
  have e : arow L = arow (L.take k) ++ arow (L.drop k) := by rw [← arow_app, List.take_append_drop]
  rw [e, List.getElem?_append_left (List.getElem?_eq_some_iff.1 hu).1]
  exact hu
section
variable {H : Type} {enc' : TypeId × Value → H} {w : World} {base : Nat} {spare : Nat → Bool} {held : Bool}
theorem open_act {n : Nat} {cs : List Value} {x : DataW H × List MemPlace} (h : DataW.trod enc' Try.prog w base spare held n 30 cs = some x) : ∃ y : Ac, cs = ac y ∧ y.Ok := by
  have z3 : Try.prog.cellsOf 3 = 1 := by kernel_rfl
  have z22 : Try.prog.cellsOf 22 = 1 := by kernel_rfl
  have z10 : Try.prog.cellsOf 30 = 2 := by kernel_rfl
  obtain ⟨xs, n, _, _, hl, hlen, hg⟩ := DataW.trod_struct Try.underlying30 h
  rw [z10] at hl
  match cs, hl with
  | [c0, c1], _ =>
    match xs, hlen with
    | [y0, y1], _ =>
      have g0 := hg 0 _ rfl
      have g1 := hg 1 _ rfl
      simp only [z3, z22, List.drop_zero, List.drop_succ_cons, List.take_succ_cons, List.take_zero, List.getElem?_cons_zero, List.getElem?_cons_succ, List.getElem_toArray, List.getElem_cons_zero, List.getElem_cons_succ] at g0 g1
      obtain ⟨n0, e0, _, w0⟩ := DataW.trod_int (k := .i64) Try.underlying3 g0
      obtain ⟨n1, e1, _, w1⟩ := DataW.trod_int (k := .u64) Try.underlying22 g1
      simp only [List.cons.injEq, and_true] at e0 e1
      subst e0 e1
      have b0 : -9223372036854775808 ≤ n0 ∧ n0 ≤ 9223372036854775807 := by simpa [Lit.wf, IntKind.min, IntKind.max, IntKind.signed, IntKind.bits] using w0
      have b1 : 0 ≤ n1 ∧ n1 ≤ 18446744073709551615 := by simpa [Lit.wf, IntKind.min, IntKind.max, IntKind.signed, IntKind.bits] using w1
      obtain ⟨i, rfl⟩ : ∃ i : Nat, n1 = (i : Int) := ⟨n1.toNat, by omega⟩
      exact ⟨⟨n0, i⟩, rfl, b0, b1.2⟩
theorem Acs.of_trod {n : Nat} {v : Value} {x : DataW H × List MemPlace} (h : DataW.trod enc' Try.prog w base spare held n 23 [v] = some x) : ∃ (A : Option Addr) (c : Nat) (L : List Ac), v = .slice A L.length c ∧ Acs w A c L ∧ ∀ y ∈ L, y.Ok := by
  have z10 : Try.prog.cellsOf 30 = 2 := by kernel_rfl
  rcases open_slice Try.underlying23 h with ⟨h0, _⟩ | ⟨a, len, cap, m, n', D, Pl, hcs, hb, hl, hm, hmm, _, hi⟩
  · simp only [List.cons.injEq, and_true] at h0
    exact ⟨none, 0, [], h0, Acs.nil w, fun _ h => by cases h⟩
  · simp only [List.cons.injEq, and_true] at hcs
    have hlm : len ≤ m := by rw [hmm]; split <;> omega
    have hx : ∀ i, i < len → ∃ y : Ac, (∀ j, j < 2 → w.cell? (a.add (i * 2 + j)) = (ac y)[j]?) ∧ y.Ok := fun i hil => by
      obtain ⟨cs', hc, ht⟩ := hi i (by omega)
      obtain ⟨y, rfl, hy⟩ := open_act ht
      rw [z10] at hc
      obtain ⟨_, _, hat⟩ := World.cells?_some hc
      refine ⟨y, fun j hj => ?_, hy⟩
      rw [← Wd.add_add]
      exact hat j hj
    let f : Nat → Ac := fun i => if h : i < len then Classical.choose (hx i h) else default
    have hf : ∀ i, i < len → (∀ j, j < 2 → w.cell? (a.add (i * 2 + j)) = (ac (f i))[j]?) ∧ (f i).Ok := fun i hil => by
      have : f i = Classical.choose (hx i hil) := by simp only [f, hil, dif_pos]
      rw [this]
      exact Classical.choose_spec (hx i hil)
    refine ⟨some a, cap, (List.range len).map f, by rw [hcs]; simp, ?_, fun y hy => ?_⟩
    · refine ⟨arow_len _, fun e => (by cases e), by simpa using hl, hm, fun ad ha i u hu => ?_⟩
      injection ha with ha
      subst ha
      have hi4 : i < len * 2 := by
        have := (List.getElem?_eq_some_iff.1 hu).1
        rw [arow_len] at this
        simpa using this
      have e1 := arow_at ((List.range len).map f) (i / 2) (by simp; omega) (i % 2) (by omega)
      rw [show i / 2 * 2 + i % 2 = i by omega, hu] at e1
      have e2 := (hf (i / 2) (by omega)).1 (i % 2) (by omega)
      rw [show i / 2 * 2 + i % 2 = i by omega] at e2
      rw [e2, e1]
      simp
    · obtain ⟨i, hi, rfl⟩ := List.mem_map.1 hy
      exact (hf i (List.mem_range.1 hi)).2
theorem Acs.of_slice {fuel : Nat} {x : DataW H × List MemPlace} {a : Option Addr} {len cap : Nat}
    (h : DataW.trod enc' Try.prog w base (fun _ => true) held fuel 23 (Value.slice a len cap).cells.toList = some x) :
    ∃ L : List Ac, (Acs w a cap L ∧ ∀ x ∈ L, x.Ok) ∧ L.length = len := by
  obtain ⟨A, c, L, e, h1, h2⟩ := Acs.of_trod (v := .slice a len cap) h
  injection e with e1 e2 e3
  subst e1 e2 e3
  exact ⟨L, ⟨h1, h2⟩, rfl⟩
end
end Go.Proofs.Ytmonjlnmkkdnfaa.W13
