/-
  A slice of slices of bytes, read as a list of lists, nil let in outside and inside.
-/
import Derived.Test.YtghdojiffooilaaDoorWords
import Derived.Deep.Matrix
namespace Go.Proofs.YtghdojiffooilaaDoor.Wd
open Go.RowKit Go.Lib Go.ChangeShapes Go.WideShapes

structure Bss (w : World) (A : Option Addr) (c : Nat) (L : List (List UInt8)) : Prop where
  none_ : A = none → L = [] ∧ c = 0
  cap : L.length ≤ c
  max : c ≤ maxLen
  at_ : ∀ ad, A = some ad → ∀ i (hi : i < L.length), ∃ Ai ci, w.cell? (ad.add i) = some (.slice Ai L[i].length ci) ∧ Bs w Ai ci L[i]

theorem Bss.below {w w' : World} {A : Option Addr} {c : Nat} {L : List (List UInt8)} (h : Bss w A c L) (hb : Below w.heap.size w w') : Bss w' A c L :=
  ⟨h.none_, h.cap, h.max, fun ad ha i hi => by
    obtain ⟨Ai, ci, h1, h2⟩ := h.at_ ad ha i hi
    exact ⟨Ai, ci, by rw [hb.cell (World.block_lt_of_cell? _ _ h1)]; exact h1, h2.below hb⟩⟩
theorem Bss.get {w : World} {A : Option Addr} {c : Nat} {L : List (List UInt8)} (h : Bss w A c L) {i : Nat} (hi : i < L.length) :
    ∃ ad Ai ci, A = some ad ∧ w.cell? (ad.add i) = some (.slice Ai L[i].length ci) ∧ Bs w Ai ci L[i] := by
  cases hA : A with
  | none => have := (h.none_ hA).1; subst this; simp at hi
  | some ad =>
    obtain ⟨Ai, ci, h1, h2⟩ := h.at_ ad hA i hi
    exact ⟨ad, Ai, ci, rfl, h1, h2⟩

/-- an argument of that type, as the row's reading gives it -/
theorem Bss.of_trod {H : Type} {enc : TypeId × Value → H} {P : Program} {w : World} {base : Nat} {held : Bool} {t e q : TypeId} {fuel : Nat} {x : DataW H × List MemPlace} {a : Option Addr} {len cap : Nat}
    (ht : P.underlying t = some (.slice e)) (he : P.underlying e = some (.slice q)) (hq : P.underlying q = some (.int .u8)) (ce : P.cellsOf e = 1) (cq : P.cellsOf q = 1)
    (h : DataW.trod enc P w base (fun _ => true) held fuel t (Value.slice a len cap).cells.toList = some x) : ∃ L : List (List UInt8), Bss w a cap L ∧ L.length = len := by
  rcases Deep.open_int_rows ht he hq ce cq h with ⟨hcs, _⟩ | ⟨a', len', cap', A, L, C, Z, hcs, _, hl, hm, _, hrow⟩
  · simp [Value.cells] at hcs
    obtain ⟨rfl, rfl, rfl⟩ := hcs
    exact ⟨[], ⟨fun _ => ⟨rfl, rfl⟩, Nat.le_refl _, by unfold maxLen; omega, fun _ h => by cases h⟩, rfl⟩
  · simp [Value.cells] at hcs
    obtain ⟨rfl, rfl, rfl⟩ := hcs
    have each : ∀ r, r < cap → ∃ l : List UInt8, l.length = L r ∧ Bs w (A r) (C r) l := by
      intro r hr
      obtain ⟨h1, h2, h3, h4, h5, h6, h7⟩ := hrow r hr
      refine Bs.of_row (zs := Z r) ?_
      cases hA : A r with
      | none =>
        have h0 := h6 hA
        exact .inl ⟨rfl, by omega, h0, List.eq_nil_of_length_eq_zero (by omega)⟩
      | some y =>
        refine .inr ⟨y, rfl, h2, h3, h4, fun i hi => (h7 y hA).2 i (by omega), h5⟩
    obtain ⟨f, hf⟩ := Deep.choose_lt each
    refine ⟨(List.range len).map f, ⟨(fun e => by cases e), by simpa using hl, hm, fun ad ha i hi => ?_⟩, by simp⟩
    injection ha with ha
    subst ha
    have hi' : i < len := by simpa using hi
    refine ⟨A i, C i, ?_, ?_⟩
    · simp only [List.getElem_map, List.getElem_range]
      rw [(hf i (by omega)).1]
      exact (hrow i (by omega)).1
    · simp only [List.getElem_map, List.getElem_range]
      exact (hf i (by omega)).2
end Go.Proofs.YtghdojiffooilaaDoor.Wd
