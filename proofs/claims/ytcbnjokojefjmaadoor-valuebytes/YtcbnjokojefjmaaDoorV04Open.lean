/-
  A value that comes in, opened: its three fields.
-/
import Derived.Test.YtcbnjokojefjmaaDoorV04Right
import Derived.Lib.SmallJoins
import Derived.ChangeOld
namespace Go.Proofs.YtcbnjokojefjmaaDoor.V04
open Go.RowKit Go.Lib Go.Joins Go.ChangeShapes Go.WideShapes Go.Deep

/-- its numbers fit their kinds -/
structure Okv (K N : Int) (S : ByteArray) : Prop where
  k0 : -9223372036854775808 ≤ K
  k1 : K ≤ 9223372036854775807
  n0 : -9223372036854775808 ≤ N
  n1 : N ≤ 9223372036854775807
  sz : S.size ≤ maxLen

theorem open_value {H : Type} {enc : TypeId × Value → H} {w : World} {base : Nat} {spare : Nat → Bool} {held : Bool} {r : Reach} {b0 : Nat} {v : Value} {d : DataW H} {p : List MemPlace}
    (hv : Value.okWide Tryd.prog w r b0 23 v) (h : DataW.Trod enc Tryd.prog w base spare held 23 v d p) :
    ∃ K N S, v = vl K N S ∧ Okv K N S := by
  obtain ⟨v0, v1, v2, y0, y1, y2, n, rfl, rfl, rfl, h0, h1, h2⟩ := open_agg3 Tryd.underlying23 (by kernel_rfl) (by kernel_rfl) hv h
  obtain ⟨K, hK, _, wK⟩ := DataW.trod_int (k := .i64) Tryd.underlying3 h0
  obtain ⟨N, hN, _, wN⟩ := DataW.trod_int (k := .i64) Tryd.underlying2 h1
  obtain ⟨S, hS, _, wS⟩ := DataW.trod_string Tryd.underlying9 h2
  simp only [List.cons.injEq, and_true] at hK hN hS
  subst hK; subst hN; subst hS
  have bK : -9223372036854775808 ≤ K ∧ K ≤ 9223372036854775807 := by simpa [Lit.wf, IntKind.min, IntKind.max, IntKind.signed, IntKind.bits] using wK
  have bN : -9223372036854775808 ≤ N ∧ N ≤ 9223372036854775807 := by simpa [Lit.wf, IntKind.min, IntKind.max, IntKind.signed, IntKind.bits] using wN
  exact ⟨K, N, S, rfl, bK.1, bK.2, bN.1, bN.2, wS⟩
end Go.Proofs.YtcbnjokojefjmaaDoor.V04
