/-
  A span in plain lists; its numbers within their types.
-/
import Derived.Test.YtdmibolbpgondaaGreatKP06Span
namespace Go.Proofs.YtdmibolbpgondaaGreat.B07
open Go.Proofs.YtdmibolbpgondaaGreat.P06

/-- a span: its nine fields, its attributes -/
abbrev Pn := Sp × List At
/-- the numbers of a span, of an attribute are within their types -/
structure OkN (s : Sp) : Prop where
  a0 : 0 ≤ s.T
  a1 : s.T ≤ 18446744073709551615
  b0 : 0 ≤ s.I
  b1 : s.I ≤ 18446744073709551615
  c0 : 0 ≤ s.P
  c1 : s.P ≤ 18446744073709551615
  d0 : 0 ≤ s.t0
  d1 : s.t0 ≤ 18446744073709551615
  e0 : 0 ≤ s.t1
  e1 : s.t1 ≤ 18446744073709551615
def OkA (a : At) : Prop := -9223372036854775808 ≤ a.N ∧ a.N ≤ 9223372036854775807
end Go.Proofs.YtdmibolbpgondaaGreat.B07
