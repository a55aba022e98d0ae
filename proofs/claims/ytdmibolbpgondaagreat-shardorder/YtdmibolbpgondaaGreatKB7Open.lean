/-
  A parameter that is a slice of spans, as the shell of a proof wants it.
-/
import Derived.Test.YtdmibolbpgondaaGreatKB7Sps
namespace Go.Proofs.YtdmibolbpgondaaGreat.B07
open Go.RowKit Go.Lib Go.ChangeShapes Go.WideShapes Go.Deep Go.Proofs.YtdmibolbpgondaaGreat.Wd
theorem Sps.of_slice {H : Type} {enc' : TypeId × Value → H} {w : World} {base : Nat} {held : Bool} {fuel : Nat} {x : DataW H × List MemPlace} {a : Option Addr} {len cap : Nat}
    (h : DataW.trod enc' Tryz.prog w base (fun _ => true) held fuel 29 (Value.slice a len cap).cells.toList = some x) :
    ∃ L : List Spn, (Sps w a cap L ∧ ∀ x ∈ pns L, OkP x) ∧ L.length = len := by
  obtain ⟨A, c, L, e, h1, h2⟩ := Sps.of_trod (v := .slice a len cap) h
  injection e with e1 e2 e3
  subst e1 e2 e3
  exact ⟨L, ⟨h1, h2⟩, rfl⟩
end Go.Proofs.YtdmibolbpgondaaGreat.B07
