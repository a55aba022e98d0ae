/-
  No cell of these rows narrows 'for every input' (looked for: loops, veiled, ifaces, maps, wideKeys, modest, calm, conditions, laid).
  DERIVED. THE GIVEN ROWS OF THIS SEAT. 4 by the template 'for every input the law returns true; each argument reads behind the call as it read before'; 0 by the template 'total and deterministic' (their statements: YtjbnoioildbahaaTotals.lean).
  GIVEN WITH THE SEED: the statements are not yours to turn. If you find one false, say at which input.
  Laid BY PROGRAM, IN A SANDBOX (cutbox-rows.mjs): the forced cells as the released guide's own fill.sh prints them over the translation ae293b578465d90a… (all of the seat's roots in one cut). By AI agents, Wed Nov 11 2026. No macro, syntax, notation, axiom, sorry.
-/
import Derived.Test.YtjbnoioildbahaaChecked
import GoSem.Claim
import GoSem.ClaimJoined
import GoSem.ClaimMapViews
import Derived.JoinedTies
import Derived.KernelRfl
namespace Go.Proofs.Ytjbnoioildbahaa
/- THE CELL 'sum', in the pinned program and in every row, IS THE sha256 OF THE DUMP (.gsa) THAT YtjbnoioildbahaaProg.lean LOADS. Nothing in Lean hashes anything: it is a label: what it is worth is what the hold of that sum in a sandbox is worth. -/
noncomputable def Try.pinned : Pinned := { name := "ytjbnoioildbahaa", sum := "ae293b578465d90ae050110a0d7e47a7d7af08e7bf287aebc9c71d1c3f1daad3", checked := Try.checked }
namespace Rows
def none {H : Type} : Left H := { results := [], args := [] }

/-- 'tallyroomlaw09.DigestHashes': WHATEVER THE INPUT: true; the input reads as it did. -/
def digestHashesSpec : ChangeSpec := { name := "digestHashes", fn := fun _ => fun
  | [d1, d2, d3, d4] => { results := [.lit (.bool true)], args := [d1, d2, d3, d4] }
  | _ => none }
def digestHashesRow : OpenClaim := { program := "ytjbnoioildbahaa", sum := "ae293b578465d90ae050110a0d7e47a7d7af08e7bf287aebc9c71d1c3f1daad3", func := "tallyroom/tallyroomlaw09.DigestHashes", spec := "digestHashes", apart := false }
def DigestHashesSaid : Prop := digestHashesRow.holds Try.pinned (OpenSpec.ofChange digestHashesSpec)

/-- ITS FALSE NEIGHBOUR: 'it returns false'. Refute it at one input. -/
def digestHashesWrong : ChangeSpec := { name := "digestHashes", fn := fun _ => fun
  | [d1, d2, d3, d4] => { results := [.lit (.bool false)], args := [d1, d2, d3, d4] }
  | _ => none }
def DigestHashesWrongFalsely : Prop := digestHashesRow.holds Try.pinned (OpenSpec.ofChange digestHashesWrong)

/-- 'tallyroomlaw09.DigestPrefers': WHATEVER THE INPUT: true; the input reads as it did. -/
def digestPrefersSpec : ChangeSpec := { name := "digestPrefers", fn := fun _ => fun
  | [d1, d2] => { results := [.lit (.bool true)], args := [d1, d2] }
  | _ => none }
def digestPrefersRow : OpenClaim := { program := "ytjbnoioildbahaa", sum := "ae293b578465d90ae050110a0d7e47a7d7af08e7bf287aebc9c71d1c3f1daad3", func := "tallyroom/tallyroomlaw09.DigestPrefers", spec := "digestPrefers", inPlace := ["internal/bytealg.abigen_runtime_cmpstring"], unfollowed := true, recurses := true, apart := false }
def DigestPrefersSaid : Prop := digestPrefersRow.holds Try.pinned (OpenSpec.ofChange digestPrefersSpec)

/-- ITS FALSE NEIGHBOUR: 'it returns false'. Refute it at one input. -/
def digestPrefersWrong : ChangeSpec := { name := "digestPrefers", fn := fun _ => fun
  | [d1, d2] => { results := [.lit (.bool false)], args := [d1, d2] }
  | _ => none }
def DigestPrefersWrongFalsely : Prop := digestPrefersRow.holds Try.pinned (OpenSpec.ofChange digestPrefersWrong)

/-- 'tallyroomlaw09.DigestShares': WHATEVER THE INPUT: true; the input reads as it did. -/
def digestSharesSpec : ChangeSpec := { name := "digestShares", fn := fun _ => fun
  | [d1, d2, d3, d4] => { results := [.lit (.bool true)], args := [d1, d2, d3, d4] }
  | _ => none }
def digestSharesRow : OpenClaim := { program := "ytjbnoioildbahaa", sum := "ae293b578465d90ae050110a0d7e47a7d7af08e7bf287aebc9c71d1c3f1daad3", func := "tallyroom/tallyroomlaw09.DigestShares", spec := "digestShares", apart := false }
def DigestSharesSaid : Prop := digestSharesRow.holds Try.pinned (OpenSpec.ofChange digestSharesSpec)

/-- ITS FALSE NEIGHBOUR: 'it returns false'. Refute it at one input. -/
def digestSharesWrong : ChangeSpec := { name := "digestShares", fn := fun _ => fun
  | [d1, d2, d3, d4] => { results := [.lit (.bool false)], args := [d1, d2, d3, d4] }
  | _ => none }
def DigestSharesWrongFalsely : Prop := digestSharesRow.holds Try.pinned (OpenSpec.ofChange digestSharesWrong)

/-- 'tallyroomlaw09.DigestTexts': WHATEVER THE INPUT: true; the input reads as it did. -/
def digestTextsSpec : ChangeSpec := { name := "digestTexts", fn := fun _ => fun
  | [d1, d2, d3] => { results := [.lit (.bool true)], args := [d1, d2, d3] }
  | _ => none }
def digestTextsRow : OpenClaim := { program := "ytjbnoioildbahaa", sum := "ae293b578465d90ae050110a0d7e47a7d7af08e7bf287aebc9c71d1c3f1daad3", func := "tallyroom/tallyroomlaw09.DigestTexts", spec := "digestTexts", apart := false }
def DigestTextsSaid : Prop := digestTextsRow.holds Try.pinned (OpenSpec.ofChange digestTextsSpec)

/-- ITS FALSE NEIGHBOUR: 'it returns false'. Refute it at one input. -/
def digestTextsWrong : ChangeSpec := { name := "digestTexts", fn := fun _ => fun
  | [d1, d2, d3] => { results := [.lit (.bool false)], args := [d1, d2, d3] }
  | _ => none }
def DigestTextsWrongFalsely : Prop := digestTextsRow.holds Try.pinned (OpenSpec.ofChange digestTextsWrong)

/- THE SECOND FORM. 'bulk': how many values and letters a reading holds, each counted each time it is reached (what is shared counts as often as it is met; a slice's spare places count too). A statement '..UptoSaid' is the law's where the arguments, and the package variables that the reading takes, are together of bulk at most 1048576: NARROWER than '..Said'. Prove '..Said' where nothing that the law and all that it calls make is longer than what came in: it says more and counts as full. Else prove '..UptoSaid'. A law counts once. -/
mutual
def uptoBulk {H : Type} : DataW H → Nat
  | .lit (.string bytes) => bytes.length + 1
  | .lit _ => 1
  | .nil => 1
  | .ptr d => uptoBulk d + 1
  | .slice elems spare => uptoBulkAll elems + uptoBulkAll spare + 1
  | .agg parts => uptoBulkAll parts + 1
  | .iface _ d => uptoBulk d + 1
  | .map entries => uptoBulkEntries entries + 1
  | .held _ => 1
def uptoBulkAll {H : Type} : List (DataW H) → Nat
  | [] => 0
  | d :: r => uptoBulk d + uptoBulkAll r
def uptoBulkEntries {H : Type} : List (Lit × DataW H) → Nat
  | [] => 0
  | x :: r => uptoBulkEntry x + uptoBulkEntries r
def uptoBulkEntry {H : Type} : Lit × DataW H → Nat
  | (.string bytes, d) => bytes.length + uptoBulk d + 1
  | (_, d) => uptoBulk d + 1
 end
def uptoSmall : (H : Type) → List (DataW H) → Bool := fun _ ds => decide (uptoBulkAll ds ≤ 1048576)
def OpenSpec.upto (s : _root_.Go.ChangeSpec) : _root_.Go.OpenSpec := { _root_.Go.OpenSpec.ofChange s with cond := some uptoSmall }

/-- 'tallyroomlaw09.DigestHashes', WHERE WHAT IT READS IS OF BULK AT MOST 1048576: true; the input reads as it did. -/
def digestHashesUptoRow : OpenClaim := { program := "ytjbnoioildbahaa", sum := "ae293b578465d90ae050110a0d7e47a7d7af08e7bf287aebc9c71d1c3f1daad3", func := "tallyroom/tallyroomlaw09.DigestHashes", spec := "digestHashes", apart := false, narrowed := true }
def DigestHashesUptoSaid : Prop := digestHashesUptoRow.holds Try.pinned (OpenSpec.upto digestHashesSpec)

/-- 'tallyroomlaw09.DigestPrefers', WHERE WHAT IT READS IS OF BULK AT MOST 1048576: true; the input reads as it did. -/
def digestPrefersUptoRow : OpenClaim := { program := "ytjbnoioildbahaa", sum := "ae293b578465d90ae050110a0d7e47a7d7af08e7bf287aebc9c71d1c3f1daad3", func := "tallyroom/tallyroomlaw09.DigestPrefers", spec := "digestPrefers", inPlace := ["internal/bytealg.abigen_runtime_cmpstring"], unfollowed := true, recurses := true, apart := false, narrowed := true }
def DigestPrefersUptoSaid : Prop := digestPrefersUptoRow.holds Try.pinned (OpenSpec.upto digestPrefersSpec)

/-- 'tallyroomlaw09.DigestShares', WHERE WHAT IT READS IS OF BULK AT MOST 1048576: true; the input reads as it did. -/
def digestSharesUptoRow : OpenClaim := { program := "ytjbnoioildbahaa", sum := "ae293b578465d90ae050110a0d7e47a7d7af08e7bf287aebc9c71d1c3f1daad3", func := "tallyroom/tallyroomlaw09.DigestShares", spec := "digestShares", apart := false, narrowed := true }
def DigestSharesUptoSaid : Prop := digestSharesUptoRow.holds Try.pinned (OpenSpec.upto digestSharesSpec)

/-- 'tallyroomlaw09.DigestTexts', WHERE WHAT IT READS IS OF BULK AT MOST 1048576: true; the input reads as it did. -/
def digestTextsUptoRow : OpenClaim := { program := "ytjbnoioildbahaa", sum := "ae293b578465d90ae050110a0d7e47a7d7af08e7bf287aebc9c71d1c3f1daad3", func := "tallyroom/tallyroomlaw09.DigestTexts", spec := "digestTexts", apart := false, narrowed := true }
def DigestTextsUptoSaid : Prop := digestTextsUptoRow.holds Try.pinned (OpenSpec.upto digestTextsSpec)

end Rows
end Go.Proofs.Ytjbnoioildbahaa
