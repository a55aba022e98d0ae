/-
  No cell of these rows narrows 'for every input' (looked for: loops, veiled, ifaces, maps, wideKeys, modest, calm, conditions, laid).
  DERIVED. THE GIVEN ROWS OF THIS SEAT. 5 by the template 'for every input the law returns true; each argument reads behind the call as it read before'; 0 by the template 'total and deterministic' (their statements: YtmonjlnmkkdnfaaTotals.lean).
  GIVEN WITH THE SEED: the statements are not yours to turn. If you find one false, say at which input.
  Laid BY PROGRAM, IN A SANDBOX (cutbox-rows.mjs): the forced cells as the released guide's own fill.sh prints them over the translation 1ab345e5cd6707ef… (all of the seat's roots in one cut). By AI agents, Wed Nov 11 2026. No macro, syntax, notation, axiom, sorry.
-/
import Derived.Test.YtmonjlnmkkdnfaaChecked
import GoSem.Claim
import GoSem.ClaimJoined
import GoSem.ClaimMapViews
import Derived.JoinedTies
import Derived.KernelRfl
namespace Go.Proofs.Ytmonjlnmkkdnfaa
/- THE CELL 'sum', in the pinned program and in every row, IS THE sha256 OF THE DUMP (.gsa) THAT YtmonjlnmkkdnfaaProg.lean LOADS. Nothing in Lean hashes anything: it is a label: what it is worth is what the hold of that sum in a sandbox is worth. -/
noncomputable def Try.pinned : Pinned := { name := "ytmonjlnmkkdnfaa", sum := "1ab345e5cd6707efa05b8cc9ca5ca03fbceea77e755c602b3b442e67c8a5340e", checked := Try.checked }
namespace Rows
def none {H : Type} : Left H := { results := [], args := [] }

/-- 'tallyroomlaw13.WmarkPlays': WHATEVER THE INPUT: true; the input reads as it did. -/
def wmarkPlaysSpec : ChangeSpec := { name := "wmarkPlays", fn := fun _ => fun
  | [d1, d2, d3, d4] => { results := [.lit (.bool true)], args := [d1, d2, d3, d4] }
  | _ => none }
def wmarkPlaysRow : OpenClaim := { program := "ytmonjlnmkkdnfaa", sum := "1ab345e5cd6707efa05b8cc9ca5ca03fbceea77e755c602b3b442e67c8a5340e", func := "tallyroom/tallyroomlaw13.WmarkPlays", spec := "wmarkPlays", apart := false }
def WmarkPlaysSaid : Prop := wmarkPlaysRow.holds Try.pinned (OpenSpec.ofChange wmarkPlaysSpec)

/-- ITS FALSE NEIGHBOUR: 'it returns false'. Refute it at one input. -/
def wmarkPlaysWrong : ChangeSpec := { name := "wmarkPlays", fn := fun _ => fun
  | [d1, d2, d3, d4] => { results := [.lit (.bool false)], args := [d1, d2, d3, d4] }
  | _ => none }
def WmarkPlaysWrongFalsely : Prop := wmarkPlaysRow.holds Try.pinned (OpenSpec.ofChange wmarkPlaysWrong)

/-- 'tallyroomlaw13.WmarkRises': WHATEVER THE INPUT: true; the input reads as it did. -/
def wmarkRisesSpec : ChangeSpec := { name := "wmarkRises", fn := fun _ => fun
  | [d1, d2, d3, d4] => { results := [.lit (.bool true)], args := [d1, d2, d3, d4] }
  | _ => none }
def wmarkRisesRow : OpenClaim := { program := "ytmonjlnmkkdnfaa", sum := "1ab345e5cd6707efa05b8cc9ca5ca03fbceea77e755c602b3b442e67c8a5340e", func := "tallyroom/tallyroomlaw13.WmarkRises", spec := "wmarkRises", apart := false }
def WmarkRisesSaid : Prop := wmarkRisesRow.holds Try.pinned (OpenSpec.ofChange wmarkRisesSpec)

/-- ITS FALSE NEIGHBOUR: 'it returns false'. Refute it at one input. -/
def wmarkRisesWrong : ChangeSpec := { name := "wmarkRises", fn := fun _ => fun
  | [d1, d2, d3, d4] => { results := [.lit (.bool false)], args := [d1, d2, d3, d4] }
  | _ => none }
def WmarkRisesWrongFalsely : Prop := wmarkRisesRow.holds Try.pinned (OpenSpec.ofChange wmarkRisesWrong)

/-- 'tallyroomlaw13.WmarkNil': WHATEVER THE INPUT: true; the input reads as it did. -/
def wmarkNilSpec : ChangeSpec := { name := "wmarkNil", fn := fun _ => fun
  | [d1, d2] => { results := [.lit (.bool true)], args := [d1, d2] }
  | _ => none }
def wmarkNilRow : OpenClaim := { program := "ytmonjlnmkkdnfaa", sum := "1ab345e5cd6707efa05b8cc9ca5ca03fbceea77e755c602b3b442e67c8a5340e", func := "tallyroom/tallyroomlaw13.WmarkNil", spec := "wmarkNil", apart := false }
def WmarkNilSaid : Prop := wmarkNilRow.holds Try.pinned (OpenSpec.ofChange wmarkNilSpec)

/-- ITS FALSE NEIGHBOUR: 'it returns false'. Refute it at one input. -/
def wmarkNilWrong : ChangeSpec := { name := "wmarkNil", fn := fun _ => fun
  | [d1, d2] => { results := [.lit (.bool false)], args := [d1, d2] }
  | _ => none }
def WmarkNilWrongFalsely : Prop := wmarkNilRow.holds Try.pinned (OpenSpec.ofChange wmarkNilWrong)

/-- 'tallyroomlaw13.WmarkOrder': WHATEVER THE INPUT: true; the input reads as it did. -/
def wmarkOrderSpec : ChangeSpec := { name := "wmarkOrder", fn := fun _ => fun
  | [d1, d2, d3, d4, d5] => { results := [.lit (.bool true)], args := [d1, d2, d3, d4, d5] }
  | _ => none }
def wmarkOrderRow : OpenClaim := { program := "ytmonjlnmkkdnfaa", sum := "1ab345e5cd6707efa05b8cc9ca5ca03fbceea77e755c602b3b442e67c8a5340e", func := "tallyroom/tallyroomlaw13.WmarkOrder", spec := "wmarkOrder", apart := false }
def WmarkOrderSaid : Prop := wmarkOrderRow.holds Try.pinned (OpenSpec.ofChange wmarkOrderSpec)

/-- ITS FALSE NEIGHBOUR: 'it returns false'. Refute it at one input. -/
def wmarkOrderWrong : ChangeSpec := { name := "wmarkOrder", fn := fun _ => fun
  | [d1, d2, d3, d4, d5] => { results := [.lit (.bool false)], args := [d1, d2, d3, d4, d5] }
  | _ => none }
def WmarkOrderWrongFalsely : Prop := wmarkOrderRow.holds Try.pinned (OpenSpec.ofChange wmarkOrderWrong)

/-- 'tallyroomlaw13.WmarkIdle': WHATEVER THE INPUT: true; the input reads as it did. -/
def wmarkIdleSpec : ChangeSpec := { name := "wmarkIdle", fn := fun _ => fun
  | [d1, d2, d3] => { results := [.lit (.bool true)], args := [d1, d2, d3] }
  | _ => none }
def wmarkIdleRow : OpenClaim := { program := "ytmonjlnmkkdnfaa", sum := "1ab345e5cd6707efa05b8cc9ca5ca03fbceea77e755c602b3b442e67c8a5340e", func := "tallyroom/tallyroomlaw13.WmarkIdle", spec := "wmarkIdle", apart := false }
def WmarkIdleSaid : Prop := wmarkIdleRow.holds Try.pinned (OpenSpec.ofChange wmarkIdleSpec)

/-- ITS FALSE NEIGHBOUR: 'it returns false'. Refute it at one input. -/
def wmarkIdleWrong : ChangeSpec := { name := "wmarkIdle", fn := fun _ => fun
  | [d1, d2, d3] => { results := [.lit (.bool false)], args := [d1, d2, d3] }
  | _ => none }
def WmarkIdleWrongFalsely : Prop := wmarkIdleRow.holds Try.pinned (OpenSpec.ofChange wmarkIdleWrong)

/- THE SECOND FORM. 'bulk': how many values and letters a reading holds, each counted each time it is reached (what is shared counts as often as it is met; a slice's spare places count too). A statement '..UptoSaid' is the law's where the arguments, and the package variables that the reading takes, are together of bulk at most 1048576: NARROWER than '..Said'. Prove '..Said' where nothing that the law and all that it calls make is longer than what came in: it says more and counts as full. Else prove '..UptoSaid'. A law counts once. -/
mutual
def uptoBulk {H : Type} : DataW H → Nat
  | .lit (.string bytes) => bytes.length + 1
  | .lit _ => 1
  | .nil => 1
  | .ptr d => uptoBulk d + 1
  | .slice elems spare => uptoBulkAll elems + uptoBulkAll spare + 1
  | .agg parts => uptoBulkAll parts + 1
  | .iface _ d => uptoBulk d + 1
  | .map entries => uptoBulkEntries entries + 1
  | .held _ => 1
def uptoBulkAll {H : Type} : List (DataW H) → Nat
  | [] => 0
  | d :: r => uptoBulk d + uptoBulkAll r
def uptoBulkEntries {H : Type} : List (Lit × DataW H) → Nat
  | [] => 0
  | x :: r => uptoBulkEntry x + uptoBulkEntries r
def uptoBulkEntry {H : Type} : Lit × DataW H → Nat
  | (.string bytes, d) => bytes.length + uptoBulk d + 1
  | (_, d) => uptoBulk d + 1
 end
def uptoSmall : (H : Type) → List (DataW H) → Bool := fun _ ds => decide (uptoBulkAll ds ≤ 1048576)
def OpenSpec.upto (s : _root_.Go.ChangeSpec) : _root_.Go.OpenSpec := { _root_.Go.OpenSpec.ofChange s with cond := some uptoSmall }

/-- 'tallyroomlaw13.WmarkPlays', WHERE WHAT IT READS IS OF BULK AT MOST 1048576: true; the input reads as it did. -/
def wmarkPlaysUptoRow : OpenClaim := { program := "ytmonjlnmkkdnfaa", sum := "1ab345e5cd6707efa05b8cc9ca5ca03fbceea77e755c602b3b442e67c8a5340e", func := "tallyroom/tallyroomlaw13.WmarkPlays", spec := "wmarkPlays", apart := false, narrowed := true }
def WmarkPlaysUptoSaid : Prop := wmarkPlaysUptoRow.holds Try.pinned (OpenSpec.upto wmarkPlaysSpec)

/-- 'tallyroomlaw13.WmarkRises', WHERE WHAT IT READS IS OF BULK AT MOST 1048576: true; the input reads as it did. -/
def wmarkRisesUptoRow : OpenClaim := { program := "ytmonjlnmkkdnfaa", sum := "1ab345e5cd6707efa05b8cc9ca5ca03fbceea77e755c602b3b442e67c8a5340e", func := "tallyroom/tallyroomlaw13.WmarkRises", spec := "wmarkRises", apart := false, narrowed := true }
def WmarkRisesUptoSaid : Prop := wmarkRisesUptoRow.holds Try.pinned (OpenSpec.upto wmarkRisesSpec)

/-- 'tallyroomlaw13.WmarkNil', WHERE WHAT IT READS IS OF BULK AT MOST 1048576: true; the input reads as it did. -/
def wmarkNilUptoRow : OpenClaim := { program := "ytmonjlnmkkdnfaa", sum := "1ab345e5cd6707efa05b8cc9ca5ca03fbceea77e755c602b3b442e67c8a5340e", func := "tallyroom/tallyroomlaw13.WmarkNil", spec := "wmarkNil", apart := false, narrowed := true }
def WmarkNilUptoSaid : Prop := wmarkNilUptoRow.holds Try.pinned (OpenSpec.upto wmarkNilSpec)

/-- 'tallyroomlaw13.WmarkOrder', WHERE WHAT IT READS IS OF BULK AT MOST 1048576: true; the input reads as it did. -/
def wmarkOrderUptoRow : OpenClaim := { program := "ytmonjlnmkkdnfaa", sum := "1ab345e5cd6707efa05b8cc9ca5ca03fbceea77e755c602b3b442e67c8a5340e", func := "tallyroom/tallyroomlaw13.WmarkOrder", spec := "wmarkOrder", apart := false, narrowed := true }
def WmarkOrderUptoSaid : Prop := wmarkOrderUptoRow.holds Try.pinned (OpenSpec.upto wmarkOrderSpec)

/-- 'tallyroomlaw13.WmarkIdle', WHERE WHAT IT READS IS OF BULK AT MOST 1048576: true; the input reads as it did. -/
def wmarkIdleUptoRow : OpenClaim := { program := "ytmonjlnmkkdnfaa", sum := "1ab345e5cd6707efa05b8cc9ca5ca03fbceea77e755c602b3b442e67c8a5340e", func := "tallyroom/tallyroomlaw13.WmarkIdle", spec := "wmarkIdle", apart := false, narrowed := true }
def WmarkIdleUptoSaid : Prop := wmarkIdleUptoRow.holds Try.pinned (OpenSpec.upto wmarkIdleSpec)

end Rows
end Go.Proofs.Ytmonjlnmkkdnfaa
