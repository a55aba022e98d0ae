/-
  The walk of SpanAlike.
-/
import Derived.Test.YtpjldoahinocjaaP06LawAlikeA
import Derived.Test.YtpjldoahinocjaaP06LawAlikeB
namespace Go.Proofs.Ytpjldoahinocjaa.P06
open Go.Shelf Go.RowKit Go.Lib Go.Sort Go.Proofs.Ytpjldoahinocjaa.Wd Go.Proofs.Ytpjldoahinocjaa.V04

theorem alike_law (s : Sp) (A : Option Addr) (c n : Nat) (l : List At) (a : Int) (w : World) (h : Ats w A c l) (hn : l.length = n) (a0 : 0 ≤ a) (a1 : a ≤ 255) :
    Calls Try.prog 5 #[spv s (.slice A n c), .int .u8 a] w fun e w' => e = .returned (.bool true) ∧ Below w.heap.size w w' := by
  obtain ⟨q, hq⟩ : ∃ q : Bool, q = true ↔ Amb l := by
    by_cases hA : Amb l
    · exact ⟨true, by simp [hA]⟩
    · exact ⟨false, by simp [hA]⟩
  rcases chk_vals s q with hr | hr
  · exact alike_lawA s A c n l a w h hn a0 a1 q hq _ rfl hr
  · exact alike_lawB s A c n l a w h hn a0 a1 q hq _ rfl hr
end Go.Proofs.Ytpjldoahinocjaa.P06
