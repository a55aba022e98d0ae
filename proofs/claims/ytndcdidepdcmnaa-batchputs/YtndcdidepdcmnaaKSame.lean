/-
  What the document's Bytes does (two slices hold the same bytes), in any seat that has it.
-/
import Derived.Test.YtndcdidepdcmnaaRows
import Derived.Test.YtndcdidepdcmnaaKWords
import Derived.WalkKit
import Derived.WalkSpells
import Derived.WalkLawsBesides
namespace Go.Proofs.Ytndcdidepdcmnaa.Wd
open Go.RowKit Go.Lib

theorem byte_info : (Try.prog.info? 5).map (fun i => (i.zero, i.size, i.bytes)) = some (some (.int .u8 0), 1, 1) := by kernel_rfl
theorem bytes_at (A B : Option Addr) (c d la lb : Nat) (l r : List UInt8) (b : Bool) (w : World) (ha : Bs w A c l) (hb : Bs w B d r) (hla : l.length = la) (hlb : r.length = lb) (he : (l == r) = b) :
    Calls Try.prog 12 #[.slice A la c, .slice B lb d] w fun e w' => e = .returned (.bool b) ∧ w = w' := by
  subst hla; subst hlb
  have h1 := ha.str (P := Try.prog) 25 9 5 Try.underlying25 Try.underlying5 Try.underlying9
  have h2 := hb.str (P := Try.prog) 25 9 5 Try.underlying25 Try.underlying5 Try.underlying9
  clear ha hb
  go_enter Try.func12, Try.ntmps12
  go_wp2
  go_ret
  subst he
  exact ⟨rfl, rfl⟩
end Go.Proofs.Ytndcdidepdcmnaa.Wd
