/-
  What the document's Bytes does (two slices hold the same bytes), in any seat that has it.
-/
import Derived.Test.YtghdojiffooilaaDoorRows
import Derived.Test.YtghdojiffooilaaDoorWords
import Derived.WalkKit
import Derived.WalkSpells
import Derived.WalkLawsBesides
namespace Go.Proofs.YtghdojiffooilaaDoor.Wd
open Go.RowKit Go.Lib

theorem byte_info : (Tryd.prog.info? 5).map (fun i => (i.zero, i.size, i.bytes)) = some (some (.int .u8 0), 1, 1) := by kernel_rfl
theorem bytes_at (A B : Option Addr) (c d la lb : Nat) (l r : List UInt8) (b : Bool) (w : World) (ha : Bs w A c l) (hb : Bs w B d r) (hla : l.length = la) (hlb : r.length = lb) (he : (l == r) = b) :
    Calls Tryd.prog 11 #[.slice A la c, .slice B lb d] w fun e w' => e = .returned (.bool b) ∧ w = w' := by
  subst hla; subst hlb
  have h1 := ha.str (P := Tryd.prog) 22 9 5 Tryd.underlying22 Tryd.underlying5 Tryd.underlying9
  have h2 := hb.str (P := Tryd.prog) 22 9 5 Tryd.underlying22 Tryd.underlying5 Tryd.underlying9
  clear ha hb
  go_enter Tryd.func11, Tryd.ntmps11
  go_wp2
  go_ret
  subst he
  exact ⟨rfl, rfl⟩
end Go.Proofs.YtghdojiffooilaaDoor.Wd
