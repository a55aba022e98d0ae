/-
  The walk of TextTells.
-/
import Derived.Test.YtpjldoahinocjaaT03Alive
import Derived.Test.YtpjldoahinocjaaT03RefKey
namespace Go.Proofs.Ytpjldoahinocjaa.T03
open Go.RowKit Go.Lib

theorem refkey_at (s : ByteArray) (b : Bool) (w : World) (hs : s.size ≤ 65536) (hb : key (ls s) = b) : Calls Try.prog 25 #[.string s] w fun e w' => e = .returned (.bool b) ∧ w' = w := hb ▸ refkey_any s w hs
theorem refclean_at (s x : ByteArray) (w : World) (hs : s.size ≤ 65536) (hx : str (clean (ls s)) = x) : Calls Try.prog 45 #[.string s] w fun e w' => e = .returned (.string x) ∧ w' = w := hx ▸ refclean_any s w hs
theorem refcut_at (s x : ByteArray) (n : Int) (w : World) (hs : s.size ≤ 65536) (hx : str (cut (ls s) n) = x) : Calls Try.prog 44 #[.string s, .int .i64 n] w fun e w' => e = .returned (.string x) ∧ w' = w := hx ▸ refcut_any s n w hs

end Go.Proofs.Ytpjldoahinocjaa.T03
