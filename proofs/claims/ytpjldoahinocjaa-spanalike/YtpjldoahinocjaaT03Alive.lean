/-
  The chapter's example (alive), and calls by letters.
-/
import Derived.Test.YtpjldoahinocjaaT03Clean
namespace Go.Proofs.Ytpjldoahinocjaa.T03
open Go.RowKit Go.Lib

theorem key_at (s : ByteArray) (b : Bool) (w : World) (hb : key (ls s) = b) : Calls Try.prog 36 #[.string s] w fun e w' => e = .returned (.bool b) ∧ Below w.heap.size w w' := hb ▸ key_any s w
theorem clean_at (s x : ByteArray) (w : World) (hs : s.size ≤ 65536) (hx : str (clean (ls s)) = x) : Calls Try.prog 55 #[.string s] w fun e w' => e = .returned (.string x) ∧ Below w.heap.size w w' := hx ▸ clean_any s w hs
theorem cut_at (s x : ByteArray) (n : Int) (w : World) (hs : s.size ≤ 65536) (hx : str (cut (ls s) n) = x) : Calls Try.prog 54 #[.string s, .int .i64 n] w fun e w' => e = .returned (.string x) ∧ Below w.heap.size w w' := hx ▸ cut_any s n w hs
theorem label_at (s x : ByteArray) (n : Int) (w : World) (hs : s.size ≤ 65536) (hx : str (cut (clean (ls s)) n) = x) : Calls Try.prog 39 #[.string s, .int .i64 n] w fun e w' => e = .returned (.string x) ∧ Below w.heap.size w w' := hx ▸ label_any s n w hs

theorem below_next {w w1 w2 : World} (h1 : Below w.heap.size w w1) (h2 : Below w1.heap.size w1 w2) : Below w.heap.size w w2 := h1.trans (h2.mono h1.size)

end Go.Proofs.Ytpjldoahinocjaa.T03
