/-
  The contracts of varint's Put and Get with their numbers as letters, for the layers above.
-/
import Derived.Test.YtghdojiffooilaaDoorV01Get
import Derived.Test.YtghdojiffooilaaDoorV01Back
namespace Go.Proofs.YtghdojiffooilaaDoor.V01
open Go.RowKit Go.Lib Go.Proofs.YtghdojiffooilaaDoor.Wd

theorem put_at (A : Option Addr) (c len : Nat) (N : Int) (l r : List UInt8) (n : Nat) (w : World) (ha : Bs w A c l) (hlen : l.length = len) (hN : N = (n : Int)) (hr : l ++ vby n = r) (hl : len ≤ 65536) (hn : N ≤ 18446744073709551615) :
    Calls Tryd.prog 19 #[.slice A len c, .int .u64 N] w fun e w' =>
      ∃ A' c', e = .returned (.slice A' r.length c') ∧ w'.ownsRow w.heap.size 5 1 (.slice A' r.length c') r.length (byteCells r) ∧ Below w.heap.size w w' := by
  subst hlen; subst hN; subst hr
  exact put_any A c l n w ha hl hn
theorem get_at (A : Option Addr) (c len : Nat) (l : List UInt8) (n k e : Nat) (w : World) (ha : Bs w A c l) (hlen : l.length = len) (hl : len ≤ 65536) (hg : getF 0 0 (nat8 l) = (n, k, e)) :
    Calls Tryd.prog 14 #[.slice A len c] w fun x w' => x = .returned (.tuple #[.int .u64 n, .int .i64 k, .int .i64 e]) ∧ w = w' := by
  subst hlen
  have := get_any A c l w ha hl
  rw [hg] at this
  exact this
end Go.Proofs.YtghdojiffooilaaDoor.V01
