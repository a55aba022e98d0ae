/-
  The walk of VarintGets: the number with which any bytes begin.
-/
import Derived.Test.YthahopogehfimaaV01Alive
import Derived.Test.YthahopogehfimaaV01RefGet
namespace Go.Proofs.Ythahopogehfimaa.V01
open Go.RowKit Go.Lib Go.Proofs.Ythahopogehfimaa.Wd

theorem refget_at (A : Option Addr) (c len : Nat) (l : List UInt8) (n k e : Nat) (w : World) (ha : Bs w A c l) (hlen : l.length = len) (hl : len ≤ 65536) (hg : getF 0 0 (nat8 l) = (n, k, e)) :
    Calls Try.prog 9 #[.slice A len c] w fun x w' => x = .returned (.tuple #[.int .u64 n, .int .i64 k, .int .i64 e]) ∧ Below w.heap.size w w' := by
  subst hlen
  have := refget_any A c l w ha hl
  rw [hg] at this
  exact this

set_option maxRecDepth 20000 in
set_option maxHeartbeats 2000000 in
theorem gets_law (A : Option Addr) (c : Nat) (l : List UInt8) (w : World) (ha : Bs w A c l) (hlm : l.length ≤ maxLen) :
    Calls Try.prog 3 #[.slice A l.length c] w fun e w' => e = .returned (.bool true) ∧ Below w.heap.size w w' := by
  unfold maxLen at hlm
  by_cases hl : l.length ≤ 100
  · go_enter Try.func3, Try.ntmps3
    go_wp2_with fail
    refine (alive_any _).mono ?_
    rintro e w1 ⟨rfl, hb1⟩
    have ha1 := ha.below hb1
    clear ha
    obtain ⟨n, k, f, hg⟩ : ∃ n k f, getF 0 0 (nat8 l) = (n, k, f) := ⟨_, _, _, rfl⟩
    have G := Lib.hid hg
    clear hg
    go_wp2_with fail
    refine (get_at A c _ l n k f _ ha1 rfl (by omega) G.out).mono ?_
    rintro e w2 ⟨rfl, rfl⟩
    go_wp2_with fail
    refine (refget_at A c _ l n k f _ ha1 rfl (by omega) G.out).mono ?_
    rintro e w2 ⟨rfl, hb2⟩
    have hb3 := hb1.trans (hb2.mono hb1.size)
    clear ha1 hb1 hb2
    go_wp2
    go_ret
    exact ⟨rfl, hb3⟩
  · have h1 : (100 : Int) < l.length := by omega
    go_enter Try.func3, Try.ntmps3
    go_wp2_with fail
    refine (alive_any _).mono ?_
    rintro e w1 ⟨rfl, hb1⟩
    go_wp2
    go_ret
    exact ⟨rfl, hb1⟩
end Go.Proofs.Ythahopogehfimaa.V01
