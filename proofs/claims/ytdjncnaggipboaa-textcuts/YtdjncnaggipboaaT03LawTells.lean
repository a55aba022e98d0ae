/-
  The walk of TextTells.
-/
import Derived.Test.YtdjncnaggipboaaT03Alive
import Derived.Test.YtdjncnaggipboaaT03RefKey
namespace Go.Proofs.Ytdjncnaggipboaa.T03
open Go.RowKit Go.Lib

theorem refright_at (s : ByteArray) (b : Bool) (w : World) (hs : s.size ≤ 65536) (hb : right (ls s) = b) : Calls Try.prog 9 #[.string s] w fun e w' => e = .returned (.bool b) ∧ w' = w := hb ▸ refright_any s w hs
theorem refkey_at (s : ByteArray) (b : Bool) (w : World) (hs : s.size ≤ 65536) (hb : key (ls s) = b) : Calls Try.prog 15 #[.string s] w fun e w' => e = .returned (.bool b) ∧ w' = w := hb ▸ refkey_any s w hs
theorem refcount_at (s : ByteArray) (n : Nat) (w : World) (hs : s.size ≤ 65536) (hn : count (ls s) = n) : Calls Try.prog 11 #[.string s] w fun e w' => e = .returned (.int .i64 (n : Nat)) ∧ w' = w := hn ▸ refcount_any s w hs
theorem refclean_at (s x : ByteArray) (w : World) (hs : s.size ≤ 65536) (hx : str (clean (ls s)) = x) : Calls Try.prog 13 #[.string s] w fun e w' => e = .returned (.string x) ∧ w' = w := hx ▸ refclean_any s w hs
theorem refcut_at (s x : ByteArray) (n : Int) (w : World) (hs : s.size ≤ 65536) (hx : str (cut (ls s) n) = x) : Calls Try.prog 17 #[.string s, .int .i64 n] w fun e w' => e = .returned (.string x) ∧ w' = w := hx ▸ refcut_any s n w hs

set_option maxRecDepth 20000 in
set_option maxHeartbeats 2000000 in
theorem tells_law (s : ByteArray) (w : World) : Calls Try.prog 3 #[.string s] w fun e w' => e = .returned (.bool true) ∧ Below w.heap.size w w' := by
  by_cases hl : (2000 : Int) < (s.size : Int)
  · go_enter Try.func3, Try.ntmps3
    go_wp2_with fail
    refine (alive_any _).mono ?_
    rintro x w1 ⟨rfl, hb1⟩
    go_wp2
    go_ret
    exact ⟨rfl, hb1⟩
  · have hs : s.size ≤ 65536 := by omega
    obtain ⟨b, hb⟩ : ∃ b, right (ls s) = b := ⟨_, rfl⟩
    obtain ⟨n, hn⟩ : ∃ n, count (ls s) = n := ⟨_, rfl⟩
    obtain ⟨X, hX⟩ : ∃ X, str (clean (ls s)) = X := ⟨_, rfl⟩
    obtain ⟨k, hk⟩ : ∃ k, key (ls s) = k := ⟨_, rfl⟩
    go_enter Try.func3, Try.ntmps3
    go_wp2_with fail
    refine (alive_any _).mono ?_
    rintro x w1 ⟨rfl, hb1⟩
    go_wp2_with fail
    refine (right_at s b _ hb).mono ?_
    rintro x w2 ⟨rfl, hb2⟩
    go_wp2_with fail
    refine (refright_at s b _ hs hb).mono ?_
    rintro x w3 ⟨rfl, rfl⟩
    go_wp2_with fail
    refine (count_at s n _ hs hn).mono ?_
    rintro x w3 ⟨rfl, hb3⟩
    go_wp2_with fail
    refine (refcount_at s n _ hs hn).mono ?_
    rintro x w4 ⟨rfl, rfl⟩
    go_wp2_with fail
    refine (clean_at s X _ hs hX).mono ?_
    rintro x w4 ⟨rfl, hb4⟩
    go_wp2_with fail
    refine (refclean_at s X _ hs hX).mono ?_
    rintro x w5 ⟨rfl, rfl⟩
    go_wp2_with fail
    refine (key_at s k _ hk).mono ?_
    rintro x w5 ⟨rfl, hb5⟩
    go_wp2_with fail
    refine (refkey_at s k _ hs hk).mono ?_
    rintro x w6 ⟨rfl, rfl⟩
    go_wp2
    go_ret
    exact ⟨rfl, below_next (below_next (below_next (below_next hb1 hb2) hb3) hb4) hb5⟩
end Go.Proofs.Ytdjncnaggipboaa.T03
