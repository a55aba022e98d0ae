/-
  The chapter's example (alive), and calls by letters.
-/
import Derived.Test.YtdjncnaggipboaaT03Clean
namespace Go.Proofs.Ytdjncnaggipboaa.T03
open Go.RowKit Go.Lib

theorem right_at (s : ByteArray) (b : Bool) (w : World) (hb : right (ls s) = b) : Calls Try.prog 8 #[.string s] w fun e w' => e = .returned (.bool b) ∧ Below w.heap.size w w' := hb ▸ right_any s w
theorem key_at (s : ByteArray) (b : Bool) (w : World) (hb : key (ls s) = b) : Calls Try.prog 14 #[.string s] w fun e w' => e = .returned (.bool b) ∧ Below w.heap.size w w' := hb ▸ key_any s w
theorem count_at (s : ByteArray) (n : Nat) (w : World) (hs : s.size ≤ 65536) (hn : count (ls s) = n) : Calls Try.prog 10 #[.string s] w fun e w' => e = .returned (.int .i64 (n : Nat)) ∧ Below w.heap.size w w' := hn ▸ count_any s w hs
theorem clean_at (s x : ByteArray) (w : World) (hs : s.size ≤ 65536) (hx : str (clean (ls s)) = x) : Calls Try.prog 12 #[.string s] w fun e w' => e = .returned (.string x) ∧ Below w.heap.size w w' := hx ▸ clean_any s w hs
theorem cut_at (s x : ByteArray) (n : Int) (w : World) (hs : s.size ≤ 65536) (hx : str (cut (ls s) n) = x) : Calls Try.prog 16 #[.string s, .int .i64 n] w fun e w' => e = .returned (.string x) ∧ Below w.heap.size w w' := hx ▸ cut_any s n w hs
theorem label_at (s x : ByteArray) (n : Int) (w : World) (hs : s.size ≤ 65536) (hx : str (cut (clean (ls s)) n) = x) : Calls Try.prog 18 #[.string s, .int .i64 n] w fun e w' => e = .returned (.string x) ∧ Below w.heap.size w w' := hx ▸ label_any s n w hs

theorem below_next {w w1 w2 : World} (h1 : Below w.heap.size w w1) (h2 : Below w1.heap.size w1 w2) : Below w.heap.size w w2 := h1.trans (h2.mono h1.size)

set_option maxRecDepth 20000 in
set_option maxHeartbeats 1000000 in
theorem alive_any (w : World) : Calls Try.prog 7 #[] w fun e w' => e = .returned (.bool true) ∧ Below w.heap.size w w' := by
  go_enter Try.func7, Try.ntmps7
  go_wp2_with fail
  refine (clean_at _ ⟨#[97, 95, 195, 169, 95]⟩ _ (by decide) (by decide)).mono ?_
  rintro e w1 ⟨rfl, hb1⟩
  go_wp2_with fail
  refine (cut_at _ ⟨#[97]⟩ 2 _ (by decide) (by decide)).mono ?_
  rintro e w2 ⟨rfl, hb2⟩
  go_wp2_with fail
  refine (right_at _ true _ (by decide)).mono ?_
  rintro e w3 ⟨rfl, hb3⟩
  go_wp2_with fail
  refine (right_at _ false _ (by decide)).mono ?_
  rintro e w4 ⟨rfl, hb4⟩
  go_wp2_with fail
  refine (key_at _ true _ (by decide)).mono ?_
  rintro e w5 ⟨rfl, hb5⟩
  go_wp2_with fail
  refine (key_at _ false _ (by decide)).mono ?_
  rintro e w6 ⟨rfl, hb6⟩
  go_wp2
  go_ret
  exact ⟨rfl, below_next (below_next (below_next (below_next (below_next hb1 hb2) hb3) hb4) hb5) hb6⟩
end Go.Proofs.Ytdjncnaggipboaa.T03
