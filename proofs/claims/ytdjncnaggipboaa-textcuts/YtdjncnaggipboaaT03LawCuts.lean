/-
  The walk of TextCuts.
-/
import Derived.Test.YtdjncnaggipboaaT03LawTells
namespace Go.Proofs.Ytdjncnaggipboaa.T03
open Go.RowKit Go.Lib

set_option maxRecDepth 20000 in
set_option maxHeartbeats 2000000 in
theorem cuts_law (s : ByteArray) (n : Int) (w : World) : Calls Try.prog 4 #[.string s, .int .i64 n] w fun e w' => e = .returned (.bool true) ∧ Below w.heap.size w w' := by
  by_cases hl : (2000 : Int) < (s.size : Int)
  · go_enter Try.func4, Try.ntmps4
    go_wp2_with fail
    refine (alive_any _).mono ?_
    rintro x w1 ⟨rfl, hb1⟩
    go_wp2
    go_ret
    exact ⟨rfl, hb1⟩
  · have hs : s.size ≤ 65536 := by omega
    obtain ⟨X, hX⟩ : ∃ X, str (cut (ls s) n) = X := ⟨_, rfl⟩
    obtain ⟨C, hC⟩ : ∃ C, str (clean (ls s)) = C := ⟨_, rfl⟩
    have hCl : ls C = clean (ls s) := by rw [← hC]
    have hCs : C.size ≤ 65536 := by
      have := clean_le (ls s)
      rw [ls_len] at this
      rw [← hC, str_size]
      omega
    obtain ⟨L, hL⟩ : ∃ L, str (cut (clean (ls s)) n) = L := ⟨_, rfl⟩
    have hL2 : str (cut (ls C) n) = L := by rw [hCl]; exact hL
    have HX := Lib.hid hX
    have HC := Lib.hid hC
    have HL := Lib.hid hL
    have HL2 := Lib.hid hL2
    clear hX hC hCl hL hL2
    go_enter Try.func4, Try.ntmps4
    go_wp2_with fail
    refine (alive_any _).mono ?_
    rintro x w1 ⟨rfl, hb1⟩
    go_wp2_with fail
    refine (cut_at s X n _ hs (un HX)).mono ?_
    rintro x w2 ⟨rfl, hb2⟩
    go_wp2_with fail
    refine (refcut_at s X n _ hs (un HX)).mono ?_
    rintro x w3 ⟨rfl, rfl⟩
    go_wp2_with fail
    refine (label_at s L n _ hs (un HL)).mono ?_
    rintro x w3 ⟨rfl, hb3⟩
    go_wp2_with fail
    refine (refclean_at s C _ hs (un HC)).mono ?_
    rintro x w4 ⟨rfl, rfl⟩
    go_wp2_with fail
    refine (refcut_at C L n _ hCs (un HL2)).mono ?_
    rintro x w5 ⟨rfl, rfl⟩
    go_wp2
    go_ret
    exact ⟨rfl, below_next (below_next hb1 hb2) hb3⟩
end Go.Proofs.Ytdjncnaggipboaa.T03
