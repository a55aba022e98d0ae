/-
  The walk of TextClean.
-/
import Derived.Test.YtdjncnaggipboaaT03Alive
import Derived.Deep.RegionHeld3
import Derived.Deep.QuietTactic
import Derived.BigQuiet
namespace Go.Proofs.Ytdjncnaggipboaa.T03
open Go.RowKit Go.Lib

theorem below_drewN {B : Nat} {a w : World} (h : Below B a w) (n : Nat) : Below B a (w.drewN n) := ⟨h.os, h.tape, h.output, h.size, h.block⟩

set_option maxRecDepth 20000 in
set_option maxHeartbeats 4000000 in
theorem clean_law (s : ByteArray) (n : Int) (w : World) (hn0 : 0 ≤ n) (hn1 : n ≤ 255) : Calls Try.prog 5 #[.string s, .int .u8 n] w fun e w' => e = .returned (.bool true) ∧ Below w.heap.size w w' := by
  by_cases hl : (2000 : Int) < (s.size : Int)
  · go_enter Try.func5, Try.ntmps5
    go_wp2_with fail
    refine (alive_any _).mono ?_
    rintro x w1 ⟨rfl, hb1⟩
    go_wp2
    go_ret
    exact ⟨rfl, hb1⟩
  · have hs : s.size ≤ 65536 := by omega
    obtain ⟨C, hC⟩ : ∃ C, str (clean (ls s)) = C := ⟨_, rfl⟩
    have hCl : ls C = clean (ls s) := by rw [← hC]
    have hCs : C.size ≤ 65536 := by
      have := clean_le (ls s)
      rw [ls_len] at this
      rw [← hC, str_size]
      omega
    have hCr : right (ls C) = true := by rw [hCl]; exact clean_right _
    have hCC : str (clean (ls C)) = C := by rw [hCl, clean_clean]; exact hC
    obtain ⟨k, hk⟩ : ∃ k, count (ls s) = k := ⟨_, rfl⟩
    have hCk : count (ls C) = k := by rw [hCl, clean_count]; exact hk
    obtain ⟨X, hX⟩ : ∃ X, str (cut (ls s) n) = X := ⟨_, rfl⟩
    have hXl : ls X = cut (ls s) n := by rw [← hX]
    have hXlen : X.size = (cut (ls s) n).length := by rw [← hX, str_size]
    obtain ⟨j, h1, h2, h3, h4, h5⟩ := cut_told (ls s) n
    have hXn : (X.size : Int) ≤ n := by rw [hXlen]; exact h5 hn0
    have hXs : X.size ≤ s.size := by
      have := cut_le (ls s) n
      rw [ls_len] at this
      omega
    have hXX : str (cut (ls X) n) = X := by rw [hXl, h4]; exact hX
    have hpre : s.extract 0 X.size = X := by rw [ext_str, hXlen, cut_pre]; exact hX
    obtain ⟨b, hb⟩ : ∃ b, right (ls s) = b := ⟨_, rfl⟩
    have hXr : b = true → right (ls X) = true := by
      intro e
      rw [hXl]
      exact cut_right _ _ (by rw [hb]; exact e)
    obtain ⟨k1, hk1⟩ : ∃ k1, count (ls X) = k1 := ⟨_, rfl⟩
    obtain ⟨Y, hY⟩ : ∃ Y, s.extract X.size s.size = Y := ⟨_, rfl⟩
    have hYl : ls Y = (ls s).drop X.size := by rw [← hY]; exact ext_ls s _
    have hYs : Y.size ≤ 65536 := by
      rw [← ls_len, hYl, List.length_drop, ls_len]
      omega
    obtain ⟨k2, hk2⟩ : ∃ k2, count (ls Y) = k2 := ⟨_, rfl⟩
    have hsum : k1 + k2 = k := by
      rw [← hk1, ← hk2, ← hk, hXl, hYl, hXlen]
      exact cut_count _ _
    have hkk : k ≤ 65536 := by
      have := count_le (ls s)
      rw [ls_len] at this
      omega
    have HC := Lib.hid hC
    have HCr := Lib.hid hCr
    have HCC := Lib.hid hCC
    have HK := Lib.hid hk
    have HCk := Lib.hid hCk
    have HX := Lib.hid hX
    have HXX := Lib.hid hXX
    have HB := Lib.hid hb
    have HXr := Lib.hid hXr
    have HK1 := Lib.hid hk1
    have HK2 := Lib.hid hk2
    have HS := Lib.hid hsum
    have hw1 : IntKind.wrap .i64 n = n := wrap_small _ (by omega) (by omega)
    have p1 : ¬ (n < (X.size : Int)) := by omega
    have p2 : ¬ ((s.size : Int) < (X.size : Int)) := by omega
    have p3 : (0 : Int) ≤ (X.size : Int) := by omega
    have p4 : (X.size : Int) ≤ (s.size : Int) := by omega
    have hw2 : IntKind.wrap .i64 ((k1 : Int) + (k2 : Int)) = (k : Int) := by rw [wrap_small _ (by omega) (by omega)]; omega
    clear hC hCl hCr hCC hk hCk hX hXl hXlen h1 h2 h3 h4 h5 hXX hb hXr hk1 hYl hk2 hsum
    have hXs' : X.size ≤ 65536 := by omega
    go_enter Try.func5, Try.ntmps5
    go_wp2_with fail
    refine (alive_any _).mono ?_
    rintro x w1 ⟨rfl, hb1⟩
    go_wp2_with fail
    refine (clean_at s C _ hs (un HC)).mono ?_
    rintro x w2 ⟨rfl, hb2⟩
    go_wp2_with fail
    refine (right_at C true _ (un HCr)).mono ?_
    rintro x w3 ⟨rfl, hb3⟩
    go_wp2_with fail
    refine (clean_at C C _ hCs (un HCC)).mono ?_
    rintro x w4 ⟨rfl, hb4⟩
    go_wp2_with fail
    refine (count_at C k _ hCs (un HCk)).mono ?_
    rintro x w5 ⟨rfl, hb5⟩
    go_wp2_with fail
    refine (count_at s k _ hs (un HK)).mono ?_
    rintro x w6 ⟨rfl, hb6⟩
    go_wp2_with fail
    refine (cut_at s X n _ hs (un HX)).mono ?_
    rintro x w7 ⟨rfl, hb7⟩
    have hb7' := below_next (below_next (below_next (below_next (below_next (below_next hb1 hb2) hb3) hb4) hb5) hb6) hb7
    clear hb1 hb2 hb3 hb4 hb5 hb6 hb7
    go_wp2_with fail
    refine (right_at s b _ (un HB)).mono ?_
    rintro x w8 ⟨rfl, hb8⟩
    have hb8' := below_next hb7' hb8
    clear hb8 hb7'
    cases b with
    | false =>
      go_wp2_with fail
      refine (cut_at X X n _ hXs' (un HXX)).mono ?_
      rintro x w9 ⟨rfl, hb9⟩
      have hb9' := below_next hb8' hb9
      clear hb9 hb8'
      by_cases heq : X.size = s.size
      · have e1 : ((X.size : Int) == (s.size : Int)) = true := by simp [heq]
        have HE := Lib.hid heq
        clear heq
        go_wp2_with fail
        go_quiet (fail)
        go_wp2
        go_ret
        exact ⟨rfl, below_drewN hb9' _⟩
      · have e1 : ((X.size : Int) == (s.size : Int)) = false := beq_false_of_ne (by omega)
        go_wp2_with fail
        go_region_held3 (fun _ => True) (exact trivial) (first
          | (go_at_call 10; (with_reducible refine (count_at X k1 _ hXs' (un HK1)).mono ?_); rintro x wA ⟨rfl, hbA⟩)
          | (go_at_call 10; (with_reducible refine (count_at Y k2 _ hYs (un HK2)).mono ?_); rintro x wB ⟨rfl, hbB⟩)
          | (go_at_call 10; (with_reducible refine (count_at s k _ hs (un HK)).mono ?_); rintro x wC ⟨rfl, hbC⟩))
        go_wp2
        go_ret
        exact ⟨rfl, below_next (below_next (below_next hb9'.drew hbA) hbB) hbC⟩
    | true =>
      have hxr : right (ls X) = true := un HXr (by simp)
      have HXR := Lib.hid hxr
      clear hxr
      go_wp2_with fail
      refine (right_at X true _ (un HXR)).mono ?_
      rintro x w10 ⟨rfl, hb10⟩
      have hb10' := below_next hb8' hb10
      clear hb10 hb8'
      have hb8' := hb10'
      clear hb10'
      go_wp2_with fail
      refine (cut_at X X n _ hXs' (un HXX)).mono ?_
      rintro x w9 ⟨rfl, hb9⟩
      have hb9' := below_next hb8' hb9
      clear hb9 hb8'
      by_cases heq : X.size = s.size
      · have e1 : ((X.size : Int) == (s.size : Int)) = true := by simp [heq]
        have HE := Lib.hid heq
        clear heq
        go_wp2_with fail
        go_quiet (fail)
        go_wp2
        go_ret
        exact ⟨rfl, below_drewN hb9' _⟩
      · have e1 : ((X.size : Int) == (s.size : Int)) = false := beq_false_of_ne (by omega)
        go_wp2_with fail
        go_region_held3 (fun _ => True) (exact trivial) (first
          | (go_at_call 10; (with_reducible refine (count_at X k1 _ hXs' (un HK1)).mono ?_); rintro x wA ⟨rfl, hbA⟩)
          | (go_at_call 10; (with_reducible refine (count_at Y k2 _ hYs (un HK2)).mono ?_); rintro x wB ⟨rfl, hbB⟩)
          | (go_at_call 10; (with_reducible refine (count_at s k _ hs (un HK)).mono ?_); rintro x wC ⟨rfl, hbC⟩))
        go_wp2
        go_ret
        exact ⟨rfl, below_next (below_next (below_next hb9'.drew hbA) hbB) hbC⟩
end Go.Proofs.Ytdjncnaggipboaa.T03
