/-
  The walk of VarintPuts: the bytes of any number behind any others, and how many they are.
-/
import Derived.Test.YthahopogehfimaaV01Alive
import Derived.Test.YthahopogehfimaaV01RefPut
namespace Go.Proofs.Ythahopogehfimaa.V01
open Go.RowKit Go.Lib Go.Proofs.Ythahopogehfimaa.Wd

set_option maxRecDepth 20000 in
set_option maxHeartbeats 2000000 in
theorem puts_law (n : Nat) (z : Int) (A : Option Addr) (c : Nat) (l : List UInt8) (w : World) (hn : (n : Int) ≤ 18446744073709551615)
    (hz1 : -9223372036854775808 ≤ z) (hz2 : z ≤ 9223372036854775807) (ha : Bs w A c l) (hlm : l.length ≤ maxLen) :
    Calls Try.prog 4 #[.slice A l.length c, .int .u64 n, .int .i64 z] w fun e w' => e = .returned (.bool true) ∧ Below w.heap.size w w' := by
  obtain ⟨i0, hi, hq0, hq1, hq2⟩ := info_parts byte_info
  unfold maxLen at hlm
  by_cases hl : l.length ≤ 100
  · go_enter Try.func4, Try.ntmps4
    go_wp2_with fail
    refine (alive_any _).mono ?_
    rintro e w1 ⟨rfl, hb1⟩
    have ha1 := ha.below hb1
    clear ha
    have hvn : (vby n).length ≤ 10 := by rw [vby_len]; exact vsize_le n
    have hb0 : Below w1.heap.size w1 (w1.alloc (.cells #[] 5)) := (Below.refl _ _).alloc (Nat.le_refl _) _
    go_wp2_with (at_builtin; refine wpList_append_rd _ rfl (.tmp 15) (.tmp 16) 22 rfl w1.heap.size 5 i0 _ 1 1 Try.underlying22 hi hq0 hq1 hq2 rfl (by decide) _ 0 [] rfl (own_empty w1 5) A _ c (byteCells l) rfl (ha1.below hb0) (bc_one _) ?d1 ?d2 ?d3 ?_)
    case d1 => unfold maxLen; omega
    case d2 => omega
    case d3 => simp
    intro A2 c2 w2 hown2 hg2
    have hb2 : Below w1.heap.size w1 w2 := hb0.grown hg2 (by simp) (by simp [Value.ownBlock])
    have hown2' : w2.ownsRow w1.heap.size 5 1 (.slice A2 l.length c2) l.length (byteCells l) := by simpa using hown2
    have hA2 := Bs.own hown2'
    have ha2 := ha1.below hb2
    have hb2' := hb1.trans (hb2.mono hb1.size)
    clear hown2 hown2' hg2 hb0 hb2 ha1 hb1
    go_wp2_with fail
    refine (put_at A2 c2 _ n l (l ++ vby n) n _ hA2 rfl rfl rfl (by omega) hn).mono ?_
    rintro e w3 ⟨A3, c3, rfl, hown3, hb3⟩
    have hA3 := Bs.own hown3
    have hA23 := hA2.below hb3
    have ha3 := ha2.below hb3
    have hb3' := hb2'.trans (hb3.mono hb2'.size)
    have hvp : 0 < (vby n).length := by rw [vby_len]; exact vsize_pos n
    obtain ⟨g, u, rfl, hg1, hg2, hu, hcell, hfro⟩ := own_first hown3 (by simp; omega)
    obtain ⟨_, rfl⟩ := bc_at _ 0 u hu
    clear hown3 hu
    go_wp2_with fail
    refine (refput_any n _ hn).mono ?_
    rintro e w4 ⟨A4, c4, rfl, hown4, hb4⟩
    have hA4 := Bs.own hown4
    have hA34 := hA3.below hb4
    have hA24 := hA23.below hb4
    have ha4 := ha3.below hb4
    have hcell4 := (hb4.cell (p := ⟨g, 0, none⟩) hg2).trans hcell
    have hfro4 := (hb4.frozen (p := ⟨g, 0, none⟩) hg2).trans hfro
    have hb24 := hb3.trans (hb4.mono hb3.size)
    have hg4 : g < w4.heap.size := Nat.lt_of_lt_of_le hg2 hb4.size
    clear hA3 hA23 ha3 hcell hfro hb3 hb4 hown4 hg2 hb3'
    have hb0 : Below w4.heap.size w4 (w4.alloc (.cells #[] 5)) := (Below.refl _ _).alloc (Nat.le_refl _) _
    go_wp2_with (at_builtin; refine wpList_append_rd _ rfl (.tmp 24) (.tmp 25) 22 rfl w4.heap.size 5 i0 _ 1 1 Try.underlying22 hi hq0 hq1 hq2 rfl (by decide) _ 0 [] rfl (own_empty w4 5) A _ c (byteCells l) rfl (ha4.below hb0) (bc_one _) ?e1 ?e2 ?e3 ?_)
    case e1 => unfold maxLen; omega
    case e2 => omega
    case e3 => simp
    intro A5 c5 w5 hown5 hgr5
    have hb5 : Below w4.heap.size w4 w5 := hb0.grown hgr5 (by simp) (by simp [Value.ownBlock])
    have hown5' : w5.ownsRow w4.heap.size 5 1 (.slice A5 l.length c5) l.length (byteCells l) := by simpa using hown5
    clear hown5 hgr5 hb0
    go_wp2_with (at_builtin; refine wpList_append_rd _ rfl (.tmp 26) (.tmp 27) 22 rfl w4.heap.size 5 i0 _ 1 1 Try.underlying22 hi hq0 hq1 hq2 rfl (by decide) _ l.length (byteCells l) rfl hown5' A4 _ c4 (byteCells (vby n)) rfl (hA4.below hb5) (bc_one _) ?f1 ?f2 ?f3 ?_)
    case f1 => unfold maxLen; omega
    case f2 => omega
    case f3 => exact hb5.size
    intro A6 c6 w6 hown6 hgr6
    have hb6 : Below w4.heap.size w4 w6 := hb5.grown hgr6 hb5.size (fun k hk => (hown5'.lt k hk).1)
    have hown6' : w6.ownsRow w4.heap.size 5 1 (.slice A6 (l ++ vby n).length c6) (l ++ vby n).length (byteCells (l ++ vby n)) := by simpa [bc_app] using hown6
    have hA6 := Bs.own hown6'
    have hA36 := hA34.below hb6
    have hA26 := hA24.below hb6
    have ha6 := ha4.below hb6
    have hcell6 := (hb6.cell (p := ⟨g, 0, none⟩) hg4).trans hcell4
    have hfro6 := (hb6.frozen (p := ⟨g, 0, none⟩) hg4).trans hfro4
    have hb26 := hb24.trans (hb6.mono hb24.size)
    clear hown5' hown6 hown6' hgr6 hb5 hA34 hA24 ha4 hA4 hcell4 hfro4 hb24 hb6
    go_wp2_with fail
    refine (bytes_at _ A6 c3 c6 _ _ (l ++ vby n) (l ++ vby n) true _ hA36 hA6 (by simp) (by simp) (by simp)).mono ?_
    rintro e w7 ⟨rfl, rfl⟩
    clear hA36 hA6
    go_wp2_with fail
    refine (size_any n _ hn).mono ?_
    rintro e w7 ⟨rfl, rfl⟩
    rw [← vby_len n]
    go_wp2_with fail
    refine (bytes_at A2 A c2 c _ _ l l true _ hA26 ha6 rfl rfl (by simp)).mono ?_
    rintro e w7 ⟨rfl, rfl⟩
    clear hA26 ha6
    have hpos : (0 : Int) < (l.length : Int) + (vby n).length := by omega
    go_wp2_with fail
    refine (bytes_at A2 A c2 c _ _ l l true _ (hA2.below (hb26.setCell hg1 _)) (ha2.below (hb26.setCell hg1 _)) rfl rfl (by simp)).mono ?_
    rintro e w7 ⟨rfl, rfl⟩
    go_wp2_with (first
      | (go_at_call 14; (with_reducible refine (zig_any z _ hz1 hz2).mono ?_); rintro e w7 ⟨rfl, rfl⟩)
      | (go_at_call 15; (with_reducible refine (refzig_any z _ hz1 hz2).mono ?_); rintro e w7 ⟨rfl, rfl⟩))
    go_ret
    exact ⟨rfl, hb2'.trans ((hb26.setCell hg1 _).mono hb2'.size)⟩
  · have h1 : (100 : Int) < l.length := by omega
    go_enter Try.func4, Try.ntmps4
    go_wp2_with fail
    refine (alive_any _).mono ?_
    rintro e w1 ⟨rfl, hb1⟩
    go_wp2
    go_ret
    exact ⟨rfl, hb1⟩
end Go.Proofs.Ythahopogehfimaa.V01
