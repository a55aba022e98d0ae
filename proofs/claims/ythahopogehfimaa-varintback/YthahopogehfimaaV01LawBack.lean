/-
  The walk of VarintBack: what was put is got, with whatever behind it, and signs come back.
-/
import Derived.Test.YthahopogehfimaaV01Alive
namespace Go.Proofs.Ythahopogehfimaa.V01
open Go.RowKit Go.Lib Go.Proofs.Ythahopogehfimaa.Wd

theorem zag_of_zig (z : Int) (w : World) (h1 : -9223372036854775808 ≤ z) (h2 : z ≤ 9223372036854775807) :
    Calls Try.prog 16 #[.int .u64 (zig z)] w fun e w' => e = .returned (.int .i64 z) ∧ w = w' := by
  have := zag_any (zig z) w (zig_bd z h1 h2).1 (zig_bd z h1 h2).2
  rwa [zag_zig] at this
theorem zig_of_zag (n : Int) (w : World) (h1 : 0 ≤ n) (h2 : n ≤ 18446744073709551615) :
    Calls Try.prog 14 #[.int .i64 (zag n)] w fun e w' => e = .returned (.int .u64 n) ∧ w = w' := by
  have := zig_any (zag n) w (zag_bd n h1 h2).1 (zag_bd n h1 h2).2
  rwa [zig_zag n h1] at this

theorem alike_yes {n m : Nat} (h : n = m) : (vby n == (vby m).take (vby n).length) = true := by subst h; simp
theorem alike_no {n m : Nat} (hn : (n : Int) ≤ 18446744073709551615) (hm : (m : Int) ≤ 18446744073709551615) (h : ¬ n = m) : (vby n == (vby m).take (vby n).length) = false := by
  rw [beq_eq_false_iff_ne]
  exact fun e => h (begin_alike (by omega) (by omega) e)

set_option maxRecDepth 20000 in
set_option maxHeartbeats 2000000 in
theorem back_law (n m : Nat) (z : Int) (A : Option Addr) (c : Nat) (l : List UInt8) (w : World) (hn : (n : Int) ≤ 18446744073709551615) (hm : (m : Int) ≤ 18446744073709551615)
    (hz1 : -9223372036854775808 ≤ z) (hz2 : z ≤ 9223372036854775807) (ha : Bs w A c l) (hlm : l.length ≤ maxLen) :
    Calls Try.prog 5 #[.int .u64 n, .int .u64 m, .int .i64 z, .slice A l.length c] w fun e w' => e = .returned (.bool true) ∧ Below w.heap.size w w' := by
  obtain ⟨i0, hi, hq0, hq1, hq2⟩ := info_parts byte_info
  unfold maxLen at hlm
  by_cases hl : l.length ≤ 100
  · go_enter Try.func5, Try.ntmps5
    go_wp2_with fail
    refine (alive_any _).mono ?_
    rintro e w1 ⟨rfl, hb1⟩
    have ha1 := ha.below hb1
    clear ha
    go_wp2_with fail
    refine (put_at none 0 0 n [] (vby n) n _ (Bs.nil _) rfl rfl rfl (by decide) hn).mono ?_
    rintro e w2 ⟨A2, c2, rfl, hown2, hb2⟩
    have hA2 := Bs.own hown2
    have ha2 := ha1.below hb2
    have hb2' := hb1.trans (hb2.mono hb1.size)
    clear hown2 ha1 hb2 hb1
    go_wp2_with fail
    refine (put_at none 0 0 m [] (vby m) m _ (Bs.nil _) rfl rfl rfl (by decide) hm).mono ?_
    rintro e w3 ⟨A3, c3, rfl, hown3, hb3⟩
    have hA3 := Bs.own hown3
    have hA23 := hA2.below hb3
    have ha3 := ha2.below hb3
    have hb3' := hb2'.trans (hb3.mono hb2'.size)
    clear hown3 ha2 hb3 hb2' hA2
    have hvn : (vby n).length ≤ 10 := by rw [vby_len]; exact vsize_le n
    have hvm : (vby m).length ≤ 10 := by rw [vby_len]; exact vsize_le m
    have hb0 : Below w3.heap.size w3 (w3.alloc (.cells #[] 5)) := (Below.refl _ _).alloc (Nat.le_refl _) _
    go_wp2_with (at_builtin; refine wpList_append_rd _ rfl (.tmp 29) (.tmp 30) 22 rfl w3.heap.size 5 i0 _ 1 1 Try.underlying22 hi hq0 hq1 hq2 rfl (by decide) _ 0 [] rfl (own_empty w3 5) A2 _ c2 (byteCells (vby n)) rfl (hA23.below hb0) (bc_one _) ?d1 ?d2 ?d3 ?_)
    case d1 => unfold maxLen; omega
    case d2 => omega
    case d3 => simp
    intro A4 c4 w4 hown4 hg4
    have hb4 : Below w3.heap.size w3 w4 := hb0.grown hg4 (by simp) (by simp [Value.ownBlock])
    have hown4' : w4.ownsRow w3.heap.size 5 1 (.slice A4 (vby n).length c4) (vby n).length (byteCells (vby n)) := by simpa using hown4
    clear hown4 hg4 hb0
    go_wp2_with (at_builtin; refine wpList_append_rd _ rfl (.tmp 31) (.tmp 32) 22 rfl w3.heap.size 5 i0 _ 1 1 Try.underlying22 hi hq0 hq1 hq2 rfl (by decide) _ (vby n).length (byteCells (vby n)) rfl hown4' A _ c (byteCells l) rfl (ha3.below hb4) (bc_one _) ?e1 ?e2 ?e3 ?_)
    case e1 => unfold maxLen; omega
    case e2 => omega
    case e3 => exact hb4.size
    intro A5 c5 w5 hown5 hg5
    have hb5 : Below w3.heap.size w3 w5 := hb4.grown hg5 hb4.size (fun k hk => (hown4'.lt k hk).1)
    have hown5' : w5.ownsRow w3.heap.size 5 1 (.slice A5 (vby n ++ l).length c5) (vby n ++ l).length (byteCells (vby n ++ l)) := by simpa [bc_app] using hown5
    have hA5 := Bs.own hown5'
    have hA25 := hA23.below hb5
    have hA35 := hA3.below hb5
    have hb5' := hb3'.trans (hb5.mono hb3'.size)
    clear hown4' hown5 hown5' hg5 hb4 hb5 hA23 hA3 ha3 hb3'
    go_wp2_with fail
    refine (get_at A5 c5 _ (vby n ++ l) n (vby n).length 0 _ hA5 (by simp) (by omega) (get_put (by omega) l)).mono ?_
    rintro e w6 ⟨rfl, rfl⟩
    clear hA5
    have hn0 : (0 : Int) ≤ n := by omega
    go_wp2_with (first
      | (go_at_call 14; (with_reducible refine (zig_any z _ hz1 hz2).mono ?_); rintro e w6 ⟨rfl, rfl⟩)
      | (go_at_call 16; (with_reducible refine (zag_of_zig z _ hz1 hz2).mono ?_); rintro e w6 ⟨rfl, rfl⟩)
      | (go_at_call 16; (with_reducible refine (zag_any n _ hn0 hn).mono ?_); rintro e w6 ⟨rfl, rfl⟩)
      | (go_at_call 14; (with_reducible refine (zig_of_zag n _ hn0 hn).mono ?_); rintro e w6 ⟨rfl, rfl⟩))
    go_loop [14] (fun i => ∃ k : Nat, i = .int .i64 k ∧ k ≤ (vby n).length) (fun i => (vby n).length - (intOf i).toNat)
    case atStart => exact ⟨0, rfl, by omega⟩
    case round =>
      obtain ⟨k, rfl, hk⟩ := hrel
      by_cases hlt : k < (vby n).length
      · have hcap := hA25.cap
        have hmax := hA25.max
        unfold maxLen at hmax
        go_wp2_with (go_at_call 8; refine (get_at A2 c2 k ((vby n).take k) 0 0 10 _ (hA25.take k (by omega)) (by simp; omega) (by omega) (get_begin (by omega) k hlt)).mono ?_; rintro e w6 ⟨rfl, rfl⟩)
        go_round
        case rel => exact ⟨k + 1, by go_num, by omega⟩
        case measure => simp [intOf]; omega
      · have hcap := hA35.cap
        have hmax := hA35.max
        unfold maxLen at hmax
        by_cases hnm : n = m
        · subst hnm
          have hle : ((vby n).length : Int) ≤ (vby n).length := Int.le_refl _
          go_wp2_with (go_at_call 12; refine (bytes_at A2 A3 c2 c3 _ _ (vby n) ((vby n).take (vby n).length) true _ hA25 (hA35.take _ (Nat.le_refl _)) rfl (by simp) (alike_yes rfl)).mono ?_; rintro e w6 ⟨rfl, rfl⟩)
          go_ret
          exact ⟨rfl, hb5'⟩
        · have hne : ((n : Int) == (m : Int)) = false := by simp; omega
          have F := Lib.hid (alike_no hn hm hnm)
          clear hnm
          by_cases hle : (vby n).length ≤ (vby m).length
          · go_wp2_with (go_at_call 12; refine (bytes_at A2 A3 c2 c3 _ _ (vby n) ((vby m).take (vby n).length) false _ hA25 (hA35.take _ hle) rfl (by simp; omega) F.out).mono ?_; rintro e w6 ⟨rfl, rfl⟩)
            go_ret
            exact ⟨rfl, hb5'⟩
          · have hle' : decide ((vby n).length ≤ (vby m).length) = false := by simp; omega
            go_wp2_with fail
            go_ret
            exact ⟨rfl, hb5'⟩
  · have h1 : (100 : Int) < l.length := by omega
    go_enter Try.func5, Try.ntmps5
    go_wp2_with fail
    refine (alive_any _).mono ?_
    rintro e w1 ⟨rfl, hb1⟩
    go_wp2
    go_ret
    exact ⟨rfl, hb1⟩
end Go.Proofs.Ythahopogehfimaa.V01
