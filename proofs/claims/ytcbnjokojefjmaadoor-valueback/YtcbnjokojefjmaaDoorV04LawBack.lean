/-
  The walk of ValueBack: what is put is got, with whatever behind it, and cut anywhere it isn't whole.
-/
import Derived.Test.YtcbnjokojefjmaaDoorV04Back
import Derived.Test.YtcbnjokojefjmaaDoorV04Alive
import Derived.Test.YtcbnjokojefjmaaDoorV04Open
set_option linter.unusedSimpArgs false
set_option linter.unusedVariables false
namespace Go.Proofs.YtcbnjokojefjmaaDoor.V04
open Go.RowKit Go.Lib Go.Proofs.YtcbnjokojefjmaaDoor.Wd Go.Proofs.YtcbnjokojefjmaaDoor.V01

set_option maxRecDepth 20000 in
set_option maxHeartbeats 4000000 in
theorem back_law (K N : Int) (S : ByteArray) (A : Option Addr) (c len : Nat) (l : List UInt8) (w : World) (hT : Tb w) (ha : Bs w A c l) (hlen : l.length = len) (h0 : -9223372036854775808 ≤ N) (h1 : N ≤ 9223372036854775807) :
    Calls Tryd.prog 5 #[vl K N S, .slice A len c] w fun e w' => e = .returned (.bool true) ∧ Below w.heap.size w w' := by
  obtain ⟨i0, hi, hz0, hz1, hz2⟩ := info_parts Wd.byte_info
  have b := below_box w (box 23 K N S) (Nat.le_refl _)
  have v1 := Vx.box w 23 K N S
  go_enter Tryd.func5, Tryd.ntmps5
  go_wp2_with fail
  refine (alive_any _ (hT.below b)).mono ?_
  rintro e w1 ⟨rfl, hb⟩
  replace v1 := v1.below hb
  replace b := b.trans (hb.mono b.size)
  clear hb
  have c0 := v1.c0
  have c1 := v1.c1
  have c2 := v1.c2
  by_cases hS : (300 : Int) < (S.size : Int)
  · go_wp2
    go_ret
    exact ⟨rfl, b⟩
  by_cases hL : (100 : Int) < (len : Int)
  · go_wp2
    go_ret
    exact ⟨rfl, b⟩
  cases hr : right K N S with
  | false =>
    go_wp2_with (go_at_call 9; refine (right_any K N S false _ hr).mono ?_; rintro e w2 ⟨rfl, rfl⟩)
    go_ret
    exact ⟨rfl, b.alloc b.size _⟩
  | true =>
    have hback := back hr h0 h1 l
    have hcut := vbs_cut hr h0 h1
    have hvl := vbs_len K N S
    obtain ⟨r, hq⟩ : ∃ r, vbs K N S = r := ⟨_, rfl⟩
    rw [hq] at hback hcut hvl
    go_wp2_with fail
    refine (right_any K N S true _ hr).mono ?_
    rintro e w2 ⟨rfl, rfl⟩
    have hb := below_box w1 (box 27 K N S) (Nat.le_refl _)
    generalize w1.alloc (box 27 K N S) = w2 at *
    replace v1 := v1.below hb
    replace b := b.trans (hb.mono b.size)
    clear hb c0 c1 c2
    have c0 := v1.c0
    have c1 := v1.c1
    have c2 := v1.c2
    go_wp2_with fail
    refine (vput_at none 0 0 [] K N S r _ (Bs.nil _) rfl (by decide) h0 h1 (by simpa using hq)).mono ?_
    rintro e w3 ⟨A3, c3, rfl, hown3, hb⟩
    have hB3 := Bs.own hown3
    replace v1 := v1.below hb
    replace b := b.trans (hb.mono b.size)
    have HQ := Lib.hid hq
    clear hb c0 c1 c2 hown3 hq
    obtain ⟨m, hm⟩ : ∃ m, r.length = m := ⟨_, rfl⟩
    rw [hm] at hvl ⊢
    have hb0 : Below w3.heap.size w3 (w3.alloc (.cells #[] 5)) := below_box _ _ (Nat.le_refl _)
    have hr0 : Rd 1 (w3.alloc (.cells #[] 5)) A3 m c3 (Lib.byteCells r) := by have := hB3.below hb0; unfold Bs at this; rw [hm] at this; exact this
    go_wp2_with (at_builtin; refine wpList_append_rd _ rfl (.tmp 32) (.tmp 33) 24 rfl w3.heap.size 5 i0 _ 1 1 Tryd.underlying24 hi hz0 hz1 hz2 rfl (by decide) _ 0 [] rfl (own_empty w3 5) A3 m c3 (Lib.byteCells r) rfl hr0 (bc_one _) ?d1 ?d2 ?d3 ?_)
    case d1 => unfold maxLen; omega
    case d2 => omega
    case d3 => simp
    intro A4 c4 w4 hown4 hg4
    have hb4 : Below w3.heap.size w3 w4 := hb0.grown hg4 (by simp) (by simp [Value.ownBlock])
    have hown4' : w4.ownsRow w3.heap.size 5 1 (.slice A4 m c4) m (Lib.byteCells r) := by simpa using hown4
    have b4 := b.trans (hb4.mono b.size)
    have ha4 : Rd 1 w4 A len c (Lib.byteCells l) := by have := ha.below b4; unfold Bs at this; rw [hlen] at this; exact this
    clear hown4 hg4 hr0 hb0
    go_wp2_with (at_builtin; refine wpList_append_rd _ rfl (.tmp 34) (.tmp 35) 24 rfl w3.heap.size 5 i0 _ 1 1 Tryd.underlying24 hi hz0 hz1 hz2 rfl (by decide) _ m (Lib.byteCells r) rfl hown4' A len c (Lib.byteCells l) rfl ha4 (bc_one _) ?d4 ?d5 ?d6 ?_)
    case d4 => unfold maxLen; omega
    case d5 => omega
    case d6 => exact hb4.size
    intro A5 c5 w5 hown5 hg5
    have hb5 : Below w3.heap.size w3 w5 := hb4.grown hg5 hb4.size (fun k hk => (hown4'.lt k hk).1)
    rw [← bc_app] at hown5
    obtain ⟨q, hq5⟩ : ∃ q, r ++ l = q := ⟨_, rfl⟩
    rw [hq5] at hown5 hback
    have hq5l : q.length = m + len := by rw [← hq5, List.length_append, hm, hlen]
    have hB5 : Bs w5 A5 c5 q := by refine Bs.own (base := w3.heap.size) (e := 5) ?_; rw [hq5l]; exact hown5
    replace v1 := v1.below hb5
    replace b := b.trans (hb5.mono b.size)
    replace hB3 := hB3.below hb5
    clear hown5 hown4' hb4 b4 ha4 hg5 hb5 hq5
    go_wp2_with fail
    refine (vget_any A5 c5 (m + len) q _ hB5 hq5l (by omega)).mono ?_
    rintro e w6 ⟨rfl, hb⟩
    rw [hback]
    unfold Rdv.v
    replace v1 := v1.below hb
    replace b := b.trans (hb.mono b.size)
    replace hB3 := hB3.below hb
    clear hb hB5 hback
    have c0 := v1.c0
    have c1 := v1.c1
    have c2 := v1.c2
    simp only [hm]
    have n1 : ¬ w.heap.size = w6.heap.size := Nat.ne_of_lt v1.lt
    have n2 : w.heap.size < w6.heap.size := v1.lt
    go_wp2_with fail
    have b7 := b.alloc b.size (.cells #[.int .i64 K, .int .i64 N, .string S] 27)
    have hB7 := hB3.below (below_box w6 (.cells #[.int .i64 K, .int .i64 N, .string S] 27) (Nat.le_refl _))
    generalize w6.alloc (.cells #[.int .i64 K, .int .i64 N, .string S] 27) = w7 at *
    clear c0 c1 c2 v1 n1 n2 b hB3 ha hT
    have hcc : m ≤ c3 := by have := hB7.cap; omega
    go_loopw [9] (fun i wr => ∃ n : Nat, i = .int .i64 n ∧ n ≤ m ∧ Below w.heap.size w wr ∧ Bs wr A3 c3 r) (fun i _ => m - (RowKit.intOf i).toNat)
    case atStart => exact ⟨0, rfl, Nat.zero_le _, b7, hB7⟩
    case round =>
      obtain ⟨n, rfl, hn, hbr, hBr⟩ := hrel
      clear b7 hB7
      by_cases hlt : n < m
      · have e10 := hcut n (by omega)
        have hBt := hBr.take n (by omega)
        have p1 : (0 : Int) ≤ (n : Int) := by omega
        have p2 : (n : Int) ≤ (c3 : Int) := by omega
        have p3 : (n : Int).toNat = n := by omega
        clear hcut
        go_wp2_with fail
        refine (vget_any A3 c3 n (r.take n) _ hBt (by simp; omega) (by omega)).mono ?_
        rintro e w8 ⟨rfl, hb8⟩
        generalize getV (r.take n) = R at *
        obtain ⟨RK, RN, RS, Rk, Re⟩ := R
        simp only at e10
        subst e10
        unfold Rdv.v
        have hbr2 := hbr.trans (hb8.mono hbr.size)
        have hBr2 := hBr.below hb8
        clear hbr hBr hBt hb8
        go_wp2
        go_roundw
        case rel =>
          refine ⟨_, _, _, _, _, _, _, _, _, _, _, _, _, _, _, _, _, _, _, _, _, ?_, rfl⟩
          exact ⟨n + 1, by go_num, by omega, hbr2.alloc hbr2.size _, hBr2.below (below_box _ _ (Nat.le_refl _))⟩
        case measure => simp [RowKit.intOf]; omega
      · go_wp2
        go_ret
        exact ⟨rfl, hbr⟩
end Go.Proofs.YtcbnjokojefjmaaDoor.V04
