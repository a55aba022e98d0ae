/-
  The walk of FrameAll: how any bytes are parted.
-/
import Derived.Test.YtghdojiffooilaaDoorF8Alive
import Derived.Test.YtghdojiffooilaaDoorF8RefN
import Derived.Test.YtghdojiffooilaaDoorF8All
namespace Go.Proofs.YtghdojiffooilaaDoor.F08
open Go.RowKit Go.Lib Go.Proofs.YtghdojiffooilaaDoor.Wd
open Go.Proofs.YtghdojiffooilaaDoor.C02 (Tb)

theorem AllRel.row {b x : List UInt8} {k n s sp en : Nat} {L M : List (List UInt8)} (h : AllRel b k L s) (hn : nextF (b.drop k) = (x, n, 0)) (ha : allF b = (M, sp, en)) :
    ∃ hk : L.length < M.length, M[L.length] = x := by
  have e := h.eq
  rw [ha, all_right hn] at e
  simp only [Prod.mk.injEq] at e
  have e1 := e.1
  subst e1
  exact ⟨by simp, by simp⟩

set_option maxRecDepth 20000 in
set_option maxHeartbeats 4000000 in
theorem all_law (A : Option Addr) (c len : Nat) (l : List UInt8) (w : World) (hT : Tb w) (ha : Bs w A c l) (hlen : l.length = len) :
    Calls Tryd.prog 4 #[.slice A len c] w fun e w' => e = .returned (.bool true) ∧ Below w.heap.size w w' := by
  have hcap := ha.cap
  have hmax := ha.max
  unfold maxLen at hmax
  by_cases hl : len ≤ 3000
  · obtain ⟨M, sp, en, hall⟩ : ∃ M sp en, allF l = (M, sp, en) := ⟨_, _, _, rfl⟩
    have hA := fun w hT ha => all_any A c len l w hT ha hlen (by omega)
    simp only [hall] at hA
    go_enter Tryd.func4, Tryd.ntmps4
    go_wp2_with fail
    refine (alive_any _ hT).mono ?_
    rintro x w1 ⟨rfl, hb1⟩
    have ha1 := ha.below hb1
    have hT1 := hT.below hb1
    clear ha hT
    go_wp2_with fail
    refine (hA _ hT1 ha1).mono ?_
    rintro x w2 ⟨A2, c2, rfl, hM, hb2⟩
    have ha2 := ha1.below hb2
    have hbb := hb1.trans (hb2.mono hb1.size)
    clear ha1 hT1 hb1 hb2 hA
    go_wp2_with fail
    go_loopw [6, 7, 8] (fun k s i wr => ∃ i0 s0 L, k = .int .i64 ((L : List (List UInt8)).length : Nat) ∧ s = .int .i64 (s0 : Nat) ∧ i = .int .i64 (i0 : Nat) ∧ AllRel l i0 L s0 ∧ Below w2.heap.size w2 wr) (fun _ _ i _ => len - (RowKit.intOf i).toNat)
    case atStart => exact ⟨0, 0, [], rfl, rfl, rfl, AllRel.start l, Below.refl _ _⟩
    case round =>
      obtain ⟨k, s0, L, rfl, rfl, rfl, hr, hb⟩ := hrel
      have hk := hr.le
      have hs := hr.sle
      have hLl := hr.lle
      have hbw := hbb.trans (hb.mono hbb.size)
      by_cases h : k < len
      · obtain ⟨x, n, e, hn⟩ : ∃ x n e, nextF (l.drop k) = (x, n, e) := ⟨_, _, _, rfl⟩
        have hc := next_cases hn
        simp only [List.length_drop] at hc
        have hck : ¬ c = k := by omega
        have q1 := (ha2.below hb).drop k (by omega)
        unfold cutA at q1
        rw [if_neg hck] at q1
        have hnx := refnext_any _ _ (len - k) _ x n e _ q1 (by simp; omega) (by omega) hn
        by_cases h0 : e = 0
        · subst h0
          have R1 := hr.right hn
          obtain ⟨hk1, hx⟩ := hr.row hn hall
          have hkn : k + n ≤ len := by omega
          have hn5 : 5 ≤ n := by omega
          have hxl : x.length ≤ 3000 := by omega
          obtain ⟨ad, Ai, ci, rfl, hcell1, hB1⟩ := hM.get (i := L.length) hk1
          rw [hx] at hcell1 hB1
          have hblk := World.block_lt_of_cell? _ _ hcell1
          have hkk : ¬ (M.length : Int) ≤ (L.length : Int) := by omega
          clear hn hc hr q1 hx
          go_wp2_with fail
          refine hnx.mono ?_
          rintro z w4 ⟨A4, c4, rfl, hB4, hb4⟩
          have hb5 := hb.trans (hb4.mono hb.size)
          have hcell := (hb5.cell hblk).trans hcell1
          have hB5 := hB1.below hb5
          clear hnx hb4 hb hbw hcell1 hB1
          go_wp2_with fail
          refine (bytes_at Ai A4 ci c4 x.length x.length x x true _ hB5 hB4 rfl rfl (by simp)).mono ?_
          rintro z w5 ⟨rfl, rfl⟩
          go_wp2
          go_roundw
          case rel => exact ⟨k + n, s0, L ++ [x], by simp, rfl, by go_num, R1, hb5⟩
          case measure => simp [RowKit.intOf]; omega
        · have h0' : ¬ (e : Int) = 0 := by omega
          by_cases h12 : e = 12
          · subst h12
            have R1 := hr.spoilt hn
            have hkn : k + n ≤ len := by omega
            have hn5 : 5 ≤ n := by omega
            have hn5' : ¬ (n : Int) = 0 := by omega
            clear hn hc hr q1
            go_wp2_with fail
            refine hnx.mono ?_
            rintro z w4 ⟨A4, c4, rfl, hB4, hb4⟩
            have hb5 := hb.trans (hb4.mono hb.size)
            clear hnx hb4 hb hbw hB4
            go_wp2
            go_roundw
            case rel => exact ⟨k + n, s0 + 1, L, rfl, by go_num, by go_num, R1, hb5⟩
            case measure => simp [RowKit.intOf]; omega
          · have E := hr.stop hn h0 h12
            have hn0 : n = 0 := by omega
            subst hn0
            rw [hall] at E
            simp only [Prod.mk.injEq] at E
            obtain ⟨rfl, rfl, rfl⟩ := E
            clear hn hc hr q1
            go_wp2_with fail
            refine hnx.mono ?_
            rintro z w4 ⟨A4, c4, rfl, hB4, hb4⟩
            have hb5 := hbw.trans (hb4.mono hbw.size)
            clear hnx hb4 hb hbw hB4
            go_wp2
            go_ret
            exact ⟨rfl, hb5⟩
      · have E := hr.fin (by omega)
        rw [hall] at E
        simp only [Prod.mk.injEq] at E
        obtain ⟨rfl, rfl, rfl⟩ := E
        clear hr
        go_wp2
        go_ret
        exact ⟨rfl, hbw⟩
  · have h1 : (3000 : Int) < (len : Int) := by omega
    go_enter Tryd.func4, Tryd.ntmps4
    go_wp2_with fail
    refine (alive_any _ hT).mono ?_
    rintro x w1 ⟨rfl, hb1⟩
    go_wp2
    go_ret
    exact ⟨rfl, hb1⟩
end Go.Proofs.YtghdojiffooilaaDoor.F08
