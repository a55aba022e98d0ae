/-
  What frame.All does.
-/
import Derived.Test.YtghdojiffooilaaDoorF8Next
import Derived.Test.YtghdojiffooilaaDoorF8Mem
namespace Go.Proofs.YtghdojiffooilaaDoor.F08
open Go.RowKit Go.Lib Go.Proofs.YtghdojiffooilaaDoor.Wd
open Go.Proofs.YtghdojiffooilaaDoor.C02 (Tb)

set_option maxRecDepth 20000 in
set_option maxHeartbeats 2000000 in
theorem all_any (A : Option Addr) (c len : Nat) (l : List UInt8) (w : World) (hT : Tb w) (ha : Bs w A c l) (hlen : l.length = len) (hl : len ≤ 65000) :
    Calls Tryd.prog 13 #[.slice A len c] w fun x w' => ∃ A' c', x = .returned (.tuple #[.slice A' (allF l).1.length c', .int .i64 ((allF l).2.1 : Nat), .int .i64 ((allF l).2.2 : Nat)]) ∧
      Bss w' A' c' (allF l).1 ∧ Below w.heap.size w w' := by
  obtain ⟨i0, hi, hq0, hq1, hq2⟩ := info_parts rows_info
  have hcap := ha.cap
  have hmax := ha.max
  unfold maxLen at hmax
  go_enter Tryd.func13, Tryd.ntmps13
  go_wp2_with fail
  go_loopw [5, 6, 7] (fun v s i wr => ∃ k s0 R A' c', v = .slice A' (R : List Rw).length c' ∧ s = .int .i64 (s0 : Nat) ∧ i = .int .i64 (k : Nat) ∧ AllRel l k (by_ R) s0 ∧
      Own2 w.heap.size wr A' c' R ∧ Below w.heap.size w wr) (fun _ _ i _ => len - (intOf i).toNat)
  case atStart => exact ⟨0, 0, [], none, 0, rfl, rfl, rfl, AllRel.start l, Own2.nil _ _, Below.refl _ _⟩
  case round =>
    obtain ⟨k, s0, R, A2, c2, rfl, rfl, rfl, hr, hown, hb⟩ := hrel
    have hk := hr.le
    have hs := hr.sle
    have hRl := hr.lle
    rw [by_len] at hRl
    by_cases h : k < len
    · obtain ⟨x, n, e, hn⟩ : ∃ x n e, nextF (l.drop k) = (x, n, e) := ⟨_, _, _, rfl⟩
      have hc := next_cases hn
      simp only [List.length_drop] at hc
      have hck : ¬ c = k := by omega
      have q1 := (ha.below hb).drop k (by omega)
      unfold cutA at q1
      rw [if_neg hck] at q1
      have hnx := next_own _ _ (len - k) _ x n e _ (hT.below hb) q1 (by simp; omega) (by omega) hn
      by_cases h0 : e = 0
      · subst h0
        have R1 := hr.right hn
        have hkn : k + n ≤ len := by omega
        have hn5 : 5 ≤ n := by omega
        clear hn hc hr q1
        go_wp2_with fail
        refine hnx.mono ?_
        rintro z w1 ⟨A1, c1, rfl, hown1, hb1⟩
        have F := hown.fresh hown1
        have hB1 := Bs.own hown1
        have hown2 := hown.below hb1
        have hbb := hb.trans (hb1.mono hb.size)
        clear hnx hown hb hown1
        go_wp2_with (at_builtin; refine append_one w1 rfl (.tmp 29) (.tmp 31) 33 rfl w.heap.size 22 i0 _ 24 Tryd.underlying33 hi hq0 hq1 hq2 rfl (.slice A2 R.length c2) R.length (R.map rc) rfl hown2.row (.slice A1 x.length c1) _ rfl rfl rfl ?d1 ?d2 ?d3 ?_)
        case d1 => unfold maxLen; omega
        case d2 => omega
        case d3 => exact hbb.size
        intro A3 c3 w3 hrow3 hg3 hat3
        have hb2 : Below w1.heap.size w1 (w1.alloc (.cells #[.slice A1 x.length c1] 22)) := (Below.refl _ _).alloc (Nat.le_refl _) _
        have hown3 := hown2.app (x := (A1, c1, x)) hB1 F.1 F.2 hb2 hrow3 hg3 (by simpa using hat3)
        have hb3 : Below w.heap.size w w3 := (hbb.trans (hb2.mono hbb.size)).grown hg3 (by have := hbb.size; have := hb2.size; omega) (fun k hk => (hown2.row.lt k hk).1)
        clear hrow3 hg3 hat3 hb2 hown2 hB1 F
        go_wp2
        go_roundw
        case rel => exact ⟨k + n, s0, R ++ [(A1, c1, x)], A3, c3, by simp, rfl, by go_num, by rw [by_app]; exact R1, hown3, hb3⟩
        case measure => simp [intOf]; omega
      · have h0' : ¬ (e : Int) = 0 := by omega
        by_cases h12 : e = 12
        · subst h12
          have R1 := hr.spoilt hn
          have hkn : k + n ≤ len := by omega
          have hn5 : 5 ≤ n := by omega
          clear hn hc hr q1
          go_wp2_with fail
          refine hnx.mono ?_
          rintro z w1 ⟨A1, c1, rfl, hown1, hb1⟩
          have hown2 := hown.below hb1
          have hbb := hb.trans (hb1.mono hb.size)
          clear hnx hown hb hown1
          go_wp2
          go_roundw
          case rel => exact ⟨k + n, s0 + 1, R, A2, c2, rfl, by go_num, by go_num, R1, hown2, hbb⟩
          case measure => simp [intOf]; omega
        · have h12' : ¬ (e : Int) = 12 := by omega
          have E := Lib.hid (hr.stop hn h0 h12)
          clear hn hc hr q1
          go_wp2_with fail
          refine hnx.mono ?_
          rintro z w1 ⟨A1, c1, rfl, hown1, hb1⟩
          have hown2 := hown.below hb1
          have hbb := hb.trans (hb1.mono hb.size)
          clear hnx hown hb hown1
          go_wp2
          go_ret3
          rw [E.out]
          exact ⟨A2, c2, by simp [by_len], hown2.bss, hbb⟩
    · have E := Lib.hid (hr.fin (by omega))
      have hkl : k = len := by omega
      subst hkl
      clear hr
      go_wp2
      go_ret3
      rw [E.out]
      exact ⟨A2, c2, by simp [by_len], hown.bss, hb⟩
end Go.Proofs.YtghdojiffooilaaDoor.F08
