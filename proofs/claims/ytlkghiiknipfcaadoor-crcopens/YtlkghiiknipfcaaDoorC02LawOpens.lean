/-
  The walk of CrcOpens: what any bytes are opened as, and sealed.
-/
import Derived.Test.YtlkghiiknipfcaaDoorC02Open
import Derived.Test.YtlkghiiknipfcaaDoorC02Laid
namespace Go.Proofs.YtlkghiiknipfcaaDoor.C02
open Go.RowKit Go.Lib Go.Proofs.YtlkghiiknipfcaaDoor.Wd

set_option maxRecDepth 20000 in
set_option maxHeartbeats 2000000 in
theorem opens_law (A : Option Addr) (c len : Nat) (l : List UInt8) (w : World) (hT : Tb w) (ha : Bs w A c l) (hlen : l.length = len) :
    Calls Tryd.prog 4 #[.slice A len c] w fun e w' => e = .returned (.bool true) ∧ Below w.heap.size w w' := by
  obtain ⟨i0, hi, hq0, hq1, hq2⟩ := info_parts byte_info
  have hlm := Nat.le_trans ha.cap ha.max
  unfold maxLen at hlm
  by_cases hl : len ≤ 3000
  · obtain ⟨m, hm⟩ : ∃ m, sumOf l = m := ⟨_, rfl⟩
    have hm1 := sumOf_lt l
    rw [hm] at hm1
    obtain ⟨s, hs⟩ : ∃ s, l ++ tail4 (sumOf l) = s := ⟨_, rfl⟩
    have hsl : s.length = len + 4 := by rw [← hs]; simp [tail4]; omega
    obtain ⟨r, e, hre⟩ : ∃ r e, openF l = (r, e) := ⟨_, _, rfl⟩
    have HS := Lib.hid hs
    clear hs
    go_enter Tryd.func4, Tryd.ntmps4
    go_wp2_with fail
    refine (alive_any _ hT).mono ?_
    rintro x w1 ⟨rfl, hb1⟩
    have ha1 := ha.below hb1
    have hT1 := hT.below hb1
    clear ha hT
    go_wp2_with fail
    refine (seal_at A c len l s _ hT1 ha1 hlen (by omega) HS.out).mono ?_
    rintro x w2 ⟨A2, c2, rfl, hown2, hb2⟩
    have hS2 := Bs.own hown2
    have ha2 := ha1.below hb2
    have hT2 := hT1.below hb2
    have hb2' := hb1.trans (hb2.mono hb1.size)
    clear hown2 hb2 hb1 ha1 hT1
    have hb0 : Below w2.heap.size w2 (w2.alloc (.cells #[] 5)) := (Below.refl _ _).alloc (Nat.le_refl _) _
    have hr0 : Rd 1 (w2.alloc (.cells #[] 5)) A len c (byteCells l) := by have := ha2.below hb0; unfold Bs at this; rw [hlen] at this; exact this
    rw [hsl]
    go_wp2_with (at_builtin; refine wpList_append_rd _ rfl (.tmp 15) (.tmp 16) 22 rfl w2.heap.size 5 i0 _ 1 1 Tryd.underlying22 hi hq0 hq1 hq2 rfl (by decide) _ 0 [] rfl (own_empty w2 5) A _ c (byteCells l) rfl hr0 (bc_one _) ?d1 ?d2 ?d3 ?_)
    case d1 => unfold maxLen; omega
    case d2 => omega
    case d3 => simp
    intro A3 c3 w3 hown3 hg3
    have hb3 : Below w2.heap.size w2 w3 := hb0.grown hg3 (by simp) (by simp [Value.ownBlock])
    have hown3' : w3.ownsRow w2.heap.size 5 1 (.slice A3 len c3) len (byteCells l) := by simpa using hown3
    have ha3 := ha2.below hb3
    clear hown3 hg3 hb0 hr0
    go_wp2_with fail
    refine (refsum_at A c len l m _ ha3 hlen (by omega) hm).mono ?_
    rintro x w4 ⟨rfl, rfl⟩
    go_wp2_with fail
    refine (tail_at m _ (by omega)).mono ?_
    rintro x w4 ⟨A4, rfl, hB4, hb4⟩
    have hown4 := own_below hown3' hb4
    have hb4' := hb3.trans (hb4.mono hb3.size)
    clear hown3' hb4 hb3 ha3
    go_wp2_with (at_builtin; refine wpList_append_rd _ rfl (.tmp 17) (.tmp 20) 22 rfl w2.heap.size 5 i0 _ 1 1 Tryd.underlying22 hi hq0 hq1 hq2 rfl (by decide) _ len (byteCells l) rfl hown4 A4 4 4 (byteCells (tail4 m)) rfl hB4 (bc_one _) ?f1 ?f2 ?f3 ?_)
    case f1 => unfold maxLen; omega
    case f2 => omega
    case f3 => exact hb4'.size
    intro A5 c5 w5 hown5 hg5
    have hb5 : Below w2.heap.size w2 w5 := hb4'.grown hg5 hb4'.size (fun k hk => (hown4.lt k hk).1)
    have hown5' : w5.ownsRow w2.heap.size 5 1 (.slice A5 s.length c5) s.length (byteCells s) := by rw [hsl, ← HS.out, hm, bc_app]; exact hown5
    have hB5 := Bs.own hown5'
    have ha5 := ha2.below hb5
    have hS5 := hS2.below hb5
    have hT5 := hT2.below hb5
    have hb5' := hb2'.trans (hb5.mono hb2'.size)
    clear hown5 hg5 hown4 hb4' hB4 ha2 hS2 hT2 hb5 hb2' hown5'
    go_wp2_with fail
    refine (bytes_at A2 A5 c2 c5 _ _ s s true _ hS5 hB5 hsl hsl (by simp)).mono ?_
    rintro x w6 ⟨rfl, rfl⟩
    clear hS5 hB5 HS hsl
    go_wp2_with fail
    refine (open_at A c len e l r _ hT5 ha5 hlen (by omega) hre).mono ?_
    rintro x w6 ⟨A6, c6, rfl, hB6, hb6⟩
    have ha6 := ha5.below hb6
    have hT6 := hT5.below hb6
    have hb6' := hb5'.trans (hb6.mono hb5'.size)
    clear hb6 hb5' ha5 hT5
    unfold openF at hre
    rw [hlen] at hre
    by_cases h4 : len < 4
    · rw [if_pos h4] at hre
      injection hre with h1 h2
      subst h1; subst h2
      have h5 : (len : Int) < 4 := by omega
      go_wp2
      go_ret
      exact ⟨rfl, hb6'⟩
    · rw [if_neg h4] at hre
      obtain ⟨k, rfl⟩ : ∃ k, len = k + 4 := ⟨len - 4, by omega⟩
      rw [Nat.add_sub_cancel] at hre
      obtain ⟨t, ht⟩ : ∃ t, sumOf (l.take k) = t := ⟨_, rfl⟩
      have ht1 := sumOf_lt (l.take k)
      rw [ht] at ht1 hre
      have hiff := eq_tail4 (l.drop k) t (by simp; omega) ht1
      have hcc := ha6.cap
      have hck : ¬ c = k := by omega
      have q1 := ha6.drop k (by omega)
      have q2 := ha6.take k (by omega)
      unfold cutA at q1
      rw [if_neg hck] at q1
      replace q1 := Bs.drew q1
      replace q2 := Bs.drew q2
      have p1 : (0 : Int) ≤ (k : Int) := by omega
      have p2 : (k : Int) ≤ (k : Int) + 4 := by omega
      have p3 : (k : Int) ≤ (c : Int) := by omega
      have p4 : (k : Int).toNat = k := by omega
      have p5 : (k : Int) ≤ ((k + 4 : Nat) : Int) := by omega
      by_cases hts : toldN (l.drop k) = t
      · rw [if_pos hts] at hre
        injection hre with h1 h2
        subst h1; subst h2
        have hbb : (l.drop k == tail4 t) = true := by simp; exact hiff.2 hts
        clear hts hiff
        go_wp2_with fail
        go_region_with (first
          | (go_at_call 8; (with_reducible refine (refsum_at A c k (l.take k) t _ q2 (by simp; omega) (by omega) ht).mono ?_); rintro x w7 ⟨rfl, rfl⟩)
          | (go_at_call 13; (with_reducible refine (tail_at t _ (by omega)).mono ?_); rintro x w7 ⟨A7, rfl, hB7, hb7⟩)
          | (go_at_call 12; (with_reducible refine (bytes_at _ _ _ _ 4 4 (l.drop k) (tail4 t) true _ (q1.below hb7) hB7 (by simp; omega) (tail4_len t) hbb).mono ?_); rintro x w8 ⟨rfl, rfl⟩))
        go_wp2_with fail
        refine (bytes_at A6 A c6 c k k (l.take k) (l.take k) true _ (hB6.drew.below hb7) (q2.below hb7) (by simp; omega) (by simp; omega) (by simp)).mono ?_
        rintro x w8 ⟨rfl, rfl⟩
        go_wp2
        go_ret
        exact ⟨rfl, hb6'.drew.trans (hb7.mono hb6'.size)⟩
      · have hbb : (l.drop k == tail4 t) = false := by simp; exact fun e => hts (hiff.1 e)
        rw [if_neg hts] at hre
        injection hre with h1 h2
        subst h1; subst h2
        clear hts hiff
        go_wp2_with fail
        go_region_with (first
          | (go_at_call 8; (with_reducible refine (refsum_at A c k (l.take k) t _ q2 (by simp; omega) (by omega) ht).mono ?_); rintro x w7 ⟨rfl, rfl⟩)
          | (go_at_call 13; (with_reducible refine (tail_at t _ (by omega)).mono ?_); rintro x w7 ⟨A7, rfl, hB7, hb7⟩)
          | (go_at_call 12; (with_reducible refine (bytes_at _ _ _ _ 4 4 (l.drop k) (tail4 t) false _ (q1.below hb7) hB7 (by simp; omega) (tail4_len t) hbb).mono ?_); rintro x w8 ⟨rfl, rfl⟩))
        go_wp2
        go_ret
        exact ⟨rfl, hb6'.drew.trans (hb7.mono hb6'.size)⟩
  · have h1 : (3000 : Int) < len := by omega
    go_enter Tryd.func4, Tryd.ntmps4
    go_wp2_with fail
    refine (alive_any _ hT).mono ?_
    rintro e w1 ⟨rfl, hb1⟩
    go_wp2
    go_ret
    exact ⟨rfl, hb1⟩
end Go.Proofs.YtlkghiiknipfcaaDoor.C02
