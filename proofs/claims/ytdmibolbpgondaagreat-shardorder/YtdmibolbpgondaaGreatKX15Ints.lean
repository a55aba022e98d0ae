/-
  The law's comparing of two lists of numbers.
  The walk of ShardOrder. (Written by gen15/order.py.)
-/
import Derived.Test.YtdmibolbpgondaaGreatKX15Size
import Derived.BigQuiet
import Derived.Test.YtdmibolbpgondaaGreatKX15Ord
import Derived.Test.YtdmibolbpgondaaGreatKX15Ou4
import Derived.Test.YtdmibolbpgondaaGreatKB7Open
import Derived.Test.YtdmibolbpgondaaGreatKB7Same
section
set_option linter.unusedSimpArgs false
set_option linter.unusedVariables false
namespace Go.Proofs.YtdmibolbpgondaaGreat.X15
open Go.RowKit Go.Lib Go.Maps Go.Proofs.YtdmibolbpgondaaGreat.Wd
set_option maxRecDepth 20000 in
set_option maxHeartbeats 4000000 in
theorem ints_at (A B : Option Addr) (c d n k2 : Nat) (l m : List Nat) (r : Bool) (w : World) (h : Us w A c l) (h2 : Us w B d m) (hn : l.length = n) (hn2 : m.length = k2) (hm : n ≤ 1000000) (hm2 : k2 ≤ 1000000) (hr : r = true ↔ l = m) :
    Calls Tryz.prog 18 #[.slice A n c, .slice B k2 d] w fun e w' => e = .returned (.bool r) ∧ Below w.heap.size w w' := by
  by_cases hne : n = k2
  · subst hne
    have HR := Lib.hid hr
    have HN := Lib.hid hn
    have HN2 := Lib.hid hn2
    clear hr hn hn2
    go_enter Tryz.func18, Tryz.ntmps18
    go_wp2
    go_loopw [5] (fun v wr => ∃ k : Nat, v = .int .i64 (k : Int) ∧ k ≤ n ∧ Hid (l.take k = m.take k) ∧ Below w.heap.size w wr) (fun v _ => n - (intOf v).toNat)
    case atStart => exact ⟨0, rfl, Nat.zero_le _, Lib.hid rfl, Below.refl _ _⟩
    case round =>
      obtain ⟨k, rfl, hk, HE, hb⟩ := hrel
      by_cases hlt : k < n
      · have hltz : (k : Int) < (n : Int) := by omega
        have hkl : k < l.length := by rw [HN.out]; exact hlt
        have hkm : k < m.length := by rw [HN2.out]; exact hlt
        obtain ⟨ad, rfl, hc, -⟩ := (h.below hb).get hkl
        obtain ⟨be, rfl, hc2, -⟩ := (h2.below hb).get hkm
        have y2 : (0 : Int) ≤ (k : Int) := by omega
        have y3 : ((k : Int)).toNat = k := by omega
        have HX := Lib.hid (And.intro (List.take_succ_eq_append_getElem hkl) (List.take_succ_eq_append_getElem hkm))
        have HG := Lib.hid (show l = m → l[k] = m[k] from fun e => by subst e; rfl)
        obtain ⟨a, ha⟩ : ∃ a, l[k] = a := ⟨_, rfl⟩
        obtain ⟨b, hbb⟩ : ∃ b, m[k] = b := ⟨_, rfl⟩
        rw [ha] at hc
        rw [hbb] at hc2
        rw [ha, hbb] at HX
        rw [ha, hbb] at HG
        have HB := Lib.hid hb
        clear ha hbb hb hkl hkm
        by_cases hab : a = b
        · subst hab
          have hz : ((a : Int) == (a : Int)) = true := by simp
          go_wp2_with fail
          go_quiet (fail)
          have hb2 := HB.out.trans ((below_dn (Below.refl wr.heap.size wr) nq).mono HB.out.size)
          clear hc hc2 hz hltz
          generalize wr.drewN nq = w9 at hb2 ⊢
          go_wp2
          go_roundw
          case rel => exact ⟨k + 1, by go_num, by omega, Lib.hid (by rw [HX.out.1, HX.out.2, HE.out]), hb2⟩
          case measure => first | go_num | (simp [intOf]; omega)
        · have hz : ¬ (a : Int) = (b : Int) := by omega
          have hz2 : ((a : Int) == (b : Int)) = false := by simpa using hz
          have hrf : r = false := by
            cases r with
            | false => rfl
            | true => exact absurd (HG.out (HR.out.1 rfl)) hab
          subst hrf
          go_wp2_with fail
          go_quiet (fail)
          have hb2 := HB.out.trans ((below_dn (Below.refl wr.heap.size wr) nq).mono HB.out.size)
          clear hc hc2 hz hltz hz2
          generalize wr.drewN nq = w9 at hb2 ⊢
          go_wp2
          go_ret
          exact ⟨rfl, hb2⟩
      · obtain rfl : k = n := by omega
        have hltz : ¬ (k : Int) < (k : Int) := by omega
        have hrt : r = true := HR.out.2 (by
          have := HE.out
          rw [List.take_of_length_le (by rw [HN.out]; exact Nat.le_refl _), List.take_of_length_le (by rw [HN2.out]; exact Nat.le_refl _)] at this
          exact this)
        subst hrt
        go_wp2
        go_ret
        exact ⟨rfl, hb⟩
  · have hz : ¬ (n : Int) = (k2 : Int) := by omega
    have hz2 : ((n : Int) == (k2 : Int)) = false := by simpa using hz
    have hrf : r = false := by
      cases r with
      | false => rfl
      | true => exact absurd (by rw [← hn, ← hn2, hr.1 rfl]) hne
    subst hrf
    go_enter Tryz.func18, Tryz.ntmps18
    go_wp2
    go_ret
    exact ⟨rfl, Below.refl _ _⟩
end Go.Proofs.YtdmibolbpgondaaGreat.X15
end

section
set_option linter.unusedSimpArgs false
set_option linter.unusedVariables false
namespace Go.Proofs.YtdmibolbpgondaaGreat.X15
open Go.RowKit Go.Lib Go.Maps Go.Proofs.YtdmibolbpgondaaGreat.Wd Go.Proofs.YtdmibolbpgondaaGreat.P06
open Go.Proofs.YtdmibolbpgondaaGreat.B07 (Pn OkN OkA OkP Spn Sps pns tenA ten Ten tos_any sames_any)
open Go.Proofs.YtdmibolbpgondaaGreat.D09 (TenW)
theorem pns_few {M' : List Spn} {T : List Pn} (h : pns M' = T) (hT : ∀ y ∈ T, Okx y) : ∀ y ∈ M', y.l.length ≤ 40 := fun y hy => (hT y.pn (by rw [← h]; exact List.mem_map.2 ⟨y, hy, rfl⟩)).r.few
theorem bk_same {W W' : World} {b : Nat} {t : TypeId} {cs : Array Value} (h : Bk W b t cs) (e : W'.heap[b]? = W.heap[b]?) : Bk W' b t cs := by unfold Bk at *; rw [e]; exact h
set_option maxRecDepth 200000 in
set_option maxHeartbeats 16000000 in
theorem order_law (A0 : Option Addr) (c0 n : Nat) (M : List Spn) (y z : Nat) (w : World) (hS : Sps w A0 c0 M) (hok : ∀ x ∈ pns M, OkP x) (hn : M.length = n) (hy : y ≤ 255) (hz : z ≤ 255) (hw : ∀ x ∈ M, x.l.length * 48 ≤ 140737488355328) :
    Calls Tryz.prog 4 #[.slice A0 n c0, .int .u8 (y : Int), .int .u8 (z : Int)] w fun e w' => e = .returned (.bool true) ∧ Below w.heap.size w w' := by
  have HN := Lib.hid hn
  have HS := Lib.hid hS
  have HK := Lib.hid hok
  have HW := Lib.hid hw
  have hy0 : (0 : Int) ≤ (y : Int) := by omega
  have hy1 : (y : Int) ≤ 255 := by omega
  have hz0 : (0 : Int) ≤ (z : Int) := by omega
  have hz1 : (z : Int) ≤ 255 := by omega
  clear hn hS hok hw
  go_enter Tryz.func4, Tryz.ntmps4
  go_wp2_with fail
  refine (alive_any _).mono ?_
  rintro e w1 ⟨rfl, b1⟩
  by_cases h2 : (20 : Int) < (n : Int)
  · go_wp2
    go_ret
    exact ⟨rfl, b1⟩
  have hnew := snew_right 3 100 1099511627776 w1 (by unfold MT; omega) (by omega) (by unfold MT; omega)
  go_wp2_with fail
  refine hnew.mono ?_
  rintro e w2 ⟨sa, ca, pa, rfl, k1, k2, k3, k4, k5, k6, k7⟩
  have KA := Lib.hid (And.intro b1 (And.intro k1 (And.intro k5 (And.intro k7 (show Nu pa (3, 100, 1099511627776) from ⟨k2, k3, k4⟩)))))
  have hnew2 := snew_right 3 100 1099511627776 w2 (by unfold MT; omega) (by omega) (by unfold MT; omega)
  clear hnew b1 k1 k2 k3 k4 k5 k6 k7
  go_wp2_with fail
  refine hnew2.mono ?_
  rintro e w3 ⟨sb, cb, pb, rfl, k1, k2, k3, k4, k5, k6, k7⟩
  have KB := Lib.hid (And.intro k1 (And.intro k5 (And.intro k6 (And.intro k7 (show Nu pb (3, 100, 1099511627776) from ⟨k2, k3, k4⟩)))))
  have hnew3 := snew_right 3 (1 + z) 1099511627776 w3 (by unfold MT; omega) (by omega) (by unfold MT; omega)
  rw [show ((1 + z : Nat) : Int) = 1 + (z : Int) by omega] at hnew3
  clear hnew2 k1 k2 k3 k4 k5 k6 k7
  go_wp2_with fail
  refine hnew3.mono ?_
  rintro e w4 ⟨sc, cc, pc, rfl, k1, k2, k3, k4, k5, k6, k7⟩
  have HT := Lib.hid (show Od w sa sb sc y z (pns M) 0 0 0 [] [] [] [] w4 from
    ⟨Th.start KA.out.1 KA.out.2.1 KA.out.2.2.1 KA.out.2.2.2.1 KB.out.1 KB.out.2.1 KB.out.2.2.1 KB.out.2.2.2.1 k1 k5 k6 k7 KA.out.2.2.2.2 KB.out.2.2.2.2 ⟨k2, k3, k4⟩, by rw [List.take_zero]; exact Kep.nil, Kep.nil, rfl, Nat.le_refl _, Nat.le_refl _, Nat.le_refl _⟩)
  have HNN := Lib.hid h2
  clear hnew3 k1 k2 k3 k4 k5 k6 k7 KA KB h2
  go_wp2_with fail
  go_loopw [15, 13, 14] (fun v a b wr => ∃ (k cm td : Nat) (La Lb Lc : List Pn), v = .int .i64 (k : Int) ∧ a = .int .i64 (cm : Int) ∧ b = .int .i64 (td : Int) ∧ k ≤ n ∧ Hid (Od w sa sb sc y z (pns M) k cm td La Lb Lc [] wr)) (fun v _ _ _ => n - (intOf v).toNat)
  case atStart => exact ⟨0, 0, 0, [], [], [], rfl, rfl, rfl, Nat.zero_le _, HT⟩
  case round =>
    clear HT
    obtain ⟨k, cm, td, La, Lb, Lc, rfl, rfl, rfl, hk, HR⟩ := hrel
    by_cases hlt : k < n
    · have hltz : (k : Int) < (n : Int) := by omega
      have hn20 : n ≤ 20 := by have := HNN.out; omega
      obtain ⟨ad, pp, s, A1, c1, l, m, rfl, hpp, T0, hA, hN, hm1, hmm, hPk⟩ := sps_wide HS.out HK.out HW.out HN.out hlt
      obtain ⟨f, hf⟩ : ∃ f, far s l = f := ⟨_, rfl⟩
      have hb := HR.out.th.bel
      have T1 := T0.below hb
      have hfar := far_at s A1 c1 m l f wr (hA.below hb) hm1 (by omega) hf
      have HT := Lib.hid T0
      have HA := Lib.hid (And.intro hA (And.intro hN (And.intro hm1 hPk)))
      have HF := Lib.hid hf
      have e0 := T1.c0
      have e1 := T1.c1
      have e2 := T1.c2
      have e3 := T1.c3
      have e4 := T1.c4
      have e5 := T1.c5
      have e6 := T1.c6
      have e7 := T1.c7
      have e8 := T1.c8
      have e9 := T1.c9
      have y2 : (0 : Int) ≤ (k : Int) := by omega
      have y3 : ((k : Int)).toNat = k := by omega
      clear T0 T1 hA hN hm1 hmm hf hb hPk
      go_wp2_with fail
      change Calls _ _ #[spv s (.slice A1 m c1)] _ _
      refine hfar.mono ?_
      rintro e w3 ⟨rfl, b3⟩
      have HR3 := Lib.hid (And.intro (HR.out.th.below b3) HR.out)
      clear HR hfar e0 e1 e2 e3 e4 e5 e6 e7 e8 e9 b3
      cases f with
      | true =>
        have hb := HR3.out.1.bel
        go_wp2
        go_ret
        exact ⟨rfl, hb⟩
      | false =>
        have hr := nr_of (x := (s, l)) HF.out
        have HX := Lib.hid (show m ≤ 40 from by rw [← HA.out.2.2.1]; exact hr.few)
        have hb := HR3.out.1.bel
        have T1 := HT.out.below hb
        have hof := of_at s A1 c1 m l w3 (HA.out.1.below hb) HA.out.2.2.1 HX.out
        have e0 := T1.c0
        have e1 := T1.c1
        have e2 := T1.c2
        have e3 := T1.c3
        have e4 := T1.c4
        have e5 := T1.c5
        have e6 := T1.c6
        have e7 := T1.c7
        have e8 := T1.c8
        have e9 := T1.c9
        clear T1 hb hr HF
        go_wp2_with fail
        change Calls _ _ #[spv s (.slice A1 m c1)] _ _
        refine hof.mono ?_
        rintro e w4 ⟨A3, c3, rfl, hd3, b4⟩
        have HR4 := Lib.hid (And.intro (HR3.out.1.below b4) HR3.out.2)
        have hadd := HR4.out.1.add s A3 c3 m l HA.out.2.2.1 HA.out.2.1 (hd3.low (Nat.zero_le _)) (by have := HX.out; omega) (by have := HR4.out.2.la; omega) (by unfold MT; omega)
        clear HR3 hof e0 e1 e2 e3 e4 e5 e6 e7 e8 e9 b4 hd3
        go_wp2_with fail
        refine hadd.mono ?_
        rintro e w5 ⟨A5, c5, A6, c6, ka, La', Ta, ga, rfl, hAd, hTh, -, -⟩
        obtain ⟨hkep, rfl⟩ := ad_keps hAd HR4.out.2.ka HR4.out.1.ok (by have := HR4.out.2.la; omega) (Nat.le_refl _) (by omega)
        rw [List.length_nil]
        obtain ⟨nT, hnT⟩ : ∃ nT, Ta.length = nT := ⟨_, rfl⟩
        rw [hnT]
        have hla := ad_len2 hAd HR4.out.1.so
        rw [← take_snoc HA.out.2.2.2] at hkep
        obtain ⟨W6, hW6⟩ : ∃ W6, w5.alloc (.cells #[.slice A5 nT c5, .slice A6 0 c6] 40) = W6 := ⟨_, rfl⟩
        obtain ⟨bx, hbx⟩ : ∃ bx, w5.heap.size = bx := ⟨_, rfl⟩
        have b6 : Below w5.heap.size w5 W6 := by rw [← hW6]; exact (Below.refl _ _).alloc (Nat.le_refl _) _
        have KX6 := Lib.hid (show Bk W6 bx 40 #[.slice A5 nT c5, .slice A6 0 c6] from by rw [← hW6, ← hbx]; exact Bk.new _ _ _)
        have HR6 := Lib.hid (And.intro (show Th w sa sb sc (3, 100, 1099511627776) (3, 100, 1099511627776) (3, 1 + z, 1099511627776) La' Lb Lc [bx] W6 from hTh.push b6 (by omega) (by rw [← hW6, World.size_alloc]; omega)) (And.intro hkep (And.intro (show La'.length ≤ k + 1 from by have := HR4.out.2.la; simp at hla; omega) (And.intro hAd HR4.out.2))))
        have HW6 := Lib.hid hW6
        have HBX := Lib.hid hbx
        clear HR4 hadd hAd hTh hkep hnT hla hW6 hbx b6
        go_upto_region 17 with fail
        rw [HW6.out]
        (try rw [HBX.out])
        clear HW6 HBX
        obtain ⟨j, hj⟩ : ∃ j, oth n y k = j := ⟨_, rfl⟩
        have hjn : j < n := by rw [← hj]; exact oth_lt _ _ (by omega)
        obtain ⟨ad2, pp2, s2, A2, c2, l2, m2, hA2, hpp2, T2, hAt2, hN2, hm2, h48, hPj⟩ := sps_wide HS.out HK.out HW.out HN.out hjn
        cases hA2
        have hb := HR6.out.1.bel
        have T1 := T2.below hb
        have hof := ofw_at s2 A2 c2 m2 l2 W6 (hAt2.below hb) hm2 h48
        have HO2 := Lib.hid (And.intro hN2 (And.intro hm2 (And.intro h48 (And.intro hPj hj))))
        have e0 := T1.c0
        have e1 := T1.c1
        have e2 := T1.c2
        have e3 := T1.c3
        have e4 := T1.c4
        have e5 := T1.c5
        have e6 := T1.c6
        have e7 := T1.c7
        have e8 := T1.c8
        have e9 := T1.c9
        have hrem : ((n : Int) - 1 - (k : Int) + (y : Int)) % (n : Int) = (j : Int) := by
          rw [← hj]
          unfold oth
          rw [Int.natCast_emod]
          congr 1
          omega
        have hremt : ((n : Int) - 1 - (k : Int) + (y : Int)).tmod (n : Int) = (j : Int) := by rw [Int.tmod_eq_emod_of_nonneg (by omega)]; exact hrem
        have wr1 : IntKind.i64.wrap ((n : Int) - 1) = (n : Int) - 1 := by rw [IntKind.wrap_i64]; omega
        have wr2 : IntKind.i64.wrap ((n : Int) - 1 - (k : Int)) = (n : Int) - 1 - (k : Int) := by rw [IntKind.wrap_i64]; omega
        have wr3 : IntKind.i64.wrap ((n : Int) - 1 - (k : Int) + (y : Int)) = (n : Int) - 1 - (k : Int) + (y : Int) := by rw [IntKind.wrap_i64]; omega
        have j0 : (0 : Int) ≤ (j : Int) := by omega
        have j1 : (j : Int) < (n : Int) := by omega
        have j3 : ((j : Int)).toNat = j := by omega
        have hn0 : ¬ n = 0 := by omega
        clear T1 T2 hb hAt2 hN2 hm2 h48 hPj hj hrem
        go_wp2_with fail
        change Calls _ _ #[spv s2 (.slice A2 m2 c2)] _ _
        refine hof.mono ?_
        rintro e w7 ⟨A7, c7, rfl, hd7, b7⟩
        have HR7 := Lib.hid (And.intro (HR6.out.1.below b7) HR6.out.2)
        have KX7 := Lib.hid (KX6.out.below b7)
        have hadd := HR7.out.1.rot.add s2 A7 c7 m2 l2 HO2.out.2.1 HO2.out.1 (hd7.low (Nat.zero_le _)) (by have := HO2.out.2.2.1; omega) (by have := HR7.out.2.2.2.2.lb; omega) (by unfold MT; omega)
        clear HR6 KX6 hof e0 e1 e2 e3 e4 e5 e6 e7 e8 e9 b7 hd7 wr1 wr2 wr3 hremt
        go_wp2_with fail
        refine hadd.mono ?_
        rintro e w8 ⟨A8, c8, A9, c9, kb, Lb', Tb, gb, rfl, hAb, hTh, hkx, -⟩
        have hla := ad_len2 hAb HR7.out.1.rot.so
        have hkep := (ad_keps hAb HR7.out.2.2.2.2.kb HR7.out.1.rot.ok (by have := HR7.out.2.2.2.2.lb; omega) (Nat.le_refl _) (by omega)).1
        rw [← oths_snoc (by rw [B07.pns_len, HN.out]; exact HO2.out.2.2.2.2) HO2.out.2.2.2.1] at hkep
        have KX8 := Lib.hid (bk_same KX7.out (hkx bx (by simp)))
        have HR8 := Lib.hid (And.intro (show Th w sa sb sc (3, 100, 1099511627776) (3, 100, 1099511627776) (3, 1 + z, 1099511627776) La' Lb' Lc [bx] w8 from hTh.rot.rot) (And.intro HR7.out.2 (And.intro hkep (show Lb'.length ≤ k + 1 from by have := HR7.out.2.2.2.2.lb; omega))))
        clear HR7 KX7 hadd hAb hTh hkx hla hkep HO2 hpp2
        have hb := HR8.out.1.bel
        have T1 := HT.out.below hb
        have hof := of_at s A1 c1 m l w8 (HA.out.1.below hb) HA.out.2.2.1 HX.out
        have e0 := T1.c0
        have e1 := T1.c1
        have e2 := T1.c2
        have e3 := T1.c3
        have e4 := T1.c4
        have e5 := T1.c5
        have e6 := T1.c6
        have e7 := T1.c7
        have e8 := T1.c8
        have e9 := T1.c9
        clear T1 hb
        go_wp2_with fail
        change Calls _ _ #[spv s (.slice A1 m c1)] _ _
        refine hof.mono ?_
        rintro e w9 ⟨A3, c3, rfl, hd3, b9⟩
        have HR9 := Lib.hid (And.intro (HR8.out.1.below b9) HR8.out.2)
        have KX9 := Lib.hid (KX8.out.below b9)
        have hlc : Lc.length ≤ k := by have h1 := HR9.out.2.1.2.2.2.ct; have h2 := HR9.out.2.1.2.2.2.cm; omega
        have hadd := HR9.out.1.rot.rot.add s A3 c3 m l HA.out.2.2.1 HA.out.2.1 (hd3.low (Nat.zero_le _)) (by have := HX.out; omega) (by omega) (by unfold MT; omega)
        clear HR8 KX8 hof e0 e1 e2 e3 e4 e5 e6 e7 e8 e9 b9 hd3
        go_wp2_with fail
        refine hadd.mono ?_
        rintro e w10 ⟨A10, c10, A11, c11, kc, Lc', Tc, gc, rfl, hAc, hTh, hkx, -⟩
        obtain rfl := (ad_same HR9.out.2.1.2.2.1 hAc).symm
        have hcnt := ad_count hAc HR9.out.1.rot.rot.so
        obtain ⟨nU, hnU⟩ : ∃ nU, Tc.length = nU := ⟨_, rfl⟩
        obtain ⟨nG, hnG⟩ : ∃ nG, gc.length = nG := ⟨_, rfl⟩
        obtain ⟨nL, hnL⟩ : ∃ nL, Lc'.length = nL := ⟨_, rfl⟩
        rw [hnU, hnG]
        rw [hnU, hnG, hnL] at hcnt
        have hbig := hTh.few
        have hnz : nL ≤ 1 + z := by
          unfold big at hbig
          simp only [Bool.or_eq_false_iff, decide_eq_false_iff_not] at hbig
          rw [← hnL]
          omega
        obtain ⟨W11, hW11⟩ : ∃ W11, w10.alloc (.cells #[.slice A10 nU c10, .slice A11 nG c11] 40) = W11 := ⟨_, rfl⟩
        obtain ⟨bu, hbu⟩ : ∃ bu, w10.heap.size = bu := ⟨_, rfl⟩
        have b11 : Below w10.heap.size w10 W11 := by rw [← hW11]; exact (Below.refl _ _).alloc (Nat.le_refl _) _
        have KU11 := Lib.hid (show Bk W11 bu 40 #[.slice A10 nU c10, .slice A11 nG c11] from by rw [← hW11, ← hbu]; exact Bk.new _ _ _)
        have KX11 := Lib.hid ((bk_same KX9.out (hkx bx (by simp))).below b11)
        have hct := HR9.out.2.1.2.2.2.ct
        have hcm := HR9.out.2.1.2.2.2.cm
        have HR11 := Lib.hid (show Th w sa sb sc (3, 100, 1099511627776) (3, 100, 1099511627776) (3, 1 + z, 1099511627776) La' Lb' Lc' [] W11 ∧ Kep ((pns M).take (k + 1)) La' ∧ Kep (oths (pns M) y (k + 1)) Lb' ∧ La'.length ≤ k + 1 ∧ Lb'.length ≤ k + 1 ∧ Lc'.length = nL from
          ⟨(hTh.rot.below b11).sub (fun x hx => by cases hx), HR9.out.2.1.1, HR9.out.2.2.1, HR9.out.2.1.2.1, HR9.out.2.2.2, hnL⟩)
        have HW11 := Lib.hid hW11
        have HBU := Lib.hid hbu
        clear HR9 KX9 hadd hAc hTh hkx hbig hnU hnG hnL hW11 hbu b11
        go_upto_region 19 with fail
        rw [HW11.out]
        (try rw [HBU.out])
        clear HW11 HBU
        obtain ⟨cm', hcm'⟩ : ∃ cm', (if ka = 0 then cm + 1 else cm) = cm' := ⟨_, rfl⟩
        obtain ⟨td', htd'⟩ : ∃ td', td + nU + nG = td' := ⟨_, rfl⟩
        have hfin : nL + td' = cm' ∧ cm' ≤ k + 1 := by
          rcases hcnt with ⟨h1, h3⟩ | ⟨h1, h3⟩
          · rw [if_pos h1] at hcm'; omega
          · rw [if_neg (by omega)] at hcm'; omega
        have hnU : nU ≤ 30 := by omega
        have hnG : nG ≤ 30 := by omega
        have htd : td ≤ 30 := by omega
        by_cases hka : ka = 0
        · rw [if_pos hka] at hcm'
          subst hka
          have x1 := KX11.out.cell 1
          have u0 := KU11.out.cell 0
          have u1 := KU11.out.cell 1
          simp only [List.getElem?_toArray, List.getElem?_cons_zero, List.getElem?_cons_succ] at x1 u0 u1
          obtain ⟨cx, px, hSd⟩ := HR11.out.1.rot.rot.sd
          have hh := hSd.held
          rw [HR11.out.2.2.2.2.2] at hh
          have KX12 := KX11
          have f1 : ¬ (1 + (z : Int) < (nL : Int)) := by omega
          have f2 : (nL : Int) + ((td : Int) + (nU : Int) + (nG : Int)) = (cm' : Int) := by omega
          have f3 : IntKind.i64.wrap ((td : Int) + (nU : Int)) = (td : Int) + (nU : Int) := by rw [IntKind.wrap_i64]; omega
          have f4 : IntKind.i64.wrap ((td : Int) + (nU : Int) + (nG : Int)) = (td : Int) + (nU : Int) + (nG : Int) := by rw [IntKind.wrap_i64]; omega
          clear hSd
          go_wp2_with fail
          refine hh.mono ?_
          rintro e w12 ⟨rfl, b12⟩
          have x1 := (KX11.out.below b12).cell 1
          simp only [List.getElem?_toArray, List.getElem?_cons_zero, List.getElem?_cons_succ] at x1
          have HR12 := Lib.hid (show Od w sa sb sc y z (pns M) (k + 1) cm' td' La' Lb' Lc' [] w12 from ⟨HR11.out.1.below b12, HR11.out.2.1, HR11.out.2.2.1, by rw [HR11.out.2.2.2.2.2]; exact hfin.1, hfin.2, HR11.out.2.2.2.1, HR11.out.2.2.2.2.1⟩)
          clear hh b12 u0 u1 HR11 KX11 KX12 KU11
          go_wp2
          go_roundw
          case rel => exact ⟨k + 1, cm', td', La', Lb', Lc', by go_num, by go_num, by go_num, by omega, HR12⟩
          case measure => first | go_num | (simp [intOf]; omega)
        · rw [if_neg hka] at hcm'
          have hkz : (ka == 0) = false := by simpa using hka
          have x1 := KX11.out.cell 1
          have u0 := KU11.out.cell 0
          have u1 := KU11.out.cell 1
          simp only [List.getElem?_toArray, List.getElem?_cons_zero, List.getElem?_cons_succ] at x1 u0 u1
          obtain ⟨cx, px, hSd⟩ := HR11.out.1.rot.rot.sd
          have hh := hSd.held
          rw [HR11.out.2.2.2.2.2] at hh
          have KX12 := KX11
          have f1 : ¬ (1 + (z : Int) < (nL : Int)) := by omega
          have f2 : (nL : Int) + ((td : Int) + (nU : Int) + (nG : Int)) = (cm' : Int) := by omega
          have f3 : IntKind.i64.wrap ((td : Int) + (nU : Int)) = (td : Int) + (nU : Int) := by rw [IntKind.wrap_i64]; omega
          have f4 : IntKind.i64.wrap ((td : Int) + (nU : Int) + (nG : Int)) = (td : Int) + (nU : Int) + (nG : Int) := by rw [IntKind.wrap_i64]; omega
          clear hSd
          go_wp2_with fail
          refine hh.mono ?_
          rintro e w12 ⟨rfl, b12⟩
          have x1 := (KX11.out.below b12).cell 1
          simp only [List.getElem?_toArray, List.getElem?_cons_zero, List.getElem?_cons_succ] at x1
          have HR12 := Lib.hid (show Od w sa sb sc y z (pns M) (k + 1) cm' td' La' Lb' Lc' [] w12 from ⟨HR11.out.1.below b12, HR11.out.2.1, HR11.out.2.2.1, by rw [HR11.out.2.2.2.2.2]; exact hfin.1, hfin.2, HR11.out.2.2.2.1, HR11.out.2.2.2.2.1⟩)
          clear hh b12 u0 u1 HR11 KX11 KX12 KU11
          go_wp2
          go_roundw
          case rel => exact ⟨k + 1, cm', td', La', Lb', Lc', by go_num, by go_num, by go_num, by omega, HR12⟩
          case measure => first | go_num | (simp [intOf]; omega)
    · obtain rfl : k = n := by omega
      have hltz : ¬ (k : Int) < (k : Int) := by omega
      have heq : Lb = La := Kep.one HR.out.kb HR.out.ka fun x => by
        rw [List.take_of_length_le (by rw [B07.pns_len, HN.out]; exact Nat.le_refl _)]
        have h1 := mem_oths (L := pns M) y x
        rw [B07.pns_len, HN.out] at h1
        exact h1.symm
      have hth := HR.out.th
      rw [heq] at hth
      have hl20 : La.length ≤ 20 := by have h1 := HR.out.la; have h2 := HNN.out; omega
      have HA0 := Lib.hid (And.intro hth hl20)
      obtain ⟨ca1, pa1, hsd⟩ := hth.sd
      have htr := hsd.traces (by omega)
      obtain ⟨ts, hts⟩ : ∃ ts, trs La = ts := ⟨_, rfl⟩
      obtain ⟨nt, hnt⟩ : ∃ nt, ts.length = nt := ⟨_, rfl⟩
      have hnt20 : nt ≤ 20 := by have h1 := trs_len La; rw [hts, hnt] at h1; omega
      rw [hts] at htr
      have HTS := Lib.hid (And.intro hts hnt)
      clear HR heq hth hl20 hsd hts hnt
      go_wp2_with fail
      refine htr.mono ?_
      rintro e v1 ⟨U, d, rfl, hu, b1, hub⟩
      rw [HTS.out.2]
      have HA1 := Lib.hid (And.intro (HA0.out.1.tolds b1 hub) HA0.out.2)
      have HU1 := Lib.hid hu
      obtain ⟨cb1, pb1, hsd⟩ := HA1.out.1.rot.sd
      have htr2 := hsd.traces (by have := HA1.out.2; omega)
      rw [HTS.out.1] at htr2
      clear htr hu b1 hub HA0 hsd
      go_wp2_with fail
      refine htr2.mono ?_
      rintro e v2 ⟨U2, d2, rfl, hu2, b2, -⟩
      rw [HTS.out.2]
      have hin := ints_at U U2 d d2 nt nt ts ts true v2 (HU1.out.below b2) hu2 HTS.out.2 HTS.out.2 (by omega) (by omega) (by simp)
      have B2 := Lib.hid b2
      clear htr2 hu2 b2
      go_wp2_with fail
      refine hin.mono ?_
      rintro e v3 ⟨rfl, b3⟩
      have B3 := B2.out.trans (b3.mono B2.out.size)
      have HA3 := Lib.hid (show Th w sa sb sc (3, 100, 1099511627776) (3, 100, 1099511627776) (3, 1 + z, 1099511627776) La La Lc (U.toList.map (·.block) ++ []) v3 ∧ Us v3 U d ts from ⟨HA1.out.1.below B3, HU1.out.below B3⟩)
      have HL20 := Lib.hid HA1.out.2
      clear hin b3 B2 B3 HA1 HU1
      go_wp2_with fail
      go_loopw [23] (fun v wr => ∃ j : Nat, v = .int .i64 (j : Int) ∧ j ≤ nt ∧ Hid (Th w sa sb sc (3, 100, 1099511627776) (3, 100, 1099511627776) (3, 1 + z, 1099511627776) (rems La (ts.take j)) (rems La (ts.take j)) Lc (U.toList.map (·.block) ++ []) wr ∧ Us wr U d ts)) (fun v _ => nt - (intOf v).toNat)
      case atStart => exact ⟨0, rfl, Nat.zero_le _, HA3⟩
      case round =>
        clear HA3
        obtain ⟨j, rfl, hj, HJ⟩ := hrel
        by_cases hjn : j < nt
        · have hji : j < ts.length := by rw [HTS.out.2]; exact hjn
          obtain ⟨ad, rfl, y0, htb⟩ := HJ.out.2.get hji
          have hst := rems_step (L := La) hji
          obtain ⟨t, ht⟩ : ∃ t, ts[j] = t := ⟨_, rfl⟩
          rw [ht] at y0 htb hst
          have hrl := rems_len La (ts.take j)
          obtain ⟨Lj, hLj⟩ : ∃ Lj, rems La (ts.take j) = Lj := ⟨_, rfl⟩
          rw [hLj] at HJ hst hrl
          have hl20 := HL20.out
          have hfew : Lj.length ≤ 500 := by omega
          have hta := HJ.out.1.take t htb hfew
          have HST := Lib.hid (And.intro hst (And.intro hji htb))
          have HFW := Lib.hid (show Lj.length ≤ 20 from by omega)
          have j0 : (0 : Int) ≤ (j : Int) := by omega
          have j1 : (j : Int) < (nt : Int) := by omega
          have j2 : ((j : Int)).toNat = j := by omega
          clear ht hst hrl hLj hl20 hfew hji htb
          go_wp2_with fail
          refine hta.mono ?_
          rintro e x1 ⟨A7, c7, M7, rfl, q7, o7, hTh, hkp, -⟩
          have hu1 : Us x1 (some ad) d ts := us_tolds HJ.out.2 fun x hx => hkp x (List.mem_append_left _ hx)
          have y1 := us_at3 hu1 HST.out.2.1 y0 HJ.out.2
          have HO7 := Lib.hid (And.intro q7 o7)
          have HT1 := Lib.hid hTh
          have HU1 := Lib.hid hu1
          have hok := HJ.out.1.ok
          have HOK := Lib.hid hok
          have htb2 := hTh.rot.take t HST.out.2.2 (by have := HFW.out; omega)
          obtain ⟨nx, hnx⟩ : ∃ nx, (trace Lj t).length = nx := ⟨_, rfl⟩
          have hnx20 : nx ≤ 20 := by have h1 := part_len Lj t; have h2 := HFW.out; omega
          have HNX := Lib.hid hnx
          rw [hnx] at htb2 ⊢
          clear hta q7 o7 hTh hkp hu1 y0 HJ hok hnx
          go_wp2_with fail
          refine htb2.mono ?_
          rintro e x2 ⟨A8, c8, M8, rfl, q8, o8, hTh2, hkp2, -⟩
          have o7 : Sps x2 A7 c7 M7 := sps_ubs HO7.out.2 fun x hx => hkp2 x (List.mem_append_left _ hx)
          have HU2 := Lib.hid (us_tolds HU1.out fun x hx => hkp2 x (List.mem_append_right _ (List.mem_append_left _ hx)))
          have HT2 := Lib.hid (show Th w sa sb sc (3, 100, 1099511627776) (3, 100, 1099511627776) (3, 1 + z, 1099511627776) (rest Lj t) (rest Lj t) Lc ((some ad : Option Addr).toList.map (·.block) ++ []) x2 from hTh2.rot.rot.sub fun x hx => List.mem_append_right _ (List.mem_append_right _ hx))
          have HO8 := Lib.hid (And.intro q8 o8)
          have hoT : ∀ x ∈ trace Lj t, Okx x := fun x hx => HOK.out x (mem_trace.1 hx).1
          have hl7 : M7.length = nx := by rw [← HNX.out, ← HO7.out.1, B07.pns_len]
          have hl8 : M8.length = nx := by rw [← HNX.out, ← q8, B07.pns_len]
          have htos := tos_any x2 A7 c7 nx M7 o7 hl7 (by omega) (pns_few HO7.out.1 hoT)
          have HLL := Lib.hid (And.intro hl8 hoT)
          clear htb2 q8 o8 hTh2 hkp2 o7 hl7 hl8 hoT HT1 HU1 y1
          go_wp2_with fail
          refine htos.mono ?_
          rintro e x3 ⟨B1, d1, N1, rfl, hN1, hP1, hown1, b3⟩
          have htos2 := tos_any x3 A8 c8 nx M8 (HO8.out.2.below b3) HLL.out.1 (by omega) (pns_few HO8.out.1 HLL.out.2)
          have HO9 := Lib.hid (And.intro hown1.sps (And.intro hN1 (And.intro hP1 b3)))
          clear htos hN1 hP1 hown1 b3
          go_wp2_with fail
          refine htos2.mono ?_
          rintro e x4 ⟨B2, d2, N2, rfl, hN2, hP2, hown2, b4⟩
          have hsm := sames_any x4 B1 B2 d1 d2 nx nx N1 N2 true (HO9.out.1.below b4) hown2.sps HO9.out.2.1 hN2 (by omega) (by omega) (pns_few (HO9.out.2.2.1.trans HO7.out.1) HLL.out.2) (pns_few (hP2.trans HO8.out.1) HLL.out.2) (by simp [hP2, HO9.out.2.2.1, HO7.out.1, HO8.out.1])
          have B4 := Lib.hid (HO9.out.2.2.2.trans (b4.mono HO9.out.2.2.2.size))
          clear htos2 hN2 hP2 hown2 b4
          go_wp2_with fail
          refine hsm.mono ?_
          rintro e x5 ⟨rfl, b5⟩
          have B5 := B4.out.trans (b5.mono B4.out.size)
          have HJ5 := Lib.hid (show Th w sa sb sc (3, 100, 1099511627776) (3, 100, 1099511627776) (3, 1 + z, 1099511627776) (rems La (ts.take (j + 1))) (rems La (ts.take (j + 1))) Lc ((some ad : Option Addr).toList.map (·.block) ++ []) x5 ∧ Us x5 (some ad) d ts from by rw [HST.out.1]; exact ⟨HT2.out.below B5, HU2.out.below B5⟩)
          clear hsm b5 B4 B5 HT2 HU2 HO7 HO8 HO9 HLL HST
          go_wp2
          go_roundw
          case rel => exact ⟨j + 1, by go_num, by omega, HJ5⟩
          case measure => first | go_num | (simp [intOf]; omega)
        · have hjz : ¬ (j : Int) < (nt : Int) := by omega
          have hall : rems La (ts.take j) = [] := by
            rw [List.take_of_length_le (by rw [HTS.out.2]; omega)]
            exact rems_all fun t ht => by rw [← HTS.out.1]; exact ht
          rw [hall] at HJ
          obtain ⟨cx, px, hsd⟩ := HJ.out.1.sd
          have hh : Calls Tryz.prog 22 #[.pointer (some ⟨sa, 0, none⟩)] wr fun e w' => e = .returned (.tuple #[.int .i64 0, .int .i64 0]) ∧ Below wr.heap.size wr w' := hsd.held
          have HB := Lib.hid HJ.out.1.bel
          clear hsd HJ hall
          go_wp2_with fail
          refine hh.mono ?_
          rintro e x9 ⟨rfl, b9⟩
          have b10 := HB.out.trans (b9.mono HB.out.size)
          clear hh
          go_wp2
          go_ret
          exact ⟨rfl, b10⟩
end Go.Proofs.YtdmibolbpgondaaGreat.X15
end
