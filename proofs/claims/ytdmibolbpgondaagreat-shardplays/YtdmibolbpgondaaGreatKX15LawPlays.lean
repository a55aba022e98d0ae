/-
  The walk of ShardPlays.
-/
import Derived.Test.YtdmibolbpgondaaGreatKX15Ints
import Derived.Test.YtdmibolbpgondaaGreatKX15Due
import Derived.Test.YtdmibolbpgondaaGreatKX15Open
import Derived.Test.YtdmibolbpgondaaGreatKX15RefK
import Derived.Test.YtdmibolbpgondaaGreatKP06RefChk
import Derived.Test.YtdmibolbpgondaaGreatKB7Same
import Derived.Deep.CutRange
set_option linter.unusedSimpArgs false
set_option linter.unusedVariables false
namespace Go.Proofs.YtdmibolbpgondaaGreat.X15
open Go.RowKit Go.Lib Go.Maps Go.Proofs.YtdmibolbpgondaaGreat.Wd Go.Proofs.YtdmibolbpgondaaGreat.P06
open Go.Proofs.YtdmibolbpgondaaGreat.B07 (Pn OkN OkA OkP Spn Sps pns tenA ten Ten tos_any sames_any)
set_option maxRecDepth 200000 in
set_option maxHeartbeats 16000000 in
theorem plays_law (G : Nat) (S B : Int) (A0 : Option Addr) (c0 n : Nat) (La : List Ac) (w : World) (ha : Acs w A0 c0 La) (hok : ∀ y ∈ La, y.Ok) (hn : La.length = n) :
    Calls Tryz.prog 3 #[.int .u64 (G : Int), .int .i64 S, .int .i64 B, .slice A0 n c0] w fun e w' => e = .returned (.bool true) ∧ Below w.heap.size w w' := by
  have HN := Lib.hid hn
  have HA := Lib.hid ha
  have HK := Lib.hid hok
  clear hn ha hok
  go_enter Tryz.func3, Tryz.ntmps3
  go_wp2_with fail
  refine (alive_any _).mono ?_
  rintro e w1 ⟨rfl, b1⟩
  by_cases h2 : (40 : Int) < (n : Int)
  · go_wp2
    go_ret
    exact ⟨rfl, b1⟩
  by_cases hw : MT < G ∨ S < 1 ∨ 65536 < S ∨ B < 1 ∨ 4611686018427387904 < B
  · have hnew := snew_wrong G S B w1 hw
    have HB1 := Lib.hid b1
    clear b1
    go_wp2_with fail
    refine hnew.mono ?_
    rintro e w2 ⟨rfl, b2⟩
    have HB2 := Lib.hid (HB1.out.trans (b2.mono HB1.out.size))
    clear hnew b2 HB1
    unfold MT at hw
    by_cases q1 : (4611686018427387904 : Int) < (G : Int)
    · go_wp2
      go_ret
      exact ⟨by simp, HB2.out⟩
    by_cases q2 : S < 1
    · go_wp2
      go_ret
      exact ⟨by simp, HB2.out⟩
    by_cases q3 : 65536 < S
    · go_wp2
      go_ret
      exact ⟨by simp, HB2.out⟩
    by_cases q4 : B < 1
    · go_wp2
      go_ret
      exact ⟨by simp, HB2.out⟩
    have q5 : 4611686018427387904 < B := by omega
    go_wp2
    go_ret
    exact ⟨by simp, HB2.out⟩
  simp only [not_or] at hw
  obtain ⟨q1, q2, q3, q4, q5⟩ := hw
  obtain ⟨S, rfl⟩ : ∃ z : Nat, S = (z : Int) := ⟨S.toNat, by omega⟩
  obtain ⟨B, rfl⟩ : ∃ z : Nat, B = (z : Int) := ⟨B.toNat, by omega⟩
  have hnew := snew_right G S B w1 (by omega) (by omega) (by unfold MT; omega)
  go_wp2_with fail
  refine hnew.mono ?_
  rintro e w2 ⟨sp, col, p, rfl, k1, k2, k3, k4, k5, k6, k7⟩
  have HP := Lib.hid (show Ph w sp G S B [] [] none 0 [] w2 from ⟨⟨col, p, ⟨k1, big_nil _ _, b1.trans (k7.mono b1.size), fun x hx _ => Nat.le_trans b1.size (k5 x hx)⟩, k2, k3, k4, fun x hx => Classical.byContradiction fun e => by have := k5 x e; have := b1.size; omega, fun x hx => (by cases hx), ⟨Sps.nil _, .inl rfl, fun y hy => (by cases hy)⟩⟩⟩)
  clear hnew k1 k2 k3 k4 k5 k6 k7 b1
  have hGM : G ≤ MT := by omega
  have p1 : ¬ (4611686018427387904 : Int) < (G : Int) := by unfold MT at hGM; omega
  clear q1
  go_wp2_with fail
  obtain ⟨bm, hbm⟩ : ∃ bm, w2.heap.size = bm := ⟨_, rfl⟩
  have HS0 := Lib.hid (show Ps w sp bm G S B [] [bm] none 0 0 [] (w2.alloc (.cells #[.int .u64 (G : Int), .int .i64 (S : Int), .int .i64 (B : Int), .slice none 0 0] 31)) from by
    have b : Below w2.heap.size w2 (w2.alloc (.cells #[.int .u64 (G : Int), .int .i64 (S : Int), .int .i64 (B : Int), .slice none 0 0] 31)) := (Below.refl _ _).alloc (Nat.le_refl _) _
    exact ⟨HP.out.push b (by omega) (by rw [World.size_alloc]; omega), rfl, rfl, by rw [← hbm]; exact Bk.new _ _ _, List.mem_singleton.2 rfl⟩)
  have HPP := Lib.hid (And.intro h2 (And.intro hGM (And.intro q3 (And.intro q4 (And.intro q5 p1)))))
  rw [hbm]
  clear h2 hGM q2 q3 q4 q5 p1 HP hbm
  generalize w2.alloc (.cells #[.int .u64 (G : Int), .int .i64 (S : Int), .int .i64 (B : Int), .slice none 0 0] 31) = w3 at HS0 ⊢
  go_loopw [12] (fun v wr => ∃ (k r : Nat) (L : List Pn) (A : Option Addr) (c : Nat) (M : List Spn), v = .int .i64 (k : Int) ∧ k ≤ n ∧ Hid (Ps w sp bm G S B L [bm] A r c M wr ∧ L.length ≤ k)) (fun v _ => n - (intOf v).toNat)
  case atStart => exact ⟨0, 0, [], none, 0, [], rfl, Nat.zero_le _, Lib.hid ⟨HS0.out, Nat.le_refl _⟩⟩
  case round =>
    clear HS0
    obtain ⟨k, r, L, A, c, M, rfl, hk, HS⟩ := hrel
    by_cases hkn : k < n
    · have hkz : (k : Int) < (n : Int) := by omega
      have hkl : k < La.length := by rw [HN.out]; exact hkn
      obtain ⟨ad, pp, rfl, hpp, F⟩ := (HA.out.below HS.out.1.ph.bel).get hkl
      have hats := HA.out.ats _ (List.getElem_mem hkl)
      have hyk := HK.out _ (List.getElem_mem hkl)
      generalize La[k] = y at F hats hyk
      obtain ⟨K, ⟨s, A1, c1, l⟩, N⟩ := y
      obtain ⟨hyP, hN⟩ := hyk
      obtain ⟨m, hm1⟩ : ∃ m, l.length = m := ⟨_, rfl⟩
      obtain ⟨e0, e1, e2, e3, e4, e5, e6, e7, e8, e9, e10, e11⟩ := F
      dsimp only at hats hyP hN e0 e1 e2 e3 e4 e5 e6 e7 e8 e9 e10 e11
      rw [hm1] at e10
      have hmm : m ≤ 9223372036854775807 := by
        have h1 := hats.cap
        have h2 := hats.max
        unfold maxLen at h2
        omega
      obtain ⟨f, hf⟩ : ∃ f, far s l = f := ⟨_, rfl⟩
      have k40 : k < 40 := by have := HPP.out.1; omega
      have y2 : (0 : Int) ≤ (k : Int) := by omega
      have y3 : ((k : Int)).toNat = k := by omega
      obtain ⟨W, hW⟩ : ∃ W, wr.alloc (.cells (acc K s A1 m c1 N) 36) = W := ⟨_, rfl⟩
      obtain ⟨ba, hba⟩ : ∃ ba, wr.heap.size = ba := ⟨_, rfl⟩
      have bW : Below wr.heap.size wr W := by rw [← hW]; exact (Below.refl _ _).alloc (Nat.le_refl _) _
      have KA := Lib.hid (show Bk W ba 36 (acc K s A1 m c1 N) from by rw [← hW, ← hba]; exact Bk.new _ _ _)
      have HSW := Lib.hid (show Ps w sp bm G S B L [ba, bm] A r c M W ∧ L.length ≤ k from ⟨HS.out.1.push bW (by omega) (by rw [← hW, World.size_alloc]; omega), HS.out.2⟩)
      have HY := Lib.hid (And.intro hats (And.intro hyP (And.intro hN hm1)))
      have HF := Lib.hid hf
      have hfar := far_at s A1 c1 m l f W (hats.below HSW.out.1.ph.bel) hm1 hmm hf
      have HW := Lib.hid hW
      have HBA := Lib.hid hba
      rw [← hW] at hfar
      clear hkl HS bW hats hyP hN hm1 hf hmm hW hba
      go_wp2_with fail
      change Calls _ _ #[spv s (.slice A1 m c1)] _ _
      refine hfar.mono ?_
      rintro e w3 ⟨rfl, b3⟩
      rw [HW.out] at b3
      (try rw [HBA.out])
      have HS3 := Lib.hid (And.intro (HSW.out.1.below b3) HSW.out.2)
      have KA3 := Lib.hid (KA.out.below b3)
      clear hfar HSW KA b3 e0 e1 e2 e3 e4 e5 e6 e7 e8 e9 e10 e11 hpp HW HBA
      cases f with
      | true =>
        have hb := HS3.out.1.ph.bel
        go_wp2
        go_ret
        exact ⟨rfl, hb⟩
      | false =>
        have hr : Nr (s, l) := nr_of (x := (s, l)) HF.out
        have HR := Lib.hid hr
        have HG := Lib.hid HPP.out.2.1
        clear hr HF
        by_cases hK0 : K = 0
        · subst hK0
          obtain ⟨z0, z1, z2, z3, z4, z5, z6, z7, z8, z9, z10, z11⟩ := acc_cells KA3.out
          have hof := of_at s A1 c1 m l w3 (HY.out.1.below HS3.out.1.ph.bel) HY.out.2.2.2 (by rw [← HY.out.2.2.2]; exact HR.out.few)
          go_wp2_with fail
          change Calls _ _ #[spv s (.slice A1 m c1)] _ _
          refine hof.mono ?_
          rintro e w4 ⟨A3, c3, rfl, hd3, b4⟩
          have HS4 := Lib.hid (And.intro (HS3.out.1.below b4) HS3.out.2)
          have KA4 := Lib.hid (KA3.out.below b4)
          have hadd := HS4.out.1.ph.padd s A3 c3 m l HY.out.2.2.2 HY.out.2.1.1 HR.out (hd3.low (Nat.zero_le _)) (by have := HS4.out.2; omega) HG.out
          clear HS3 KA3 z0 z1 z2 z3 z4 z5 z6 z7 z8 z9 z10 z11 hof b4 hd3
          go_wp2_with fail
          refine hadd.mono ?_
          rintro e w5 ⟨A5, c5, M5, A6, c6, M6, kk, L', T, g, rfl, hAd, r1, r2, o1, o2, hPh, hkp, hsz⟩
          obtain ⟨nT, hnT⟩ : ∃ nT, T.length = nT := ⟨_, rfl⟩
          obtain ⟨ng, hng⟩ : ∃ ng, g.length = ng := ⟨_, rfl⟩
          rw [hnT, hng]
          obtain ⟨W6, hW6⟩ : ∃ W6, w5.alloc (.cells #[.slice A5 nT c5, .slice A6 ng c6] 40) = W6 := ⟨_, rfl⟩
          obtain ⟨bf, hbf⟩ : ∃ bf, w5.heap.size = bf := ⟨_, rfl⟩
          have b6 : Below w5.heap.size w5 W6 := by rw [← hW6]; exact (Below.refl _ _).alloc (Nat.le_refl _) _
          have KA6 := Lib.hid ((bk_keep KA4.out (hkp ba (by simp))).below b6)
          have KB6 := Lib.hid ((bk_keep HS4.out.1.kb (hkp bm (by simp))).below b6)
          have HBMF := Lib.hid (show bm ≠ bf from by have := (Array.getElem?_eq_some_iff.1 (bk_keep HS4.out.1.kb (hkp bm (by simp)))).1; omega)
          have KF6 := Lib.hid (show Bk W6 bf 40 #[.slice A5 nT c5, .slice A6 ng c6] from by rw [← hW6, ← hbf]; exact Bk.new _ _ _)
          have HP6 := Lib.hid (hPh.below b6)
          have HO6 := Lib.hid (And.intro (o1.below b6) (And.intro (o2.below b6) (And.intro r1 (And.intro r2 (And.intro hnT hng)))))
          have HAd := Lib.hid hAd
          have hfew := ad_few hAd HS4.out.1.ph.so HS4.out.1.ph.big
          have HPL := Lib.hid (show pns M = L ∧ M.length = r ∧ So L ∧ (∀ x ∈ L, Okx x) ∧ L.length ≤ k ∧ L'.length ≤ k + 1 from ⟨HS4.out.1.pl, HS4.out.1.ln, HS4.out.1.ph.so, HS4.out.1.ph.ok, HS4.out.2, by have := HS4.out.2; omega⟩)
          obtain ⟨bb, hbb⟩ := amb_bool l
          obtain ⟨ck, hck⟩ : ∃ ck, chk s bb = ck := ⟨_, rfl⟩
          have hchk := refcheck_any s A1 c1 m l W6 (HY.out.1.below HP6.out.bel) HY.out.2.2.2 (by rw [← HY.out.2.2.2]; exact HR.out.few) (fun x hx => (HR.out.at_ x hx).1) bb hbb
          rw [hck] at hchk
          have HCK := Lib.hid (And.intro hck hbb)
          obtain ⟨z0, z1, z2, z3, z4, z5, z6, z7, z8, z9, z10, z11⟩ := acc_cells KA6.out
          rw [← hW6] at hchk z0 z1 z2 z3 z4 z5 z6 z7 z8 z9 z10 z11
          have HW6 := Lib.hid hW6
          have HBF := Lib.hid hbf
          clear hadd HS4 KA4 hAd r1 r2 o1 o2 hPh hkp hsz b6 hck hbb hnT hng hfew hW6 hbf
          go_wp2_with fail
          change Calls _ _ #[spv s (.slice A1 m c1)] _ _
          refine hchk.mono ?_
          rintro e w7 ⟨rfl, b7⟩
          (try rw [HBF.out])
          rw [HW6.out] at b7
          have KA7 := Lib.hid (KA6.out.below b7)
          have KB7 := Lib.hid (KB6.out.below b7)
          have KF7 := Lib.hid (KF6.out.below b7)
          have HP7 := Lib.hid (HP6.out.below b7)
          have HO7 := Lib.hid (And.intro (HO6.out.1.below b7) (And.intro (HO6.out.2.1.below b7) HO6.out.2.2))
          clear hchk z0 z1 z2 z3 z4 z5 z6 z7 z8 z9 z10 z11 KA6 KB6 KF6 HP6 HO6 b7 HW6 HBF
          by_cases hc : ck = 0
          · subst hc
            have hMay : May (s, l) := (chk_may (x := (s, l)) HCK.out.2).1 HCK.out.1
            obtain ⟨hkk, hL', hT, hg'⟩ : kk = 0 ∧ L' = (add G S B L (s, l)).1 ∧ T = (add G S B L (s, l)).2.1 ∧ g = (add G S B L (s, l)).2.2 := by
              rcases HAd.out with ⟨a, _, b, c, d⟩ | ⟨_, h, _⟩
              · exact ⟨a, b, c, d⟩
              · exact absurd hMay h
            subst hkk
            have hx : Okx (s, l) := may_okx hMay HY.out.2.1.1 HR.out
            have hall := add_all (G := G) (S := S) (B := B) HPL.out.2.2.1 HPL.out.2.2.2.1 hx
            rw [← hT, ← hg'] at hall
            have hlr : L.length = r := by rw [← HPL.out.1, B07.pns_len]; exact HPL.out.2.1
            have hdd := HP7.out.dadd (Ld := L) HPL.out.2.1 HPL.out.1 HPL.out.2.2.1 HPL.out.2.2.2.1 s A1 c1 m l HY.out.1 HY.out.2.2.2 hx (by have := HPL.out.2.2.2.2.1; omega) HG.out
            rw [← hL', ← hT, ← hg', HO7.out.2.2.2.2.1, HO7.out.2.2.2.2.2] at hdd
            obtain ⟨n9, hn9⟩ : ∃ n9, L'.length = n9 := ⟨_, rfl⟩
            rw [hn9] at hdd
            have HTG := Lib.hid (show (∀ y ∈ T, Okx y) ∧ (∀ y ∈ g, Okx y) ∧ nT ≤ 1000 ∧ ng ≤ 1000 ∧ L'.length = n9 from ⟨hall.1, hall.2.1, by rw [← HO7.out.2.2.2.2.1]; omega, by rw [← HO7.out.2.2.2.2.2]; have := HPL.out.2.2.2.2.1; omega, hn9⟩)
            have hnT : nT ≤ 1000 := HTG.out.2.2.1
            have hng : ng ≤ 1000 := HTG.out.2.2.2.1
            obtain ⟨z0, z1, z2, z3, z4, z5, z6, z7, z8, z9, z10, z11⟩ := acc_cells KA7.out
            obtain ⟨x0, x1, x2, x3, u0, u1, u2, u3⟩ := sac_cells KB7.out
            clear hMay hL' hT hg' hx hall hlr hn9 HCK HAd HP7
            go_wp2_with fail
            change Calls _ _ #[sag G S B A r c, spv s (.slice A1 m c1)] _ _
            refine hdd.mono ?_
            rintro e w8 ⟨A', c', M', A8, c8, M8, A9, c9, M9, rfl, p1, p2, p3, s2, s3, b8, hP8⟩
            obtain ⟨W9, hW9⟩ : ∃ W9, w8.alloc (.cells (sac G S B A' n9 c') 31) = W9 := ⟨_, rfl⟩
            obtain ⟨bn, hbn⟩ : ∃ bn, w8.heap.size = bn := ⟨_, rfl⟩
            have b9 : Below w8.heap.size w8 W9 := by rw [← hW9]; exact (Below.refl _ _).alloc (Nat.le_refl _) _
            have KN := Lib.hid (show Bk W9 bn 31 (sac G S B A' n9 c') from by rw [← hW9, ← hbn]; exact Bk.new _ _ _)
            have KB9 := Lib.hid ((KB7.out.below b8).below b9)
            have KF9 := Lib.hid ((KF7.out.below b8).below b9)
            have HP9 := Lib.hid (hP8.below b9)
            have HO9 := Lib.hid (And.intro ((HO7.out.1.below b8).below b9) (And.intro ((HO7.out.2.1.below b8).below b9) (And.intro (s2.below b9) (And.intro (s3.below b9) (And.intro p1 (And.intro p2 p3))))))
            have HO7' := Lib.hid HO7.out.2.2
            have HW9 := Lib.hid hW9
            have HBN := Lib.hid hbn
            clear hdd z0 z1 z2 z3 z4 z5 z6 z7 z8 z9 z10 z11 x0 x1 x2 x3 u0 u1 u2 u3 KA7 KB7 KF7 HO7 p1 p2 p3 s2 s3 b8 hP8 b9 hW9 hbn
            go_upto_region 24 with fail
            rw [HW9.out]
            (try rw [HBN.out])
            obtain ⟨y0, y1, y2', y3', v0, v1, v2, v3⟩ := sac_cells KN.out
            obtain ⟨x0, x1, x2, x3, u0, u1, u2, u3⟩ := sac_cells KB9.out
            obtain ⟨Y, hY⟩ : ∃ Y, (((W9.setCell ⟨bm, 0, none⟩ (.int .u64 (G : Int))).setCell ⟨bm, 1, none⟩ (.int .i64 (S : Int))).setCell ⟨bm, 2, none⟩ (.int .i64 (B : Int))).setCell ⟨bm, 3, none⟩ (.slice A' n9 c') = Y := ⟨_, rfl⟩
            have F : Wd.Fr [bm] W9 Y := by rw [← hY]; exact (((((Fr.refl _ W9).then (Fr.setCell _ ⟨bm, 0, none⟩ _ (by simp))).then (Fr.setCell _ ⟨bm, 1, none⟩ _ (by simp))).then (Fr.setCell _ ⟨bm, 2, none⟩ _ (by simp))).then (Fr.setCell _ ⟨bm, 3, none⟩ _ (by simp)))
            have hnt := sac_nt KB9.out
            have HSY := Lib.hid (show Ps w sp bm G S B L' [bm] A' n9 c' M' Y from (HP9.out.put (by simp) KB9.out n9 HO9.out.2.2.2.2.1 (by rw [← HTG.out.2.2.2.2, ← HO9.out.2.2.2.2.1, B07.pns_len]) hY).sub (fun x hx => List.mem_cons_of_mem _ hx) (List.mem_singleton.2 rfl))
            have KFY := Lib.hid (show Bk Y bf 40 #[.slice A5 nT c5, .slice A6 ng c6] from bk_keep KF9.out (F.block bf (Array.getElem?_eq_some_iff.1 KF9.out).1 (by simpa using fun e => HBMF.out e.symm)))
            have HOY := Lib.hid (show Sps Y A5 c5 M5 ∧ Sps Y A6 c6 M6 ∧ Sps Y A8 c8 M8 ∧ Sps Y A9 c9 M9 ∧ pns M8 = T ∧ pns M9 = g from ⟨sps_fr HO9.out.1 hnt F, sps_fr HO9.out.2.1 hnt F, sps_fr HO9.out.2.2.1 hnt F, sps_fr HO9.out.2.2.2.1 hnt F, HO9.out.2.2.2.2.2.1, HO9.out.2.2.2.2.2.2⟩)
            have HYY := Lib.hid hY
            clear F hnt hY HP9 HO9 KN KB9 KF9 HW9 HBN
            go_upto_region 25 with fail
            rw [HYY.out]
            clear y0 y1 y2' y3' v0 v1 v2 v3 x0 x1 x2 x3 u0 u1 u2 u3 HYY
            have f0 := KFY.out.cell 0
            have f1 := KFY.out.cell 1
            simp only [List.getElem?_toArray, List.getElem?_cons_zero, List.getElem?_cons_succ] at f0 f1
            have hl5 : M5.length = nT := by rw [← HO7'.out.2.2.1, ← HO7'.out.1, B07.pns_len]
            have htos := tos_any Y A5 c5 nT M5 HOY.out.1 hl5 (by omega) (pns_40 HO7'.out.1 HTG.out.1)
            go_wp2_with fail
            refine htos.mono ?_
            rintro e w11 ⟨B1, d1, N1, rfl, hN1, hP1, hown1, b11⟩
            have hl8 : M8.length = nT := by rw [← HO7'.out.2.2.1, ← HOY.out.2.2.2.2.1, B07.pns_len]
            have hsm := sames_any w11 B1 A8 d1 c8 nT nT N1 M8 true hown1.sps (HOY.out.2.2.1.below b11) hN1 hl8 (by omega) (by omega) (pns_40 (hP1.trans HO7'.out.1) HTG.out.1) (pns_40 HOY.out.2.2.2.2.1 HTG.out.1) (by simp [hP1, HO7'.out.1, HOY.out.2.2.2.2.1])
            have B11 := Lib.hid b11
            clear htos f0 f1 hl5 hl8 hN1 hP1 hown1 b11
            go_wp2_with fail
            refine hsm.mono ?_
            rintro e w12 ⟨rfl, b12⟩
            have B12 := Lib.hid (B11.out.trans (b12.mono B11.out.size))
            have KF12 := KFY.out.below B12.out
            have f0 := KF12.cell 0
            have f1 := KF12.cell 1
            simp only [List.getElem?_toArray, List.getElem?_cons_zero, List.getElem?_cons_succ] at f0 f1
            have hl6 : M6.length = ng := by rw [← HO7'.out.2.2.2, ← HO7'.out.2.1, B07.pns_len]
            have htos := tos_any w12 A6 c6 ng M6 (HOY.out.2.1.below B12.out) hl6 (by omega) (pns_40 HO7'.out.2.1 HTG.out.2.1)
            clear hsm b12 KF12
            go_wp2_with fail
            refine htos.mono ?_
            rintro e w13 ⟨B2, d2, N2, rfl, hN2, hP2, hown2, b13⟩
            have B13 := Lib.hid (B12.out.trans (b13.mono B12.out.size))
            have hl9 : M9.length = ng := by rw [← HO7'.out.2.2.2, ← HOY.out.2.2.2.2.2, B07.pns_len]
            have hsm := sames_any w13 B2 A9 d2 c9 ng ng N2 M9 true hown2.sps (HOY.out.2.2.2.1.below B13.out) hN2 hl9 (by omega) (by omega) (pns_40 (hP2.trans HO7'.out.2.1) HTG.out.2.1) (pns_40 HOY.out.2.2.2.2.2 HTG.out.2.1) (by simp [hP2, HO7'.out.2.1, HOY.out.2.2.2.2.2])
            clear htos f0 f1 hl6 hl9 hN2 hP2 hown2 b13
            go_wp2_with fail
            refine hsm.mono ?_
            rintro e w9 ⟨rfl, b14⟩
            have HS9 := Lib.hid (show Ps w sp bm G S B L' [bm] A' n9 c' M' w9 ∧ L'.length ≤ k + 1 from ⟨HSY.out.below (B13.out.trans (b14.mono B13.out.size)), HPL.out.2.2.2.2.2⟩)
            obtain ⟨L9, hL9⟩ : ∃ L9, L9 = L' := ⟨_, rfl⟩
            obtain ⟨A9', hA9'⟩ : ∃ A9', A9' = A' := ⟨_, rfl⟩
            rw [← hL9] at HS9
            clear hsm b14 B13 B12 B11 HSY KFY HOY HO7' HTG HPL hnT hng
            obtain ⟨x0, x1, x2, x3, u0, u1, u2, u3⟩ := sac_cells HS9.out.1.kb
            have hsame := HS9.out.1.ph.psame HS9.out.1.ln HS9.out.1.pl (by have := HS9.out.2; omega) HG.out
            go_wp2_with fail
            refine hsame.mono ?_
            rintro e w10 ⟨rfl, b10⟩
            have HS10 := Lib.hid (And.intro (HS9.out.1.below b10) HS9.out.2)
            clear hsame HS9 b10 x0 x1 x2 x3 u0 u1 u2 u3
            go_wp2
            go_roundw
            case rel => exact ⟨k + 1, n9, L9, A', c', M', by go_num, by omega, HS10⟩
            case measure => first | go_num | (simp [intOf]; omega)
          · have hno : ¬ May (s, l) := fun h => hc (by rw [← HCK.out.1]; exact (chk_may (x := (s, l)) HCK.out.2).2 h)
            obtain ⟨rfl, rfl, rfl, rfl⟩ : kk = 1 ∧ L' = L ∧ nT = 0 ∧ ng = 0 := by
              rcases HAd.out with ⟨_, h, _⟩ | ⟨h1, _, h2, h3, h4⟩
              · exact absurd h hno
              · refine ⟨h1, h2, ?_, ?_⟩
                · rw [← HO7.out.2.2.2.2.1, h3]; rfl
                · rw [← HO7.out.2.2.2.2.2, h4]; rfl
            have hcz : (ck == 0) = false := by simpa using hc
            have f0 := KF7.out.cell 0
            have f1 := KF7.out.cell 1
            simp only [List.getElem?_toArray, List.getElem?_cons_zero, List.getElem?_cons_succ] at f0 f1
            have HS10 := Lib.hid (show Ps w sp bm G S B L' [bm] A r c M w7 ∧ L'.length ≤ k + 1 from ⟨⟨HP7.out.sub (fun x hx => List.mem_cons_of_mem _ hx), HPL.out.1, HPL.out.2.1, KB7.out, List.mem_singleton.2 rfl⟩, by have := HPL.out.2.2.2.2.1; omega⟩)
            clear KA7 KB7 HP7 HO7 HPL HAd hno
            go_wp2
            go_roundw
            case rel => exact ⟨k + 1, r, L', A, c, M, by go_num, by omega, HS10⟩
            case measure => first | go_num | (simp [intOf]; omega)
        by_cases hK1 : K = 1
        · subst hK1
          have hbd := HY.out.2.2.1
          obtain ⟨z0, z1, z2, z3, z4, z5, z6, z7, z8, z9, z10, z11⟩ := acc_cells KA3.out
          have htk := HS3.out.1.ph.ptake N hbd (by have := HS3.out.2; omega)
          go_wp2_with fail
          refine htk.mono ?_
          rintro e w5 ⟨A5, c5, M5, rfl, r1, o1, hPh, hkp, hsz⟩
          have KA5 := Lib.hid (bk_keep KA3.out (hkp ba (by simp)))
          have KB5 := Lib.hid (bk_keep HS3.out.1.kb (hkp bm (by simp)))
          have HP5 := Lib.hid hPh
          have HO5 := Lib.hid (And.intro o1 r1)
          have HPL := Lib.hid (show pns M = L ∧ M.length = r ∧ (∀ x ∈ L, Okx x) ∧ L.length ≤ k from ⟨HS3.out.1.pl, HS3.out.1.ln, HS3.out.1.ph.ok, HS3.out.2⟩)
          obtain ⟨nx, hnx⟩ : ∃ nx, (trace L N).length = nx := ⟨_, rfl⟩
          obtain ⟨n9, hn9⟩ : ∃ n9, (rest L N).length = n9 := ⟨_, rfl⟩
          obtain ⟨tb, htb⟩ : ∃ tb, decide (N ∈ trs L) = tb := ⟨_, rfl⟩
          have hpl := part_len L N
          rw [hnx, hn9] at hpl
          have htz : tb = decide (0 < nx) := by
            rw [← htb, ← hnx]
            by_cases h : N ∈ trs L
            · rw [decide_eq_true h, decide_eq_true (List.length_pos_iff.2 (trs_trace.1 h))]
            · rw [decide_eq_false h, trace_out h]; rfl
          have hlr : L.length = r := by rw [← HPL.out.1, B07.pns_len]; exact HPL.out.2.1
          have hdd := HP5.out.dtake (Ld := L) HPL.out.2.1 HPL.out.1 HPL.out.2.2.1 N (by have := HPL.out.2.2.2; omega)
          rw [hnx, hn9] at hdd
          rw [hnx, htb]
          have hk' := HPL.out.2.2.2
          have hnxl : nx ≤ 40 := by omega
          have HLN := Lib.hid (show (trace L N).length = nx ∧ (rest L N).length = n9 ∧ n9 ≤ k + 1 ∧ tb = decide (0 < nx) from ⟨hnx, hn9, by omega, htz⟩)
          clear htk HS3 KA3 z0 z1 z2 z3 z4 z5 z6 z7 z8 z9 z10 z11 r1 o1 hPh hkp hsz hnx hn9 htb hpl htz hlr hk'
          obtain ⟨z0, z1, z2, z3, z4, z5, z6, z7, z8, z9, z10, z11⟩ := acc_cells KA5.out
          obtain ⟨x0, x1, x2, x3, u0, u1, u2, u3⟩ := sac_cells KB5.out
          go_wp2_with fail
          change Calls _ _ #[sag G S B A r c, .int .u64 (N : Int)] _ _
          refine hdd.mono ?_
          rintro e w8 ⟨A8, c8, M8, A', c', M', rfl, p1, p2, s1, b8, hP8⟩
          obtain ⟨W9, hW9⟩ : ∃ W9, w8.alloc (.cells (sac G S B A' n9 c') 31) = W9 := ⟨_, rfl⟩
          obtain ⟨bn, hbn⟩ : ∃ bn, w8.heap.size = bn := ⟨_, rfl⟩
          have b9 : Below w8.heap.size w8 W9 := by rw [← hW9]; exact (Below.refl _ _).alloc (Nat.le_refl _) _
          have KN := Lib.hid (show Bk W9 bn 31 (sac G S B A' n9 c') from by rw [← hW9, ← hbn]; exact Bk.new _ _ _)
          have KB9 := Lib.hid ((KB5.out.below b8).below b9)
          have HP9 := Lib.hid (hP8.below b9)
          have HO9 := Lib.hid (And.intro ((HO5.out.1.below b8).below b9) (And.intro (s1.below b9) (And.intro HO5.out.2 (And.intro p1 p2))))
          have HW9 := Lib.hid hW9
          have HBN := Lib.hid hbn
          clear hdd z0 z1 z2 z3 z4 z5 z6 z7 z8 z9 z10 z11 x0 x1 x2 x3 u0 u1 u2 u3 KA5 KB5 HO5 HP5 p1 p2 s1 b8 hP8 b9 hW9 hbn
          go_upto_region 30 with fail
          rw [HW9.out]
          (try rw [HBN.out])
          obtain ⟨y0, y1, y2', y3', v0, v1, v2, v3⟩ := sac_cells KN.out
          obtain ⟨x0, x1, x2, x3, u0, u1, u2, u3⟩ := sac_cells KB9.out
          obtain ⟨Y, hY⟩ : ∃ Y, (((W9.setCell ⟨bm, 0, none⟩ (.int .u64 (G : Int))).setCell ⟨bm, 1, none⟩ (.int .i64 (S : Int))).setCell ⟨bm, 2, none⟩ (.int .i64 (B : Int))).setCell ⟨bm, 3, none⟩ (.slice A' n9 c') = Y := ⟨_, rfl⟩
          have F : Wd.Fr [bm] W9 Y := by rw [← hY]; exact (((((Fr.refl _ W9).then (Fr.setCell _ ⟨bm, 0, none⟩ _ (by simp))).then (Fr.setCell _ ⟨bm, 1, none⟩ _ (by simp))).then (Fr.setCell _ ⟨bm, 2, none⟩ _ (by simp))).then (Fr.setCell _ ⟨bm, 3, none⟩ _ (by simp)))
          have hnt := sac_nt KB9.out
          have HSY := Lib.hid (show Ps w sp bm G S B (rest L N) [bm] A' n9 c' M' Y from (HP9.out.put (by simp) KB9.out n9 HO9.out.2.2.2.2 (by rw [← HLN.out.2.1, ← HO9.out.2.2.2.2, B07.pns_len]) hY).sub (fun x hx => List.mem_cons_of_mem _ hx) (List.mem_singleton.2 rfl))
          have HOY := Lib.hid (show Sps Y A5 c5 M5 ∧ Sps Y A8 c8 M8 ∧ pns M5 = trace L N ∧ pns M8 = trace L N from ⟨sps_fr HO9.out.1 hnt F, sps_fr HO9.out.2.1 hnt F, HO9.out.2.2.1, HO9.out.2.2.2.1⟩)
          have HYY := Lib.hid hY
          clear F hnt hY HP9 HO9 KN KB9 HW9 HBN
          go_upto_region 31 with fail
          rw [HYY.out]
          clear y0 y1 y2' y3' v0 v1 v2 v3 x0 x1 x2 x3 u0 u1 u2 u3 HYY
          have hl5 : M5.length = nx := by rw [← HLN.out.1, ← HOY.out.2.2.1, B07.pns_len]
          have hl8 : M8.length = nx := by rw [← HLN.out.1, ← HOY.out.2.2.2, B07.pns_len]
          have hok5 : ∀ y ∈ trace L N, Okx y := fun y hy => HPL.out.2.2.1 y (mem_trace.1 hy).1
          have htos := tos_any Y A5 c5 nx M5 HOY.out.1 hl5 (by omega) (pns_40 HOY.out.2.2.1 hok5)
          have HT5 := Lib.hid (And.intro hl8 (pns_40 HOY.out.2.2.2 hok5))
          have HT6 := Lib.hid (pns_40 HOY.out.2.2.1 hok5)
          clear hl5 hl8 hok5
          have htz := HLN.out.2.2.2
          cases tb with
          | true =>
            have hz : 0 < nx := by simpa using htz.symm
            have hzz : (0 : Int) < (nx : Int) := by omega
            clear htz
            go_wp2_with fail
            refine htos.mono ?_
            rintro e w11 ⟨B1, d1, N1, rfl, hN1, hP1, hown1, b11⟩
            have hsm := sames_any w11 B1 A8 d1 c8 _ _ N1 M8 true hown1.sps (HOY.out.2.1.below b11) hN1 HT5.out.1 (by omega) (by omega) (fun y hy => by
              have := hP1.trans HOY.out.2.2.1
              exact pns_40 this (fun y hy => HPL.out.2.2.1 y (mem_trace.1 hy).1) y hy) HT5.out.2 (by simp [hP1, HOY.out.2.2.1, HOY.out.2.2.2])
            have B11 := Lib.hid b11
            clear htos hN1 hP1 hown1 b11
            go_wp2_with fail
            refine hsm.mono ?_
            rintro e w9 ⟨rfl, b14⟩
            have HS9 := Lib.hid (show Ps w sp bm G S B (rest L N) [bm] A' n9 c' M' w9 ∧ (rest L N).length ≤ k + 1 from ⟨HSY.out.below (B11.out.trans (b14.mono B11.out.size)), by rw [HLN.out.2.1]; exact HLN.out.2.2.1⟩)
            obtain ⟨L9, hL9⟩ : ∃ L9, L9 = rest L N := ⟨_, rfl⟩
            rw [← hL9] at HS9
            clear hsm b14 B11 HSY HOY HPL HT5 HT6 HLN
            obtain ⟨x0, x1, x2, x3, u0, u1, u2, u3⟩ := sac_cells HS9.out.1.kb
            have hsame := HS9.out.1.ph.psame HS9.out.1.ln HS9.out.1.pl (by have := HS9.out.2; omega) HG.out
            go_wp2_with fail
            refine hsame.mono ?_
            rintro e w10 ⟨rfl, b10⟩
            have HS10 := Lib.hid (And.intro (HS9.out.1.below b10) HS9.out.2)
            clear hsame HS9 b10 x0 x1 x2 x3 u0 u1 u2 u3
            go_wp2
            go_roundw
            case rel => exact ⟨k + 1, n9, L9, A', c', M', by go_num, by omega, HS10⟩
            case measure => first | go_num | (simp [intOf]; omega)
          | false =>
            have hz : nx = 0 := by
              have : ¬ 0 < nx := by simpa using htz.symm
              omega
            subst hz
            clear htz
            go_wp2_with fail
            refine htos.mono ?_
            rintro e w11 ⟨B1, d1, N1, rfl, hN1, hP1, hown1, b11⟩
            have hsm := sames_any w11 B1 A8 d1 c8 _ _ N1 M8 true hown1.sps (HOY.out.2.1.below b11) hN1 HT5.out.1 (by omega) (by omega) (fun y hy => by
              have := hP1.trans HOY.out.2.2.1
              exact pns_40 this (fun y hy => HPL.out.2.2.1 y (mem_trace.1 hy).1) y hy) HT5.out.2 (by simp [hP1, HOY.out.2.2.1, HOY.out.2.2.2])
            have B11 := Lib.hid b11
            clear htos hN1 hP1 hown1 b11
            go_wp2_with fail
            refine hsm.mono ?_
            rintro e w9 ⟨rfl, b14⟩
            have HS9 := Lib.hid (show Ps w sp bm G S B (rest L N) [bm] A' n9 c' M' w9 ∧ (rest L N).length ≤ k + 1 from ⟨HSY.out.below (B11.out.trans (b14.mono B11.out.size)), by rw [HLN.out.2.1]; exact HLN.out.2.2.1⟩)
            obtain ⟨L9, hL9⟩ : ∃ L9, L9 = rest L N := ⟨_, rfl⟩
            rw [← hL9] at HS9
            clear hsm b14 B11 HSY HOY HPL HT5 HT6 HLN
            obtain ⟨x0, x1, x2, x3, u0, u1, u2, u3⟩ := sac_cells HS9.out.1.kb
            have hsame := HS9.out.1.ph.psame HS9.out.1.ln HS9.out.1.pl (by have := HS9.out.2; omega) HG.out
            go_wp2_with fail
            refine hsame.mono ?_
            rintro e w10 ⟨rfl, b10⟩
            have HS10 := Lib.hid (And.intro (HS9.out.1.below b10) HS9.out.2)
            clear hsame HS9 b10 x0 x1 x2 x3 u0 u1 u2 u3
            go_wp2
            go_roundw
            case rel => exact ⟨k + 1, n9, L9, A', c', M', by go_num, by omega, HS10⟩
            case measure => first | go_num | (simp [intOf]; omega)
        by_cases hK2 : K = 2
        · subst hK2
          have hbd := HY.out.2.2.1
          obtain ⟨nd, hnd⟩ : ∃ nd, (due G L N).length = nd := ⟨_, rfl⟩
          have hlr := HS3.out.1.few
          have hlk := HS3.out.2
          have hnd40 : nd ≤ 40 := by
            have h1 := due_len G L N
            have h2 := als_len G L
            have h3 := trs_len L
            omega
          have HND := Lib.hid (And.intro hnd hnd40)
          have HDp := Lib.hid (fun (W : World) (hW : Below w3.heap.size w3 W) => show Calls Tryz.prog 19 #[.pointer (some ⟨sp, 0, none⟩), .int .u64 (N : Int)] W fun e w' => ∃ U d, e = .returned (.slice U nd d) ∧ Us w' U d (due G L N) ∧ Below W.heap.size W w' from
            ((HS3.out.1.ph.below hW).pdue N hbd).mono (by rintro e w' ⟨U, d, rfl, h1, h2, -⟩; exact ⟨U, d, by rw [hnd], h1, h2⟩))
          have HDl := Lib.hid (fun (W : World) (hW : Below w3.heap.size w3 W) => show Calls Tryz.prog 20 #[sag G S B A r c, .int .u64 (N : Int)] W fun e w' => ∃ U d, e = .returned (.slice U nd d) ∧ Us w' U d (due G L N) ∧ Below W.heap.size W w' from
            (ldue_at G S B N A r c M L W (HS3.out.1.ph.sps.below hW) HS3.out.1.ln HS3.out.1.pl HS3.out.1.ph.so HS3.out.1.ph.ok (by omega) HG.out hbd).mono (by rintro e w' ⟨U, d, rfl, h1, h2⟩; exact ⟨U, d, by rw [hnd], h1, h2⟩))
          have HSW := Lib.hid (fun (W : World) (hW : Below w3.heap.size w3 W) => show W.cell? ⟨ba, 11, none⟩ = some (.int .u64 (N : Int)) ∧ W.cell? ⟨bm, 0, none⟩ = some (.int .u64 (G : Int)) ∧ W.cell? ⟨bm, 1, none⟩ = some (.int .i64 (S : Int)) ∧ W.cell? ⟨bm, 2, none⟩ = some (.int .i64 (B : Int)) ∧ W.cell? ⟨bm, 3, none⟩ = some (.slice A r c) from
            ⟨(KA3.out.below hW).cell 11, (HS3.out.1.kb.below hW).cell 0, (HS3.out.1.kb.below hW).cell 1, (HS3.out.1.kb.below hW).cell 2, (HS3.out.1.kb.below hW).cell 3⟩)
          obtain ⟨z0, z1, z2, z3, z4, z5, z6, z7, z8, z9, z10, z11⟩ := acc_cells KA3.out
          clear hnd hlr hlk hnd40
          go_upto_region 34 with fail
          clear z0 z1 z2 z3 z4 z5 z6 z7 z8 z9 z10 z11
          go_cut [175] from 166 to 175 (fun u wx => u = .bool false ∧ Below w3.heap.size w3 wx)
          case first =>
            refine reg34 _ (by kernel_rfl) _ w3 _ _ _ _ _ _ _ _ _ _ _ _ _ _ _ _ _ _ _ _ _ _ _ _ _ _ _ _ _ _ _ _ _ _ _ _ _ _ _ _ _ _ _ _ _ _ _ _ _ _ _ _ _ _ _ _ _ _ _ _ _ _ _ _ _ _ _ _ _ _ _ _ _ _ _ _ _ _ _ _ _ _ _ _ _ _ _ _ _ _ _ _ _ _ _ _ _ _ _ _ _ _ _ _ _ _ _ _ _ _ _ _ _ _ _ _ _ _ _ _ _ _ _ _ _ _ _ _ _ _ _ _ _ _ _ _ _ _ _ _ _ _ _ _ _ _ _ _ _ _ _ _ _ _ _ _ _ _ _ _ _ _ _ _ _ _ _ _ _ _ _ _ _ _ _ _ _ _ _ _ _ _ _ _ _ _ _ _ _ _ _ _ _ _ _ _ _ _ _ _ _ _ _ _ _ _ _ _ _ _ _ sp ba bm N G S B A r c nd (due G L N) HND.out.1 HND.out.2 HDp.out HDl.out HSW.out ?_ ?_
            · exact fun _ d _ _ _ h => by cases d <;> exact h
            · intro wc v166 v167 v168 v169 v170 v171 v172 v173 v174 hb
              go_wp2_with fail
              go_meet
              exact ⟨rfl, hb⟩
          case rest =>
            obtain ⟨rfl, B3⟩ := hcut
            have HS9 := Lib.hid (show Ps w sp bm G S B L [bm] A r c M _ ∧ L.length ≤ k + 1 from ⟨(HS3.out.1.below B3).sub (fun x hx => List.mem_cons_of_mem _ hx) (List.mem_singleton.2 rfl), by have := HS3.out.2; omega⟩)
            clear B3 HSW HDp HDl HND HS3 KA3
            obtain ⟨x0, x1, x2, x3, u0, u1, u2, u3⟩ := sac_cells HS9.out.1.kb
            have hsame := HS9.out.1.ph.psame HS9.out.1.ln HS9.out.1.pl (by have := HS9.out.2; omega) HG.out
            go_wp2_with fail
            refine hsame.mono ?_
            rintro e w10 ⟨rfl, b10⟩
            have HS10 := Lib.hid (And.intro (HS9.out.1.below b10) HS9.out.2)
            clear hsame HS9 b10 x0 x1 x2 x3 u0 u1 u2 u3
            go_wp2
            go_roundw
            case rel => exact ⟨k + 1, r, L, A, c, M, by go_num, by omega, HS10⟩
            case measure => first | go_num | (simp [intOf]; omega)
        by_cases hK3 : K = 3
        · subst hK3
          have hbd := HY.out.2.2.1
          obtain ⟨ids, hids⟩ : ∃ ids, due G L N = ids := ⟨_, rfl⟩
          obtain ⟨nd, hnd⟩ : ∃ nd, ids.length = nd := ⟨_, rfl⟩
          have hlr := HS3.out.1.few
          have hlk := HS3.out.2
          have hnd40 : nd ≤ 40 := by
            have h1 := due_len G L N
            have h2 := als_len G L
            have h3 := trs_len L
            rw [hids] at h1
            omega
          have hdu := HS3.out.1.ph.pdue N hbd
          rw [hids] at hdu
          have hdl := fun W (hW : Below w3.heap.size w3 W) => ldue_at G S B N A r c M L W (HS3.out.1.ph.sps.below hW) HS3.out.1.ln HS3.out.1.pl HS3.out.1.ph.so HS3.out.1.ph.ok (by omega) HG.out hbd
          rw [hids] at hdl
          have HND := Lib.hid (And.intro hnd hnd40)
          have HDL := Lib.hid hdl
          obtain ⟨z0, z1, z2, z3, z4, z5, z6, z7, z8, z9, z10, z11⟩ := acc_cells KA3.out
          clear hids hnd hlr hlk hnd40 hdl
          go_wp2_with fail
          refine hdu.mono ?_
          rintro e w4 ⟨U, d, rfl, hu, b4, hub⟩
          rw [HND.out.1]
          have HS4 := Lib.hid (And.intro (HS3.out.1.told b4 hub) HS3.out.2)
          have HNE := Lib.hid (show ∀ a, U = some a → a.block ≠ bm from fun a ha => by have h1 := (hub a ha).1; have h2 := HS3.out.1.ph.lt HS3.out.1.mu; omega)
          have HU4 := Lib.hid hu
          have KA4 := Lib.hid (KA3.out.below b4)
          have hdl := HDL.out w4 b4
          rw [HND.out.1] at hdl
          clear hdu hu hub b4 HS3 KA3 HDL z0 z1 z2 z3 z4 z5 z6 z7 z8 z9 z10 z11
          obtain ⟨z0, z1, z2, z3, z4, z5, z6, z7, z8, z9, z10, z11⟩ := acc_cells KA4.out
          obtain ⟨x0, x1, x2, x3, u0, u1, u2, u3⟩ := sac_cells HS4.out.1.kb
          go_wp2_with fail
          change Calls _ _ #[sag G S B A r c, .int .u64 (N : Int)] _ _
          refine hdl.mono ?_
          rintro e w5 ⟨U2, d2, rfl, hu2, b5⟩
          have hin := ints_at U U2 d d2 nd nd ids ids true w5 (HU4.out.below b5) hu2 HND.out.1 HND.out.1 (by have := HND.out.2; omega) (by have := HND.out.2; omega) (by simp)
          have B5 := Lib.hid b5
          clear hdl hu2 b5 KA4 z0 z1 z2 z3 z4 z5 z6 z7 z8 z9 z10 z11 x0 x1 x2 x3 u0 u1 u2 u3
          go_wp2_with fail
          refine hin.mono ?_
          rintro e w6 ⟨rfl, b6⟩
          have B6 := B5.out.trans (b6.mono B5.out.size)
          have HS6 := Lib.hid (show Ps w sp bm G S B L [ub U bm, bm] A r c M w6 ∧ Us w6 U d ids ∧ L.length ≤ k from ⟨HS4.out.1.below B6, HU4.out.below B6, HS4.out.2⟩)
          clear hin b6 B5 B6 HS4 HU4
          go_wp2_with fail
          go_loopw [24] (fun v wr => ∃ (j r2 : Nat) (A2 : Option Addr) (c2 : Nat) (M2 : List Spn), v = .int .i64 (j : Int) ∧ j ≤ nd ∧ Hid (Ps w sp bm G S B (rems L (ids.take j)) [ub U bm, bm] A2 r2 c2 M2 wr ∧ Us wr U d ids ∧ L.length ≤ k)) (fun v _ => nd - (intOf v).toNat)
          case atStart => exact ⟨0, r, A, c, M, rfl, Nat.zero_le _, HS6⟩
          case round =>
            clear HS6
            obtain ⟨j, r2, A2, c2, M2, rfl, hj, HSj⟩ := hrel
            by_cases hjn : j < nd
            · have hji : j < ids.length := by rw [HND.out.1]; exact hjn
              obtain ⟨ad, rfl, y0, htb⟩ := HSj.out.2.1.get hji
              have hst := rems_step (L := L) hji
              obtain ⟨t, ht⟩ : ∃ t, ids[j] = t := ⟨_, rfl⟩
              rw [ht] at y0 htb hst
              have hrl := rems_len L (ids.take j)
              obtain ⟨Lj, hLj⟩ : ∃ Lj, rems L (ids.take j) = Lj := ⟨_, rfl⟩
              rw [hLj] at HSj hst hrl
              have hlk := HSj.out.2.2
              have hfew : Lj.length ≤ 500 := by omega
              have hpt := HSj.out.1.ph.ptake t htb hfew
              have HST := Lib.hid hst
              have HFW := Lib.hid (show Lj.length = r2 ∧ Lj.length ≤ 500 from ⟨HSj.out.1.few, hfew⟩)
              have j0 : (0 : Int) ≤ (j : Int) := by omega
              have j1 : (j : Int) < (nd : Int) := by omega
              have j2 : ((j : Int)).toNat = j := by omega
              have j40 : j < 40 := by have := HND.out.2; omega
              clear hji ht hst hrl hLj hlk hfew
              go_wp2_with fail
              refine hpt.mono ?_
              rintro e w7 ⟨A7, c7, M7, rfl, r7, o7, hPh, hkp, hsz⟩
              have HP7 := Lib.hid hPh
              have KB7 := Lib.hid (bk_keep HSj.out.1.kb (hkp bm (by simp)))
              have HU7 := Lib.hid (us_ub (b := bm) HSj.out.2.1 (hkp _ (by simp)))
              have HM := Lib.hid (show pns M2 = Lj ∧ M2.length = r2 ∧ (∀ x ∈ Lj, Okx x) ∧ L.length ≤ k from ⟨HSj.out.1.pl, HSj.out.1.ln, HSj.out.1.ph.ok, HSj.out.2.2⟩)
              have y7 := us_cell HU7.out (by rw [HND.out.1]; exact hjn) y0 HSj.out.2.1
              clear hpt HSj r7 o7 hPh hkp hsz y0
              go_upto_region 44 with fail
              refine reg44 _ (by kernel_rfl) _ w7 _ _ _ _ _ _ _ _ _ _ _ _ _ _ _ _ _ _ _ _ _ _ _ _ _ _ _ _ _ _ _ _ _ _ _ _ _ _ _ _ _ _ _ _ _ _ _ _ _ _ _ _ _ _ _ _ _ _ _ _ _ _ _ _ _ _ _ _ _ _ _ _ _ _ _ _ _ _ _ _ _ _ _ _ _ _ _ _ _ _ _ _ _ _ _ _ _ _ _ _ _ _ _ _ _ _ _ _ _ _ _ _ _ _ _ _ _ _ _ _ _ _ _ _ _ _ _ _ _ _ _ _ _ _ _ _ _ _ _ _ _ _ _ _ _ _ _ _ _ _ _ _ _ _ _ _ _ _ _ _ _ _ _ _ _ _ _ _ _ _ _ _ _ _ _ _ _ _ _ _ _ _ _ _ _ _ _ _ _ _ _ _ _ _ _ _ _ _ _ _ _ _ _ _ _ _ _ _ _ _ _ bm nd d j t G ad S B A2 r2 c2 hjn (Tn w sp bm G S B Lj t (some ad) d ids A2 r2 c2) ?_ ?_ ?_ ?_ ?_
              · exact fun W hW => Tn.of (HP7.out.below hW) HM.out.2.1 HM.out.1 HM.out.2.2.1 (by rw [← HFW.out.1]; exact HFW.out.2) (KB7.out.below hW) (HU7.out.below hW)
              · exact fun W hW => ⟨(KB7.out.below hW).cell 0, (KB7.out.below hW).cell 1, (KB7.out.below hW).cell 2, (KB7.out.below hW).cell 3, (hW.cell (World.block_lt_of_cell? _ _ y7)).trans y7⟩
              · exact fun W hW i => (KB7.out.below hW).frozen i
              · exact fun _ d _ _ _ h => by cases d <;> exact h
              · intro A5 n5 c5 wc v201 v202 v203 v204 v205 v206 v207 v208 v209 hp
                obtain ⟨Y, hY⟩ : ∃ Y, (((wc.setCell ⟨bm, 0, none⟩ (.int .u64 (G : Int))).setCell ⟨bm, 1, none⟩ (.int .i64 (S : Int))).setCell ⟨bm, 2, none⟩ (.int .i64 (B : Int))).setCell ⟨bm, 3, none⟩ (.slice A5 n5 c5) = Y := ⟨_, rfl⟩
                obtain ⟨M5, hp5, hu5⟩ := hp.put HNE.out hY
                rw [hY]
                rw [← HST.out] at hp5
                have HS8 := Lib.hid (And.intro hp5 (And.intro hu5 HM.out.2.2.2))
                clear hp hY hp5 hu5 HM HU7 KB7 HP7 HST HFW y7
                go_wp2
                go_roundw
                case rel => exact ⟨j + 1, n5, A5, c5, M5, by go_num, by omega, HS8⟩
                case measure => first | go_num | (simp [intOf]; omega)
            · obtain rfl : j = nd := by omega
              have hjz : ¬ (j : Int) < (j : Int) := by omega
              have HS9 := Lib.hid (show Ps w sp bm G S B (rems L (ids.take j)) [bm] A2 r2 c2 M2 wr ∧ (rems L (ids.take j)).length ≤ k + 1 from ⟨HSj.out.1.sub (fun x hx => List.mem_cons_of_mem _ hx) (List.mem_singleton.2 rfl), by have h1 := rems_len L (ids.take j); have h2 := HSj.out.2.2; omega⟩)
              obtain ⟨L9, hL9⟩ : ∃ L9, rems L (ids.take j) = L9 := ⟨_, rfl⟩
              rw [hL9] at HS9
              clear HSj hL9
              obtain ⟨x0, x1, x2, x3, u0, u1, u2, u3⟩ := sac_cells HS9.out.1.kb
              have hsame := HS9.out.1.ph.psame HS9.out.1.ln HS9.out.1.pl (by have := HS9.out.2; omega) HG.out
              go_wp2_with fail
              refine hsame.mono ?_
              rintro e w10 ⟨rfl, b10⟩
              have HS10 := Lib.hid (And.intro (HS9.out.1.below b10) HS9.out.2)
              clear hsame HS9 b10 x0 x1 x2 x3 u0 u1 u2 u3
              go_wp2
              go_roundw
              case rel => exact ⟨k + 1, r2, L9, A2, c2, M2, by go_num, by omega, HS10⟩
              case measure => first | go_num | (simp [intOf]; omega)
        · obtain ⟨z0, z1, z2, z3, z4, z5, z6, z7, z8, z9, z10, z11⟩ := acc_cells KA3.out
          obtain ⟨x0, x1, x2, x3, u0, u1, u2, u3⟩ := sac_cells HS3.out.1.kb
          have HS9 := Lib.hid (show Ps w sp bm G S B L [bm] A r c M w3 ∧ L.length ≤ k + 1 from ⟨HS3.out.1.sub (fun x hx => List.mem_cons_of_mem _ hx) (List.mem_singleton.2 rfl), by have := HS3.out.2; omega⟩)
          clear HS3 KA3
          have hsame := HS9.out.1.ph.psame HS9.out.1.ln HS9.out.1.pl (by have := HS9.out.2; omega) HG.out
          go_wp2_with fail
          refine hsame.mono ?_
          rintro e w9 ⟨rfl, b9⟩
          have HS10 := Lib.hid (And.intro (HS9.out.1.below b9) HS9.out.2)
          clear hsame HS9 b9 x0 x1 x2 x3 z0 z1 z2 z3 z4 z5 z6 z7 z8 z9 z10 z11 u0 u1 u2 u3
          go_wp2
          go_roundw
          case rel => exact ⟨k + 1, r, L, A, c, M, by go_num, by omega, HS10⟩
          case measure => first | go_num | (simp [intOf]; omega)
    · obtain rfl : k = n := by omega
      have hkz : ¬ (k : Int) < (k : Int) := by omega
      have hb := HS.out.1.ph.bel
      go_wp2
      go_ret
      exact ⟨rfl, hb⟩
end Go.Proofs.YtdmibolbpgondaaGreat.X15
