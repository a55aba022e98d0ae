/-
  The walk of WmarkOrder.
-/
import Derived.Test.YtmonjlnmkkdnfaaW13Ord
import Derived.Deep.CutRange
import Derived.StillTailTactics
set_option linter.unusedSimpArgs false
set_option linter.unusedVariables false
namespace Go.Proofs.Ytmonjlnmkkdnfaa.W13
open Go.RowKit Go.Lib Go.Proofs.Ytmonjlnmkkdnfaa.Wd

set_option maxRecDepth 20000 in
set_option maxHeartbeats 8000000 in
theorem order_law (a l m y : Nat) (A0 : Option Addr) (c0 n0 : Nat) (L : List Ac) (w : World) (ha : a ≤ 255) (hl : l ≤ 65535) (hm : m ≤ 255) (hy : y ≤ 255) (hA : Acs w A0 c0 L) (hok : ∀ y ∈ L, y.Ok) (hn0 : L.length = n0) :
    Calls Try.prog 6 #[.int .u8 (a : Int), .int .u16 (l : Int), .int .u8 (m : Int), .slice A0 n0 c0, .int .u8 (y : Int)] w fun r w' => r = .returned (.bool true) ∧ Below w.heap.size w w' := by
  have mixed : Try.prog.follows .mixedOrders = true := by kernel_rfl
  have HN := Lib.hid hn0
  have HA := Lib.hid hA
  have HOK := Lib.hid hok
  have m1 := hA.max
  have m3 := hA.cap
  have hmx : n0 ≤ 9223372036854775807 := by rw [hn0] at m3; unfold maxLen at m1; omega
  clear hn0 hA hok m1 m3
  go_enter Try.func6, Try.ntmps6
  go_wp2_with fail
  refine (alive_any _).mono ?_
  rintro r w1 ⟨rfl, b0⟩
  by_cases h2 : (60 : Int) < (n0 : Int)
  · go_wp2
    go_ret
    exact ⟨rfl, b0⟩
  obtain ⟨q, hq⟩ : ∃ q, a % 16 = q := ⟨_, rfl⟩
  have hqi : (a : Int) % 16 = (q : Int) := by omega
  obtain ⟨n, hn⟩ : ∃ n, 1 + q = n := ⟨_, rfl⟩
  have hni : 1 + (q : Int) = (n : Int) := by omega
  have hw : IntKind.u64.wrap ((l : Int) + (m : Int)) = ((l + m : Nat) : Int) := by rw [IntWalk.u64_in _ (by omega)]; omega
  have hn1 : 0 < n := by omega
  have hn2 : n ≤ 16 := by omega
  have hn3 : ¬ n = 0 := by omega
  have new1 := new_right n l 0 w1 (by unfold Rt; omega)
  clear hn hq
  go_wp2_with fail
  refine new1.mono ?_
  rintro r w2 ⟨pa, rfl, CA, b1⟩
  have new2 := new_right n l 0 w2 (by unfold Rt; omega)
  clear new1
  go_wp2_with fail
  refine new2.mono ?_
  rintro r w3 ⟨pb, rfl, CB, b2⟩
  have new3 := new_right n (l + m) 0 w3 (by unfold Rt; omega)
  clear new2
  go_wp2_with fail
  refine new3.mono ?_
  rintro r w4 ⟨pc, rfl, CC, b3⟩
  obtain ⟨H, hH⟩ : ∃ H, w4.heap.size = H := ⟨_, rfl⟩
  have T0 := Lib.hid (show O3 w w4 pa pb pc n l m y H 0 L (Cl.init n l 0) (Cl.init n l 0) (Cl.init n (l + m) 0) from
    ⟨⟨w1.heap.size, w2.heap.size, w2.heap.size, w3.heap.size, w3.heap.size, (CA.below b2).below (b3.mono (Nat.le_refl _)), CB.below b3, hH ▸ CC, b0.size, Nat.le_refl _, Nat.le_refl _, by omega,
      ((b0.trans (b1.mono b0.size)).trans (b2.mono (Nat.le_trans b0.size b1.size))).trans (b3.mono (Nat.le_trans b0.size (Nat.le_trans b1.size b2.size)))⟩, Zn.init n l hn1, Zn.init n l hn1, Zn.init n (l + m) hn1⟩)
  clear new3 hqi hni hw CA CB CC b0 b1 b2 b3 hH
  go_wp2
  go_loopw [18] (fun v18 wr => ∃ (i : Nat) (ca cb cc : Cl), v18 = .int .i64 (i : Int) ∧ i ≤ n0 ∧ Hid (O3 w wr pa pb pc n l m y H i L ca cb cc)) (fun v18 _ => n0 - (intOf v18).toNat)
  case atStart => exact ⟨0, _, _, _, rfl, Nat.zero_le _, T0⟩
  case round =>
    clear T0
    obtain ⟨i, ca, cb, cc, rfl, hin, O⟩ := hrel
    by_cases hlt : i < n0
    · have hil : i < L.length := by rw [HN.out]; exact hlt
      have bel := O.out.t.bel
      obtain ⟨ad, pp, rfl, hpp, x0, x1⟩ := (HA.out.below bel).get hil
      have b8 := below_box wr (.cells #[.int .i64 L[i].S, .int .u64 (L[i].E : Int)] 30)
      have hL0 : 0 < L.length := by omega
      have hzl := way_lt L.length i y hL0
      obtain ⟨ad2, pp2, e2, hpp2, y0, y1⟩ := (HA.out.below (bel.trans (b8.mono bel.size))).get hzl
      cases e2
      have eA : Hid (fA L i = L[i]) := Lib.hid (fA_get hil)
      have eB : Hid (fB L y i = L[(L.length - 1 - i + y) % L.length]) := Lib.hid (fB_get hL0)
      generalize L[i] = x at *
      generalize L[(L.length - 1 - i + y) % L.length] = yy at *
      obtain ⟨z, hz⟩ : ∃ z, (L.length - 1 - i + y) % L.length = z := ⟨_, rfl⟩
      rw [hz] at hpp2
      have hzN : z < n0 := by rw [← hz, ← HN.out]; exact hzl
      have hrem : ((n0 : Int) - 1 - (i : Int) + (y : Int)) % (n0 : Int) = (z : Int) := by
        rw [← hz, Int.natCast_emod, HN.out]
        congr 1
        omega
      have b9 := below_box (wr.alloc (.cells #[.int .i64 x.S, .int .u64 (x.E : Int)] 30)) (.cells #[.int .i64 yy.S, .int .u64 (yy.E : Int)] 30)
      have BX : Bx _ wr.heap.size x := Bx.below (heap_alloc_new wr _) b9
      have BY : Bx ((wr.alloc (.cells #[.int .i64 x.S, .int .u64 (x.E : Int)] 30)).alloc (.cells #[.int .i64 yy.S, .int .u64 (yy.E : Int)] 30)) (wr.heap.size + 1) yy := by
        have := heap_alloc_new (wr.alloc (.cells #[.int .i64 x.S, .int .u64 (x.E : Int)] 30)) (.cells #[.int .i64 yy.S, .int .u64 (yy.E : Int)] 30)
        rw [World.size_alloc] at this
        exact this
      have T9 := (O.out.t.below b8).below b9
      have hHb := O.out.t.hle
      have ZA := Lib.hid O.out.a
      have ZB := Lib.hid O.out.b
      have ZC := Lib.hid O.out.c
      have z0 : (0 : Int) ≤ (i : Int) := by omega
      have z1 : ((i : Int)).toNat = i := by omega
      have z2 : (0 : Int) ≤ (z : Int) := by omega
      have z3 : ((z : Int)).toNat = z := by omega
      have hN0 : ¬ n0 = 0 := by omega
      have wr1 : IntKind.i64.wrap ((n0 : Int) - 1) = (n0 : Int) - 1 := by rw [IntKind.wrap_i64]; omega
      have wr2 : IntKind.i64.wrap ((n0 : Int) - 1 - (i : Int)) = (n0 : Int) - 1 - (i : Int) := by rw [IntKind.wrap_i64]; omega
      have wr3 : IntKind.i64.wrap ((n0 : Int) - 1 - (i : Int) + (y : Int)) = (n0 : Int) - 1 - (i : Int) + (y : Int) := by rw [IntKind.wrap_i64]; omega
      have hremt : ((n0 : Int) - 1 - (i : Int) + (y : Int)).tmod (n0 : Int) = (z : Int) := by rw [Int.tmod_eq_emod_of_nonneg (by omega)]; exact hrem
      clear O hz hzl b8 b9 bel
      obtain ⟨bx, hbx⟩ : ∃ b, wr.heap.size = b := ⟨_, rfl⟩
      rw [hbx] at BX BY hHb
      go_upto_region 16 with fail
      generalize (wr.alloc (.cells #[.int .i64 x.S, .int .u64 (x.E : Int)] 30)).alloc (.cells #[.int .i64 yy.S, .int .u64 (yy.E : Int)] 30) = W at *
      clear x0 x1 y0 y1 hbx hrem hremt wr1 wr2 wr3 hpp hpp2
      have TW0 := T9
      have TW := TW0
      clear TW0
      clear T9
      have x0 := BX.c0
      have y0 := BY.c0
      obtain ⟨b2, hb2⟩ : ∃ b, bx + 1 = b := ⟨_, rfl⟩
      rw [hb2] at BY y0 ⊢
      have hHb2 : H ≤ b2 := by omega
      clear hb2
      by_cases hxn : x.S < 0
      · have ZA2 := Lib.hid (ZA.out.next_neg eA.out hxn)
        have ZC2 := Lib.hid (ZC.out.next_neg eA.out hxn)
        clear BX ZA ZC
        by_cases hyn : yy.S < 0
        · have ZB2 := Lib.hid (ZB.out.next_neg eB.out hyn)
          clear ZB
          have OO := Lib.hid (show O3 w W pa pb pc n l m y H (i + 1) L ca cb cc from ⟨TW, ZA2.out, ZB2.out, ZC2.out⟩)
          have hle := ZA2.out.later ZC2.out
          have hmC := TW.markC
          have hmA := TW.markA
          clear ZA2 ZB2 ZC2 TW 
          generalize ca = da at *
          generalize cc = dc at *
          go_wp2_with fail
          refine hmC.mono ?_
          rintro r w5 ⟨rfl, rfl⟩
          go_wp2_with fail
          refine hmA.mono ?_
          rintro r w5 ⟨rfl, rfl⟩
          clear hmA hmC
          go_wp2
          go_roundw
          case rel => exact ⟨i + 1, _, _, _, by go_num, by omega, OO⟩
          case measure => first | go_num | (simp [intOf]; omega)
        · obtain ⟨tz, htz⟩ : ∃ s : Nat, yy.S % (n : Int) = (s : Int) := ⟨(yy.S % (n : Int)).toNat, by have := Int.emod_nonneg yy.S (b := (n : Int)) (by omega); omega⟩
          have htn : tz < n := by have := Int.emod_lt_of_pos yy.S (b := (n : Int)) (by omega); omega
          have htzt : yy.S.tmod (n : Int) = (tz : Int) := by rw [Int.tmod_eq_emod_of_nonneg (by omega)]; exact htz
          obtain ⟨f, hf⟩ : ∃ e : Nat, (yy.E : Int) % 4611686018427387904 = (e : Int) := ⟨yy.E % 4611686018427387904, by omega⟩
          have hfb : f ≤ 4611686018427387904 := by omega
          have hft : (yy.E : Int).tmod 4611686018427387904 = (f : Int) := by rw [Int.tmod_eq_emod_of_nonneg (by omega)]; exact hf
          have ZB2 := Lib.hid (ZB.out.next_say eB.out hyn htz hf)
          have hnB : tz < cb.N := by rw [ZB.out.N]; exact htn
          clear ZB
          have BD : Bx W.drew b2 yy := BY.below (below_dn (Below.refl _ _) 1)
          have TD := TW.below (below_dn (Below.refl W.heap.size W) 1)
          have hcall : Calls _ _ _ W.drew _ := TD.seeB tz f hnB hfb
          have q1 := BD.c0
          have q2 := BD.c1
          go_wp2_with fail
          go_still_tail 8, mixed
          change wpList _ _ _ _ _ W.drew
          generalize hWD : W.drew = WD at *
          go_wp2_with fail
          refine hcall.mono ?_
          rintro r W4 ⟨rfl, TW4, k2⟩
          replace k2 : Kp H W W4 := by subst hWD; exact k2

          clear TD BD TW hcall k2 q1 q2 hWD BY y0 htz hf htzt hft
          have OO := Lib.hid (show O3 w W4 pa pb pc n l m y H (i + 1) L ca (cb.see tz f) cc from ⟨TW4, ZA2.out, ZB2.out, ZC2.out⟩)
          have hle := ZA2.out.later ZC2.out
          have hmC := TW4.markC
          have hmA := TW4.markA
          clear ZA2 ZB2 ZC2 TW4 
          generalize ca = da at *
          generalize cc = dc at *
          go_wp2_with fail
          refine hmC.mono ?_
          rintro r w5 ⟨rfl, rfl⟩
          go_wp2_with fail
          refine hmA.mono ?_
          rintro r w5 ⟨rfl, rfl⟩
          clear hmA hmC
          go_wp2
          go_roundw
          case rel => exact ⟨i + 1, _, _, _, by go_num, by omega, OO⟩
          case measure => first | go_num | (simp [intOf]; omega)
      · obtain ⟨sz, hsz⟩ : ∃ s : Nat, x.S % (n : Int) = (s : Int) := ⟨(x.S % (n : Int)).toNat, by have := Int.emod_nonneg x.S (b := (n : Int)) (by omega); omega⟩
        have hsn : sz < n := by have := Int.emod_lt_of_pos x.S (b := (n : Int)) (by omega); omega
        have hszt : x.S.tmod (n : Int) = (sz : Int) := by rw [Int.tmod_eq_emod_of_nonneg (by omega)]; exact hsz
        obtain ⟨e, he⟩ : ∃ e : Nat, (x.E : Int) % 4611686018427387904 = (e : Int) := ⟨x.E % 4611686018427387904, by omega⟩
        have heb : e ≤ 4611686018427387904 := by omega
        have het : (x.E : Int).tmod 4611686018427387904 = (e : Int) := by rw [Int.tmod_eq_emod_of_nonneg (by omega)]; exact he
        have ZA2 := Lib.hid (ZA.out.next_say eA.out hxn hsz he)
        have ZC2 := Lib.hid (ZC.out.next_say eA.out hxn hsz he)
        have hnA : sz < ca.N := by rw [ZA.out.N]; exact hsn
        have hnC : sz < cc.N := by rw [ZC.out.N]; exact hsn
        clear ZA ZC
        have BD : Bx W.drew bx x := BX.below (below_dn (Below.refl _ _) 1)
        have TD := TW.below (below_dn (Below.refl W.heap.size W) 1)
        have hcall : Calls _ _ _ W.drew _ := TD.seeA sz e hnA heb
        have q1 := BD.c0
        have q2 := BD.c1
        go_wp2_with fail
        go_still_tail 8, mixed
        change wpList _ _ _ _ _ W.drew
        generalize hWD : W.drew = WD at *
        go_wp2_with fail
        refine hcall.mono ?_
        rintro r W2 ⟨rfl, TW2, k2⟩
        replace k2 : Kp H W W2 := by subst hWD; exact k2
        have BX2 := BX.kp k2 hHb
        have BY2 := BY.kp k2 hHb2
        have x0 := BX2.c0
        clear TD BD TW hcall k2 q1 q2 hWD BX BY y0 x0

        have BD : Bx W2.drew bx x := BX2.below (below_dn (Below.refl _ _) 1)
        have TD := TW2.below (below_dn (Below.refl W2.heap.size W2) 1)
        have hcall : Calls _ _ _ W2.drew _ := TD.seeC sz e hnC heb
        have q1 := BD.c0
        have q2 := BD.c1
        go_wp2_with fail
        go_still_tail 8, mixed
        change wpList _ _ _ _ _ W2.drew
        generalize hWD : W2.drew = WD at *
        go_wp2_with fail
        refine hcall.mono ?_
        rintro r W3 ⟨rfl, TW3, k2⟩
        replace k2 : Kp H W2 W3 := by subst hWD; exact k2
        have BY := BY2.kp k2 hHb2
        have y0 := BY.c0
        clear TD BD TW2 hcall k2 q1 q2 hWD BX2 BY2 x0 hsz he hszt het
        by_cases hyn : yy.S < 0
        · have ZB2 := Lib.hid (ZB.out.next_neg eB.out hyn)
          clear ZB
          have OO := Lib.hid (show O3 w W3 pa pb pc n l m y H (i + 1) L (ca.see sz e) cb (cc.see sz e) from ⟨TW3, ZA2.out, ZB2.out, ZC2.out⟩)
          have hle := ZA2.out.later ZC2.out
          have hmC := TW3.markC
          have hmA := TW3.markA
          clear ZA2 ZB2 ZC2 TW3 
          generalize (ca.see sz e) = da at *
          generalize (cc.see sz e) = dc at *
          go_wp2_with fail
          refine hmC.mono ?_
          rintro r w5 ⟨rfl, rfl⟩
          go_wp2_with fail
          refine hmA.mono ?_
          rintro r w5 ⟨rfl, rfl⟩
          clear hmA hmC
          go_wp2
          go_roundw
          case rel => exact ⟨i + 1, _, _, _, by go_num, by omega, OO⟩
          case measure => first | go_num | (simp [intOf]; omega)
        · obtain ⟨tz, htz⟩ : ∃ s : Nat, yy.S % (n : Int) = (s : Int) := ⟨(yy.S % (n : Int)).toNat, by have := Int.emod_nonneg yy.S (b := (n : Int)) (by omega); omega⟩
          have htn : tz < n := by have := Int.emod_lt_of_pos yy.S (b := (n : Int)) (by omega); omega
          have htzt : yy.S.tmod (n : Int) = (tz : Int) := by rw [Int.tmod_eq_emod_of_nonneg (by omega)]; exact htz
          obtain ⟨f, hf⟩ : ∃ e : Nat, (yy.E : Int) % 4611686018427387904 = (e : Int) := ⟨yy.E % 4611686018427387904, by omega⟩
          have hfb : f ≤ 4611686018427387904 := by omega
          have hft : (yy.E : Int).tmod 4611686018427387904 = (f : Int) := by rw [Int.tmod_eq_emod_of_nonneg (by omega)]; exact hf
          have ZB2 := Lib.hid (ZB.out.next_say eB.out hyn htz hf)
          have hnB : tz < cb.N := by rw [ZB.out.N]; exact htn
          clear ZB
          have BD : Bx W3.drew b2 yy := BY.below (below_dn (Below.refl _ _) 1)
          have TD := TW3.below (below_dn (Below.refl W3.heap.size W3) 1)
          have hcall : Calls _ _ _ W3.drew _ := TD.seeB tz f hnB hfb
          have q1 := BD.c0
          have q2 := BD.c1
          go_wp2_with fail
          go_still_tail 8, mixed
          change wpList _ _ _ _ _ W3.drew
          generalize hWD : W3.drew = WD at *
          go_wp2_with fail
          refine hcall.mono ?_
          rintro r W4 ⟨rfl, TW4, k2⟩
          replace k2 : Kp H W3 W4 := by subst hWD; exact k2

          clear TD BD TW3 hcall k2 q1 q2 hWD BY y0 htz hf htzt hft
          have OO := Lib.hid (show O3 w W4 pa pb pc n l m y H (i + 1) L (ca.see sz e) (cb.see tz f) (cc.see sz e) from ⟨TW4, ZA2.out, ZB2.out, ZC2.out⟩)
          have hle := ZA2.out.later ZC2.out
          have hmC := TW4.markC
          have hmA := TW4.markA
          clear ZA2 ZB2 ZC2 TW4 
          generalize (ca.see sz e) = da at *
          generalize (cc.see sz e) = dc at *
          go_wp2_with fail
          refine hmC.mono ?_
          rintro r w5 ⟨rfl, rfl⟩
          go_wp2_with fail
          refine hmA.mono ?_
          rintro r w5 ⟨rfl, rfl⟩
          clear hmA hmC
          go_wp2
          go_roundw
          case rel => exact ⟨i + 1, _, _, _, by go_num, by omega, OO⟩
          case measure => first | go_num | (simp [intOf]; omega)
    · have e1 : i = n0 := by omega
      subst e1
      have hA := O.out.t.markA
      have hB := O.out.t.markB
      have e2 : cb.mark = ca.mark := by
        rw [O.out.b.mark, O.out.a.mark, mn_congr (n - 1) (fun s _ => ?_)]
        rw [← HN.out]
        exact (md_same n L y s).symm
      have hb := O.out.t.bel
      rw [e2] at hB
      clear O
      go_wp2_with fail
      refine hA.mono ?_
      rintro r w5 ⟨rfl, rfl⟩
      go_wp2_with fail
      refine hB.mono ?_
      rintro r w5 ⟨rfl, rfl⟩
      go_wp2
      go_ret
      exact ⟨rfl, hb⟩
end Go.Proofs.Ytmonjlnmkkdnfaa.W13
