/-
  The walk of HistOrder.
-/
import Derived.Test.YthggaoobbkflaaaH11Back
set_option linter.unusedSimpArgs false
set_option linter.unusedVariables false
namespace Go.Proofs.Ythggaoobbkflaaa.H11
open Go.RowKit Go.Lib Go.Proofs.Ythggaoobbkflaaa.Wd Go.Proofs.Ythggaoobbkflaaa.S10

/-- two histograms, the one behind the other -/
structure Pr (w0 : World) (pa pb lo mi hi : Nat) (bs l m : List Nat) (W : World) : Prop where
  a : Hi W pa lo mi bs l
  b : Hi W pb mi hi bs m
  bel : Below w0.heap.size w0 W
  lo_ : w0.heap.size ≤ lo
  mi_ : lo ≤ mi
section
variable {w0 W W' : World} {pa pb lo mi hi : Nat} {bs l m : List Nat}
theorem Pr.below (r : Pr w0 pa pb lo mi hi bs l m W) (hb : Below W.heap.size W W') : Pr w0 pa pb lo mi hi bs l m W' :=
  ⟨r.a.below hb, r.b.below hb, r.bel.trans (hb.mono r.bel.size), r.lo_, r.mi_⟩
theorem Pr.puta (r : Pr w0 pa pb lo mi hi bs l m W) {l' : List Nat} (h : Hi W' pa lo mi bs l') (f : Fx lo mi W W') : Pr w0 pa pb lo mi hi bs l' m W' :=
  ⟨h, r.b.fx f (.inr (Nat.le_refl _)), r.bel.trans (f.below r.lo_ r.bel.size), r.lo_, r.mi_⟩
theorem Pr.putb (r : Pr w0 pa pb lo mi hi bs l m W) {m' : List Nat} (h : Hi W' pb mi hi bs m') (f : Fx mi hi W W') : Pr w0 pa pb lo mi hi bs l m' W' :=
  ⟨r.a.fx f (.inl (Nat.le_refl _)), h, r.bel.trans (f.below (Nat.le_trans r.lo_ r.mi_) r.bel.size), r.lo_, r.mi_⟩
end
set_option maxRecDepth 20000 in
set_option maxHeartbeats 4000000 in
theorem order_law (A B : Option Addr) (c d n N y : Nat) (bs l : List Nat) (w : World) (ha : Us w A c bs) (hb : Us w B d l) (hn : bs.length = n) (hN : l.length = N) (hy : y ≤ 255) :
    Calls Try.prog 5 #[.slice A n c, .slice B N d, .int .u8 (y : Int)] w fun e w' => e = .returned (.bool true) ∧ Below w.heap.size w w' := by
  have HN := Lib.hid hN
  have HM := Lib.hid hn
  clear hN hn
  go_enter Try.func5, Try.ntmps5
  go_wp2_with fail
  refine (alive_any _).mono ?_
  rintro e w1 ⟨rfl, b0⟩
  by_cases h2 : (40 : Int) < (n : Int)
  · go_wp2
    go_ret
    exact ⟨rfl, b0⟩
  by_cases h3 : (100 : Int) < (N : Int)
  · go_wp2
    go_ret
    exact ⟨rfl, b0⟩
  have ha1 := ha.below b0
  have hb1 := hb.below b0
  have B0 := Lib.hid b0
  clear ha hb b0
  have hfew : n ≤ 40 ∧ N ≤ 100 := by omega
  clear h2 h3
  go_wp2_with fail
  refine (new_any A c n bs _ ha1 HM.out).mono ?_
  rintro e w2 (⟨hr, rfl, b2⟩ | ⟨hr, p1, rfl, H1, b2⟩)
  · have B2 := B0.out.trans (b2.mono B0.out.size)
    go_wp2_with fail
    refine (new_any A c n bs _ (ha1.below b2) HM.out).mono ?_
    rintro e w3 (⟨_, rfl, b3⟩ | ⟨hr2, _⟩)
    · go_wp2
      go_ret
      exact ⟨rfl, B2.trans (b3.mono B2.size)⟩
    · exact absurd hr2 hr
  go_wp2_with fail
  refine (new_any A c n bs _ (ha1.below b2) HM.out).mono ?_
  rintro e w3 (⟨hr2, _⟩ | ⟨_, p2, rfl, H2, b3⟩)
  · exact absurd hr hr2
  have R0 : Pr w1 p1 p2 w1.heap.size w2.heap.size w3.heap.size bs [] [] w3 := ⟨H1.below b3, H2, b2.trans (b3.mono b2.size), Nat.le_refl _, b2.size⟩
  clear H1 H2 b2 b3
  generalize hlo : w1.heap.size = lo at R0
  generalize hmi : w2.heap.size = mi at R0
  generalize hhi : w3.heap.size = hi at R0
  clear hlo hmi hhi
  go_wp2
  go_loopw [11] (fun v wr => ∃ k : Nat, v = .int .i64 (k : Int) ∧ k ≤ N ∧ Pr w1 p1 p2 lo mi hi bs (l.take k) ((back l y).take k) wr) (fun v _ => N - (intOf v).toNat)
  case atStart => exact ⟨0, rfl, Nat.zero_le _, R0⟩
  case round =>
    clear R0
    obtain ⟨k, rfl, hk, R⟩ := hrel
    by_cases hlt : k < N
    · have hkl : k < l.length := by rw [HN.out]; exact hlt
      have hltz : (k : Int) < (N : Int) := by omega
      have hbl : k < (back l y).length := by rw [back_len]; exact hkl
      have hjl := way_lt l.length k y (by omega)
      have e1 := List.take_succ_eq_append_getElem hkl
      have e2 := List.take_succ_eq_append_getElem hbl
      rw [back_get y hkl] at e2
      obtain ⟨ad, rfl, hcell, hx⟩ := (hb1.below R.bel).get hkl
      have hcellb := fun W (hW : Below w1.heap.size w1 W) => (hb1.below hW).get hjl
      obtain ⟨z, hz⟩ : ∃ z, (l.length - 1 - k + y) % l.length = z := ⟨_, rfl⟩
      have hzN : z < N := by rw [← hz, ← HN.out]; exact hjl
      have hrem : ((N : Int) - 1 - (k : Int) + (y : Int)) % (N : Int) = (z : Int) := by
        rw [← hz, Int.natCast_emod, HN.out]
        congr 1
        omega
      simp only [hz] at hcellb e2
      generalize (l[z]'(by rw [HN.out]; exact hzN)) = x2 at hcellb e2
      generalize l[k] = x at hcell hx e1
      have E1 := Lib.hid e1
      have E2 := Lib.hid e2
      have hP := put_at p1 lo mi x bs (l.take k) wr R.a hx
      have wr0 : IntKind.i64.wrap (y : Int) = (y : Int) := by rw [IntKind.wrap_i64]; omega
      have hN0 : ¬ N = 0 := by omega
      have wr1 : IntKind.i64.wrap ((N : Int) - 1) = (N : Int) - 1 := by rw [IntKind.wrap_i64]; omega
      have wr2 : IntKind.i64.wrap ((N : Int) - 1 - (k : Int)) = (N : Int) - 1 - (k : Int) := by rw [IntKind.wrap_i64]; omega
      have wr3 : IntKind.i64.wrap ((N : Int) - 1 - (k : Int) + (y : Int)) = (N : Int) - 1 - (k : Int) + (y : Int) := by rw [IntKind.wrap_i64]; omega
      have hremt : ((N : Int) - 1 - (k : Int) + (y : Int)).tmod (N : Int) = (z : Int) := by rw [Int.tmod_eq_emod_of_nonneg (by omega)]; exact hrem
      clear e1 e2 hz hbl hjl
      go_wp2_with fail
      refine hP.mono ?_
      rintro e w4 ⟨rfl, H4, F4⟩
      have R4 := R.puta H4 F4
      obtain ⟨ad2, hA2, hcell2, hx2⟩ := hcellb _ R4.bel
      injection hA2 with hA2
      subst hA2
      have hP2 := put_at p2 mi hi x2 bs ((back l y).take k) w4 R4.b hx2
      clear hP H4 F4 R hcell hcellb hx
      go_wp2_with fail
      refine hP2.mono ?_
      rintro e w5 ⟨rfl, H5, F5⟩
      have R5 := R4.putb H5 F5
      rw [← E1.out, ← E2.out] at R5
      clear hP2 H5 F5 R4 hcell2 E1 E2 hrem hremt wr0 wr1 wr2 wr3
      go_wp2
      go_roundw
      case rel => exact ⟨k + 1, by go_num, by omega, R5⟩
      case measure => first | go_num | (simp [intOf]; omega)
    · have hkn : k = N := by omega
      subst hkn
      rw [List.take_of_length_le (by rw [HN.out]; exact Nat.le_refl _), List.take_of_length_le (by rw [back_len, HN.out]; exact Nat.le_refl _)] at R
      have R1 : Pr w1 p1 p2 lo mi hi bs l l wr := ⟨R.a, R.b.perm (back_perm l y), R.bel, R.lo_, R.mi_⟩
      clear R hlt hk
      obtain ⟨m, hm⟩ : ∃ m, n + 1 = m := ⟨_, rfl⟩
      have hksl := ks_len (kk bs l) m
      have HKS := Lib.hid (fun i (hi : i < m) => (ks_get (kk bs l) (n := m) (i := i) (by rw [ks_len]; exact hi)))
      have HKL := Lib.hid hksl
      have HKK := Lib.hid (fun i => Nat.le_trans (kk_le bs l i) (show l.length ≤ 100 by have := HN.out; omega))
      have HALL := Lib.hid (show sm (kk bs l) m = k from by rw [← HN.out, ← hm, ← HM.out]; exact kk_all bs l)
      have hB := fun W p lo hi h => buckets_hi p lo hi n m bs l W h HM.out hm
      have hmz : (n : Int) + 1 = (m : Int) := by omega
      clear hksl hm
      go_wp2_with fail
      refine (hB _ _ _ _ R1.a).mono ?_
      rintro e w4 ⟨A4, c4, rfl, own4, b4⟩
      have R4 := R1.below b4
      obtain ⟨q4, rfl, _, C4⟩ := own_co own4 HKL.out (by omega)
      clear own4 R1 b4
      go_wp2_with fail
      refine (hB _ _ _ _ R4.b).mono ?_
      rintro e w5 ⟨A5, c5, rfl, own5, b5⟩
      have R5 := R4.below b5
      have D4 := C4.below b5
      obtain ⟨q5, rfl, _, C5⟩ := own_co own5 HKL.out (by omega)
      clear own5 R4 b5 C4 hB
      go_wp2
      go_loopw [14, 15] (fun u v wr => ∃ i : Nat, u = .int .u64 (sm (kk bs l) i : Int) ∧ v = .int .i64 (i : Int) ∧ i ≤ m ∧ Below w5.heap.size w5 wr) (fun _ v _ => m - (intOf v).toNat)
      case atStart => exact ⟨0, rfl, rfl, Nat.zero_le _, Below.refl _ _⟩
      case round =>
        obtain ⟨i, rfl, rfl, hi, b6⟩ := hrel
        by_cases hlt : i < m
        · have hltz : (i : Int) < (m : Int) := by omega
          have hm2 : m ≤ 41 := by omega
          obtain ⟨k0, k1⟩ := (D4.below b6).at_ i (by rw [HKL.out]; exact hlt)
          obtain ⟨j0, j1⟩ := (C5.below b6).at_ i (by rw [HKL.out]; exact hlt)
          have hz := HKK.out i
          rw [HKS.out i hlt, sn_small (by omega)] at k0 j0
          rw [HKS.out i hlt, sf_small (by omega)] at k1 j1
          have hs := sm_le (kk bs l) m i hi
          rw [HALL.out] at hs
          have E := Lib.hid (show sm (kk bs l) (i + 1) = sm (kk bs l) i + kk bs l i from rfl)
          generalize kk bs l i = z at *
          generalize sm (kk bs l) i = t at *
          have hw : IntKind.u64.wrap ((t : Int) + (z : Int)) = (t : Int) + (z : Int) := IntWalk.u64_in _ (by omega)
          clear R5
          go_wp2_with fail
          go_quiet (fail)
          go_wp2
          go_roundw
          case rel => exact ⟨i + 1, by rw [E.out, Int.natCast_add], by go_num, by omega, below_dn b6 _⟩
          case measure => first | go_num | (simp [intOf]; omega)
        · have him : i = m := by omega
          subst him
          rw [HALL.out]
          have R6 := R5.below b6
          have HC := fun W h => count_hi p1 lo mi bs l W h
          have hcn : sn l.length = (k : Int) ∧ sf l.length = false := by rw [HN.out]; exact ⟨sn_small (by omega), sf_small (by omega)⟩
          rw [hcn.1, hcn.2] at HC
          have HS := fun W p lo hi h => sum_hi p lo hi bs l W h
          have hw : IntKind.u64.wrap (k : Int) = (k : Int) := IntWalk.u64_in _ (by omega)
          have hw2 : IntKind.i64.wrap ((n : Int) + 1) = (n : Int) + 1 := by rw [IntKind.wrap_i64]; omega
          have f0 := fun W => field0 (k : Int) false W
          clear R5 b6 D4 C5 hcn
          generalize sn l.sum = s at *
          generalize sf l.sum = f at *
          go_wp2_with fail
          refine (HC _ R6.a).mono ?_
          rintro e w7 ⟨rfl, b7⟩
          have R7 := R6.below b7
          clear R6 b7 HC
          go_wp2_with fail
          refine (HS _ _ _ _ R7.a).mono ?_
          rintro e w8 ⟨rfl, b8⟩
          have R8 := R7.below b8
          clear R7 b8
          go_wp2_with fail
          refine (HS _ _ _ _ R8.b).mono ?_
          rintro e w9 ⟨rfl, b9⟩
          have R9 := R8.below b9
          have B9 := B0.out.trans (R9.bel.mono B0.out.size)
          clear R8 b9 R9 HS
          go_wp2
          go_ret
          exact ⟨ret_bool (by simp [hmz]), B9⟩
end Go.Proofs.Ythggaoobbkflaaa.H11
