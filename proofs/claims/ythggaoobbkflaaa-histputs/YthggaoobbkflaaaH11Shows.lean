/-
  The law's 'shows': a histogram has just some numbers.
-/
import Derived.Test.YthggaoobbkflaaaH11Ref
set_option linter.unusedSimpArgs false
set_option linter.unusedVariables false
namespace Go.Proofs.Ythggaoobbkflaaa.H11
open Go.RowKit Go.Lib Go.Proofs.Ythggaoobbkflaaa.Wd Go.Proofs.Ythggaoobbkflaaa.S10

theorem any_full (bs l : List Nat) (m : Nat) (hl : l.length ≤ 200) : (ks (kk bs l) m ++ [l.length, l.sum]).any sf = sf l.sum := by
  rw [List.any_append]
  have h1 : (ks (kk bs l) m).any sf = false := by
    rw [List.any_eq_false]
    intro x hx
    obtain ⟨j, hj, rfl⟩ := List.mem_iff_getElem.1 hx
    rw [ks_get _ hj, sf_small (by have := kk_le bs l j; omega)]
    simp
  rw [h1]
  simp [sf_small (show l.length ≤ 9223372036854775807 by omega)]
set_option maxRecDepth 20000 in
set_option maxHeartbeats 4000000 in
theorem shows_at (p lo hi : Nat) (A B : Option Addr) (c d n N : Nat) (bs l : List Nat) (w : World) (h0 : Hi w p lo hi bs l) (ha : Us w A c bs) (hb : Us w B d l) (hn : bs.length = n) (hN : l.length = N) (hl : N ≤ 200) :
    Calls Try.prog 10 #[.pointer (some ⟨p, 0, none⟩), .slice A n c, .slice B N d] w fun e w' => e = .returned (.bool true) ∧ Below w.heap.size w w' := by
  obtain ⟨g, A0, c0, h, _⟩ := h0
  have hf : n ≤ 32 := by have := h.rt.few; omega
  obtain ⟨m, hm⟩ : ∃ m, n + 1 = m := ⟨_, rfl⟩
  have hR := rhist_at A B c d n N m bs l w ha hb hn hN hm (by omega) hl
  have hB := fun W (k : Hr W p g A0 c0 bs (kk bs l) l.length l.sum) => buckets_at p g c0 n m A0 bs (kk bs l) l.length l.sum W k hn hm
  have hC := fun W (k : Hr W p g A0 c0 bs (kk bs l) l.length l.sum) => count_at p g c0 A0 bs (kk bs l) l.length l.sum W k
  have hS := fun W (k : Hr W p g A0 c0 bs (kk bs l) l.length l.sum) => hsum_at p g c0 A0 bs (kk bs l) l.length l.sum W k
  have hF := fun W (k : Hr W p g A0 c0 bs (kk bs l) l.length l.sum) => full_at p g c0 A0 bs (kk bs l) l.length l.sum (sf l.sum) W k (any_full bs l _ (by omega))
  have hbel := fun W W' (k : Hr W p g A0 c0 bs (kk bs l) l.length l.sum) (b : Below W.heap.size W W') => k.below b
  have hkl := fun i => Nat.le_trans (kk_le bs l i) (show l.length ≤ 200 by omega)
  have hcn : sn l.length = (N : Int) ∧ sf l.length = false := by rw [hN]; exact ⟨sn_small (by omega), sf_small (by omega)⟩
  rw [hcn.1, hcn.2] at hC
  have hksl := ks_len (kk bs l) m
  have hksg := fun i (hi : i < m) => (ks_get (kk bs l) (n := m) (i := i) (by rw [ks_len]; exact hi))
  clear hcn ha hb hn hN
  unfold RhOut at hR
  have hm2 : m ≤ 33 := by omega
  generalize sn l.sum = s at *
  generalize sf l.sum = f at *
  have HKS := Lib.hid hksg
  have HKL := Lib.hid hksl
  have hm0 : 0 < m := by omega
  clear hksg hksl hm
  have K := Lib.hid hkl
  clear hkl
  go_enter Try.func10, Try.ntmps10
  go_wp2_with fail
  refine hR.mono ?_
  rintro e w1 ⟨g1, rfl, hg1, R1, b1⟩
  have h1 := hbel _ _ h b1
  clear hR h
  go_wp2_with fail
  refine (hB _ h1).mono ?_
  rintro e w2 ⟨A2, c2, rfl, own2, b2⟩
  have h2 := hbel _ _ h1 b2
  have R2 := R1.below b2
  obtain ⟨q, rfl, hq, C2⟩ := own_co own2 HKL.out hm0
  have B2 := b1.trans (b2.mono b1.size)
  clear hB h1 R1 b1 b2 own2
  go_wp2
  go_loopw [11] (fun v wr => ∃ i : Nat, v = .int .i64 (i : Int) ∧ i ≤ m ∧ Below w2.heap.size w2 wr) (fun v _ => m - (intOf v).toNat)
  case atStart => exact ⟨0, rfl, Nat.zero_le _, Below.refl _ _⟩
  case round =>
    obtain ⟨i, rfl, hi, b3⟩ := hrel
    by_cases hlt : i < m
    · have hltz : (i : Int) < (m : Int) := by omega
      have r0 := (R2.below b3).c i hlt
      obtain ⟨k0, k1⟩ := (C2.below b3).at_ i (by rw [HKL.out]; exact hlt)
      have hz := K.out i
      rw [HKS.out i hlt, sn_small (by omega)] at k0
      rw [HKS.out i hlt, sf_small (by omega)] at k1
      generalize kk bs l i = z at *
      clear hC hS hF h2
      go_wp2_with fail
      go_quiet (fail)
      go_wp2
      go_roundw
      case rel => exact ⟨i + 1, by go_num, by omega, below_dn b3 _⟩
      case measure => first | go_num | (simp [intOf]; omega)
    · have him : i = m := by omega
      subst him
      have h3 := hbel _ _ h2 b3
      have B3 := B2.trans (b3.mono B2.size)
      clear b3 B2 R2 C2 h2
      go_wp2_with fail
      refine (hC _ h3).mono ?_
      rintro e w4 ⟨rfl, b4⟩
      have h4 := hbel _ _ h3 b4
      have B4 := B3.trans (b4.mono B3.size)
      clear b4 B3 h3
      have hw : IntKind.u64.wrap (N : Int) = (N : Int) := IntWalk.u64_in _ (by omega)
      go_wp2_with fail
      refine (hS _ h4).mono ?_
      rintro e w5 ⟨rfl, b5⟩
      have h5 := hbel _ _ h4 b5
      have B5 := B4.trans (b5.mono B4.size)
      clear b5 B4 h4
      go_wp2_with fail
      refine (hF _ h5).mono ?_
      rintro e w6 ⟨rfl, b6⟩
      have B6 := B5.trans (b6.mono B5.size)
      clear b6 B5 h5
      go_wp2
      go_ret
      exact ⟨ret_bool (by simp), B6⟩
end Go.Proofs.Ythggaoobbkflaaa.H11
