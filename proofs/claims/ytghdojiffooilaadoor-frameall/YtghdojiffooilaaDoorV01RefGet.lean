/-
  What the document's Get does.
-/
import Derived.Test.YtghdojiffooilaaDoorV01Get
import Derived.Deep.QuietTactic
import Derived.BigQuiet
namespace Go.Proofs.YtghdojiffooilaaDoor.V01
open Go.RowKit Go.Lib Go.Proofs.YtghdojiffooilaaDoor.Wd

/-- what the document's power is behind so many bytes: above the ninth it is not asked for -/
def PowRel (k pw : Nat) : Prop := k ≤ 9 → pw = 2 ^ (7 * k)
theorem pow_at (k pw : Nat) (h : PowRel k pw) (hk : k ≤ 9) : pw ≤ 9223372036854775808 := by
  rw [h hk]
  have : (2 : Nat) ^ (7 * k) ≤ 2 ^ 63 := Nat.pow_le_pow_right (by decide) (by omega)
  omega
theorem pow_next (k pw : Nat) (h : PowRel k pw) : ∃ q : Nat, IntKind.u64.wrap ((pw : Int) * 128) = (q : Int) ∧ In64 q ∧ PowRel (k + 1) q := by
  refine ⟨pw * 128 % 18446744073709551616, ?_, by unfold In64; omega, fun hk => ?_⟩
  · rw [IntKind.wrap_u64]; omega
  · rw [h (by omega), show 7 * (k + 1) = 7 * k + 7 by omega, Nat.pow_add]
    have : (2 : Nat) ^ (7 * k) ≤ 2 ^ 56 := Nat.pow_le_pow_right (by decide) (by omega)
    omega
theorem mul_pow (x k pw : Nat) (h : PowRel k pw) (hk : k ≤ 9) : x % 128 * pw = Bitty.sh7 x k := by rw [h hk]; rfl

set_option maxRecDepth 20000 in
set_option maxHeartbeats 1000000 in
theorem refget_same (A : Option Addr) (c : Nat) (l : List UInt8) (w : World) (ha : Bs w A c l) (hl : l.length ≤ 65536) :
    Calls Tryd.prog 16 #[.slice A l.length c] w fun e w' =>
      e = .returned (.tuple #[.int .u64 (getF 0 0 (nat8 l)).1, .int .i64 (getF 0 0 (nat8 l)).2.1, .int .i64 (getF 0 0 (nat8 l)).2.2]) ∧ w = w' := by
  go_enter Tryd.func16, Tryd.ntmps16
  go_wp2
  go_loop [5, 6, 7] (fun a p i => ∃ k acc pw : Nat, i = .int .i64 k ∧ a = .int .u64 acc ∧ p = .int .u64 pw ∧ k ≤ l.length ∧ In64 acc ∧ In64 pw ∧ PowRel k pw ∧ GetRel l k acc) (fun _ _ i => l.length - (intOf i).toNat)
  case atStart => exact ⟨0, 0, 1, rfl, rfl, rfl, by omega, by unfold In64; omega, by unfold In64; omega, fun _ => rfl, by omega, by simp, by simp⟩
  case round =>
    obtain ⟨k, acc, pw, rfl, rfl, rfl, hk, hacc0, hpw0, hp, hr⟩ := hrel
    have hacc : (acc : Int) ≤ 18446744073709551615 := hacc0
    have hpw : (pw : Int) ≤ 18446744073709551615 := hpw0
    have hk10 : k ≤ 10 := hr.1
    clear hacc0 hpw0
    by_cases hlt : k < l.length
    · obtain ⟨ad, rfl, hcell⟩ := ha.get hlt
      have hx : l[k].toNat < 256 := l[k].toNat_lt
      generalize hX : l[k].toNat = x at hcell hx
      have HX := Lib.hid hX
      clear hX
      by_cases h10 : k = 10
      · subst h10
        simp only [Addr.add, show ¬ (10 : Nat) = 0 by decide, if_false] at hcell
        have G := Lib.hid (get_long l acc hr hlt)
        clear hr hp
        go_wp2
        go_ret3
        rw [G.out]
        exact ⟨rfl, rfl⟩
      · have hk9 : k ≤ 9 := by omega
        have b10 : ((k : Int) == 10) = false := beq_eq_false_iff_ne.2 (by omega)
        clear h10
        have hpa := pow_at k pw hp hk9
        have hmp := mul_pow x k pw hp hk9
        have hsum : k ≤ 8 → acc + Bitty.sh7 x k ≤ 18446744073709551615 := fun h8 => by
          have h1 := hr.2.1
          have h2 : (2 : Nat) ^ (7 * k) ≤ 2 ^ 56 := Nat.pow_le_pow_right (by decide) (by omega)
          have h3 := Bitty.sh7_lt x k h8
          omega
        have hsum9 : k = 9 → x % 128 < 2 → acc + Bitty.sh7 x k ≤ 18446744073709551615 := fun h9 hx2 => by
          subst h9
          have h1 := hr.2.1
          unfold Bitty.sh7
          omega
        by_cases hbad : k = 9 ∧ 2 ≤ x % 128
        · obtain ⟨rfl, h2⟩ := hbad
          simp only [Addr.add, show ¬ (9 : Nat) = 0 by decide, if_false] at hcell
          have G := Lib.hid (get_great l acc x hr hlt HX.out h2)
          have h2' : (1 : Int) < (x : Int) % 128 := by omega
          clear hr hp hmp hsum hsum9
          go_wp2
          go_ret3
          rw [G.out]
          exact ⟨rfl, rfl⟩
        · have hS : acc + Bitty.sh7 x k ≤ 18446744073709551615 := by
            by_cases h8 : k ≤ 8
            · exact hsum h8
            · exact hsum9 (by omega) (by omega)
          clear hsum hsum9
          have f2 : IntKind.u64.wrap ((x : Int) % 128 * (pw : Int)) = ((Bitty.sh7 x k : Nat) : Int) := by
            rw [← hmp]
            have : (x : Int) % 128 * (pw : Int) = ((x % 128 * pw : Nat) : Int) := by simp
            rw [this, IntWalk.u64_in _ (by rw [hmp]; omega)]
          have hbad' : ¬ ((k : Int) = 9 ∧ 2 ≤ (x : Int) % 128) := by omega
          obtain ⟨q, hq, hq64, hqp⟩ := pow_next k pw hp
          have R := Lib.hid hr
          clear hr hp hmp
          by_cases h128 : 128 ≤ x
          · have N := get_next l k acc x R.out hlt (by omega) (by omega) HX.out h128
            by_cases h9 : k = 9
            · have hx2 : (x : Int) % 128 ≤ 1 := by omega
              subst h9
              clear b10 hbad hbad'
              simp only [Addr.add, show ¬ (9 : Nat) = 0 by decide, if_false] at hcell
              go_wp2
              go_round
              case rel => exact ⟨10, _, q, by go_num, rfl, rfl, by omega, by unfold In64; omega, hq64, hqp, N⟩
              case measure => simp [intOf]; omega
            · have b9 : ((k : Int) == 9) = false := beq_eq_false_iff_ne.2 (by omega)
              go_wp2
              go_round
              case rel => exact ⟨k + 1, _, q, by go_num, rfl, rfl, by omega, by unfold In64; omega, hq64, hqp, N⟩
              case measure => simp [intOf]; omega
          · have hx1 : x < 128 := by omega
            by_cases h9 : k = 9
            · have hx2 : (x : Int) % 128 ≤ 1 := by omega
              subst h9
              clear b10 hbad'
              simp only [Addr.add, show ¬ (9 : Nat) = 0 by decide, if_false] at hcell
              by_cases hz : x = 0
              · have bz : ((x : Int) == 0) = true := beq_iff_eq.2 (by omega)
                have G := Lib.hid (get_bad0 l 9 acc R.out (by omega) hlt (by rw [HX.out]; omega) (by omega))
                clear hz
                go_wp2
                go_ret3
                rw [G.out]
                exact ⟨rfl, rfl⟩
              · have bz : ((x : Int) == 0) = false := beq_eq_false_iff_ne.2 (by omega)
                have G := Lib.hid (get_done l 9 acc x R.out (by omega) hlt HX.out (by omega) (by omega) (by omega))
                clear hz
                go_wp2
                go_ret3
                rw [G.out]
                exact ⟨ret3 (by simp) (by simp) (by simp), rfl⟩
            · have b9 : ((k : Int) == 9) = false := beq_eq_false_iff_ne.2 (by omega)
              by_cases hz : x = 0 ∧ 0 < k
              · have bz : ((x : Int) == 0) = true := beq_iff_eq.2 (by omega)
                have hk0 : 0 < k := hz.2
                have G := Lib.hid (get_bad0 l k acc R.out (by omega) hlt (by rw [HX.out]; omega) (by omega))
                clear hz
                go_wp2
                go_ret3
                rw [G.out]
                exact ⟨rfl, rfl⟩
              · have G := Lib.hid (get_done l k acc x R.out (by omega) hlt HX.out (by omega) (by omega) (by omega))
                by_cases hk0 : 0 < k
                · have bz : ((x : Int) == 0) = false := beq_eq_false_iff_ne.2 (by omega)
                  clear hz
                  go_wp2
                  go_ret3
                  rw [G.out]
                  exact ⟨ret3 (by simp) (by simp) (by simp), rfl⟩
                · clear hz
                  go_wp2
                  go_ret3
                  rw [G.out]
                  exact ⟨ret3 (by simp) (by simp) (by simp), rfl⟩
    · have G := Lib.hid (get_short l k acc hr hlt)
      clear hr hp
      go_wp2
      go_ret3
      rw [G.out]
      exact ⟨rfl, rfl⟩
theorem refget_any (A : Option Addr) (c : Nat) (l : List UInt8) (w : World) (ha : Bs w A c l) (hl : l.length ≤ 65536) :
    Calls Tryd.prog 16 #[.slice A l.length c] w fun e w' =>
      e = .returned (.tuple #[.int .u64 (getF 0 0 (nat8 l)).1, .int .i64 (getF 0 0 (nat8 l)).2.1, .int .i64 (getF 0 0 (nat8 l)).2.2]) ∧ Below w.heap.size w w' :=
  (refget_same A c l w ha hl).mono fun _ _ ⟨he, hw⟩ => ⟨he, hw ▸ Below.refl _ _⟩
end Go.Proofs.YtghdojiffooilaaDoor.V01
