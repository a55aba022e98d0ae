/-
  What Get does.
-/
import Derived.Test.YtghdojiffooilaaDoorV01Put
namespace Go.Proofs.YtghdojiffooilaaDoor.V01
open Go.RowKit Go.Lib Go.Proofs.YtghdojiffooilaaDoor.Wd

def GetRel (l : List UInt8) (k acc : Nat) : Prop := k ≤ 10 ∧ acc < 2 ^ (7 * k) ∧ getF 0 0 (nat8 l) = getF k acc ((nat8 l).drop k)

theorem drop_cons (l : List UInt8) (k : Nat) (h : k < l.length) : (nat8 l).drop k = l[k].toNat :: (nat8 l).drop (k + 1) := by
  have h' : k < (nat8 l).length := by rw [nat8_len]; exact h
  rw [List.drop_eq_getElem_cons h']
  simp [nat8]
theorem get_next (l : List UInt8) (k acc x : Nat) (h : GetRel l k acc) (hk : k < l.length) (h9 : k ≤ 9) (h2 : k = 9 → x % 128 < 2) (hx : l[k].toNat = x) (h1 : 128 ≤ x) : GetRel l (k + 1) (acc + Bitty.sh7 x k) := by
  obtain ⟨a, b, e⟩ := h
  refine ⟨by omega, ?_, ?_⟩
  · have h3 : (x % 128 + 1) * 2 ^ (7 * k) ≤ 128 * 2 ^ (7 * k) := Nat.mul_le_mul_right _ (by omega)
    have h4 : 2 ^ (7 * (k + 1)) = 128 * 2 ^ (7 * k) := by rw [Nat.mul_add, Nat.pow_add]; omega
    rw [Nat.add_mul, Nat.one_mul] at h3
    rw [h4]
    unfold Bitty.sh7
    omega
  · rw [e, drop_cons l k hk, hx, getF, if_neg (by omega), if_pos h1]
    rfl
theorem get_bad0 (l : List UInt8) (k acc : Nat) (h : GetRel l k acc) (h9 : k ≤ 9) (hk : k < l.length) (hx : l[k].toNat = 0) (h0 : 0 < k) : getF 0 0 (nat8 l) = (0, 0, 11) := by
  obtain ⟨a, b, e⟩ := h
  rw [e, drop_cons l k hk, hx, getF, if_neg (by omega), if_neg (by omega), if_pos ⟨rfl, h0⟩]
theorem get_done (l : List UInt8) (k acc x : Nat) (h : GetRel l k acc) (hk9 : k ≤ 9) (hk : k < l.length) (hx : l[k].toNat = x) (h9 : k = 9 → x < 2) (h1 : x < 128) (h0 : ¬ (x = 0 ∧ 0 < k)) : getF 0 0 (nat8 l) = (acc + Bitty.sh7 x k, k + 1, 0) := by
  obtain ⟨a, b, e⟩ := h
  rw [e, drop_cons l k hk, hx, getF, if_neg (by omega), if_neg (by omega), if_neg h0]
  rfl
theorem get_great (l : List UInt8) (acc x : Nat) (h : GetRel l 9 acc) (hk : 9 < l.length) (hx : l[9].toNat = x) (h2 : 2 ≤ x % 128) : getF 0 0 (nat8 l) = (0, 0, 11) := by
  obtain ⟨a, b, e⟩ := h
  rw [e, drop_cons l 9 hk, hx, getF, if_pos (.inr ⟨rfl, h2⟩)]
theorem get_long (l : List UInt8) (acc : Nat) (h : GetRel l 10 acc) (hk : 10 < l.length) : getF 0 0 (nat8 l) = (0, 0, 11) := by
  obtain ⟨a, b, e⟩ := h
  rw [e, drop_cons l 10 hk, getF, if_pos (.inl (by omega))]
theorem get_short (l : List UInt8) (k acc : Nat) (h : GetRel l k acc) (hk : ¬ k < l.length) : getF 0 0 (nat8 l) = (0, 0, 10) := by
  obtain ⟨a, b, e⟩ := h
  rw [e, List.drop_eq_nil_of_le (by rw [nat8_len]; omega)]
  rfl
theorem ret3 {a b c a' b' c' : Int} (h1 : a = a') (h2 : b = b') (h3 : c = c') : Ending.returned (.tuple #[.int .u64 a, .int .i64 b, .int .i64 c]) = .returned (.tuple #[.int .u64 a', .int .i64 b', .int .i64 c']) := by rw [h1, h2, h3]

set_option maxRecDepth 20000 in
set_option maxHeartbeats 1000000 in
theorem get_any (A : Option Addr) (c : Nat) (l : List UInt8) (w : World) (ha : Bs w A c l) (hl : l.length ≤ 65536) :
    Calls Tryd.prog 14 #[.slice A l.length c] w fun e w' =>
      e = .returned (.tuple #[.int .u64 (getF 0 0 (nat8 l)).1, .int .i64 (getF 0 0 (nat8 l)).2.1, .int .i64 (getF 0 0 (nat8 l)).2.2]) ∧ w = w' := by
  go_enter Tryd.func14, Tryd.ntmps14
  go_wp2
  go_loop [5, 13] (fun a i => ∃ k acc : Nat, i = .int .i64 k ∧ a = .int .u64 acc ∧ k ≤ l.length ∧ In64 acc ∧ GetRel l k acc) (fun _ i => l.length - (intOf i).toNat)
  case atStart => exact ⟨0, 0, rfl, rfl, by omega, by unfold In64; omega, by omega, by simp, by simp⟩
  case round =>
    obtain ⟨k, acc, rfl, rfl, hk, hacc0, hr⟩ := hrel
    have hacc : (acc : Int) ≤ 18446744073709551615 := hacc0
    have hk10 : k ≤ 10 := hr.1
    clear hacc0
    by_cases hlt : k < l.length
    · obtain ⟨ad, rfl, hcell⟩ := ha.get hlt
      have hx : l[k].toNat < 256 := l[k].toNat_lt
      generalize hX : l[k].toNat = x at hcell hx
      have HX := Lib.hid hX
      clear hX
      by_cases h10 : k = 10
      · subst h10
        simp only [Addr.add, show ¬ (10 : Nat) = 0 by decide, if_false] at hcell
        have G := Lib.hid (get_long l acc hr hlt)
        clear hr
        go_wp2
        go_ret3
        rw [G.out]
        exact ⟨rfl, rfl⟩
      by_cases h9 : k = 9
      · subst h9
        simp only [Addr.add, show ¬ (9 : Nat) = 0 by decide, if_false] at hcell
        have hsh : (((x : Int) % 128 / 2) != 0) = decide (2 ≤ x % 128) := by
          by_cases h : 2 ≤ x % 128
          · simp [h]; omega
          · simp [h]; omega
        by_cases h2 : x % 128 < 2
        · have h2' : decide (2 ≤ x % 128) = false := by simp; omega
          have f2 : IntKind.u64.wrap ((x : Int) % 128 * 9223372036854775808) = (x : Int) % 128 * 9223372036854775808 := by
            exact IntWalk.u64_in _ (by omega)
          have f3 := Bitty.u64_or_high 63 (acc : Int) ((x : Int) % 128 * 9223372036854775808) (by omega) (by have := hr.2.1; omega) (by omega) (by omega) (by have := hr.2.1; omega)
          have R := Lib.hid hr
          by_cases h128 : 128 ≤ x
          · have N := get_next l 9 acc x R.out hlt (by omega) (by omega) HX.out h128
            have hin : In64 (acc + Bitty.sh7 x 9) := by unfold In64 Bitty.sh7; have := hr.2.1; omega
            clear hr
            go_wp2
            go_round
            case rel => exact ⟨10, _, by go_num, by simp [Bitty.sh7], by omega, hin, N⟩
            case measure => simp [intOf]; omega
          · clear hr
            go_wp2
            all_goals go_ret3
            · rw [get_bad0 l 9 acc R.out (by omega) hlt (by rw [HX.out]; omega) (by omega)]
              exact ⟨rfl, rfl⟩
            · rw [get_done l 9 acc x R.out (by omega) hlt HX.out (by omega) (by omega) (by omega)]
              exact ⟨ret3 (by simp [Bitty.sh7]) (by simp) (by simp), rfl⟩
        · have G := Lib.hid (get_great l acc x hr hlt HX.out (by omega))
          have h2' : decide (2 ≤ x % 128) = true := by simp; omega
          clear hr
          go_wp2
          go_ret3
          rw [G.out]
          exact ⟨rfl, rfl⟩
      · have hk8 : k ≤ 8 := by omega
        clear h9 h10
        have f1 := Bitty.low7_zero x (64 - 7 * k) (by omega)
        have hleft : 0 < 64 - 7 * (k : Int) := by omega
        have f2 := Bitty.wrap_sh7 x k hk8
        have f3 := Bitty.or_sh7 acc x k hk8 hr.2.1
        have R := Lib.hid hr
        clear hr
        have hs7 := Bitty.sh7_lt x k hk8
        by_cases h128 : 128 ≤ x
        · have N := get_next l k acc x R.out hlt (by omega) (by omega) HX.out h128
          have hac : acc ≤ 72057594037927936 := by
            have h1 := R.out.2.1
            have h2 : (2 : Nat) ^ (7 * k) ≤ 2 ^ 56 := Nat.pow_le_pow_right (by decide) (by omega)
            omega
          go_wp2
          go_round
          case rel => exact ⟨k + 1, _, by go_num, rfl, by omega, by unfold In64; omega, N⟩
          case measure => simp [intOf]; omega
        · go_wp2
          all_goals go_ret3
          · rw [get_bad0 l k acc R.out (by omega) hlt (by rw [HX.out]; omega) (by omega)]
            exact ⟨rfl, rfl⟩
          · have hx0 : x = 0 := by omega
            rw [get_done l k acc x R.out (by omega) hlt HX.out (by omega) (by omega) (by omega)]
            exact ⟨ret3 (by simp [hx0]) (by simp) (by simp), rfl⟩
          · rw [get_done l k acc x R.out (by omega) hlt HX.out (by omega) (by omega) (by omega)]
            exact ⟨ret3 (by simp) (by simp) (by simp), rfl⟩
    · have G := Lib.hid (get_short l k acc hr hlt)
      clear hr
      go_wp2
      go_ret3
      rw [G.out]
      exact ⟨rfl, rfl⟩
end Go.Proofs.YtghdojiffooilaaDoor.V01
