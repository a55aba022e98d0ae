/-
  The walk of DigestShares.
-/
import Derived.Test.YtjbnoioildbahaaD9Ref
set_option linter.unusedSimpArgs false
set_option linter.unusedVariables false
namespace Go.Proofs.Ytjbnoioildbahaa.D09
open Go.RowKit Go.Lib Go.Proofs.Ytjbnoioildbahaa.Wd

theorem part_in (t : Nat) (n : Int) (h : 1 ≤ n) : 0 ≤ part t n ∧ part t n < n := by
  unfold part
  rw [if_neg (by omega)]
  exact ⟨Int.emod_nonneg _ (by omega), Int.emod_lt_of_pos _ (by omega)⟩
set_option maxRecDepth 20000 in
set_option maxHeartbeats 1000000 in
theorem shares_law (t : Nat) (a b n : Nat) (w : World) (ht : (t : Int) ≤ 18446744073709551615) (ha : a ≤ 65535) (hb : b ≤ 65535) (hn : n ≤ 255) :
    Calls Try.prog 5 #[.int .u64 (t : Int), .int .u16 (a : Int), .int .u16 (b : Int), .int .u8 (n : Int)] w fun e w' => e = .returned (.bool true) ∧ Below w.heap.size w w' := by
  have m0 := Int.emod_nonneg (tr t) (b := 1000) (by omega)
  have m1 := Int.emod_lt_of_pos (tr t) (b := 1000) (by omega)
  have hS := fun (x : Int) (q : Bool) W => share_at t x q W ht
  have hP := fun W => part_at t (1 + n) _ W ht (by omega) rfl
  have hP1 := fun W => part_at t 1 0 W ht (by omega) (by unfold part; rw [if_neg (by omega)]; exact Int.emod_one _)
  obtain ⟨p0, p1⟩ := part_in t (1 + n) (by omega)
  generalize tr t % 1000 = m at *
  generalize part t (1 + n) = p at *
  have b0 := Below.refl w.heap.size w
  have key : ∀ x y : Int, x ≤ y → ∃ s1 s2 : Bool, (s1 = true → s2 = true) ∧ decide (m < x) = s1 ∧ decide (m < y) = s2 := fun x y hxy => ⟨_, _, fun h => by simp at h ⊢; omega, rfl, rfl⟩
  have S3 := fun W => hS 1000 true W (by simp; omega)
  have S4 := fun W => hS 0 false W (by simp; omega)
  have arms : ∃ s1 s2 : Bool, (s1 = true → s2 = true) ∧ ((a < b ∧ (∀ W : World, Calls Try.prog 13 #[.int .u64 (t : Int), .int .i64 (a : Int)] W fun e w' => e = .returned (.bool s1) ∧ Below W.heap.size W w') ∧ (∀ W : World, Calls Try.prog 13 #[.int .u64 (t : Int), .int .i64 (b : Int)] W fun e w' => e = .returned (.bool s2) ∧ Below W.heap.size W w')) ∨ (b < a ∧ (∀ W : World, Calls Try.prog 13 #[.int .u64 (t : Int), .int .i64 (b : Int)] W fun e w' => e = .returned (.bool s1) ∧ Below W.heap.size W w') ∧ (∀ W : World, Calls Try.prog 13 #[.int .u64 (t : Int), .int .i64 (a : Int)] W fun e w' => e = .returned (.bool s2) ∧ Below W.heap.size W w')) ∨ (a = b ∧ (∀ W : World, Calls Try.prog 13 #[.int .u64 (t : Int), .int .i64 (a : Int)] W fun e w' => e = .returned (.bool s1) ∧ Below W.heap.size W w') ∧ (∀ W : World, Calls Try.prog 13 #[.int .u64 (t : Int), .int .i64 (b : Int)] W fun e w' => e = .returned (.bool s2) ∧ Below W.heap.size W w'))) := by
    rcases Nat.lt_trichotomy a b with hle | hle | hle
    · obtain ⟨s1, s2, h, h1, h2⟩ := key a b (by omega)
      exact ⟨s1, s2, h, .inl ⟨hle, fun W => hS a s1 W h1, fun W => hS b s2 W h2⟩⟩
    · obtain ⟨s1, s2, h, h1, h2⟩ := key a b (by omega)
      exact ⟨s1, s2, h, .inr (.inr ⟨hle, fun W => hS a s1 W h1, fun W => hS b s2 W h2⟩)⟩
    · obtain ⟨s1, s2, h, h1, h2⟩ := key b a (by omega)
      exact ⟨s1, s2, h, .inr (.inl ⟨hle, fun W => hS b s1 W h1, fun W => hS a s2 W h2⟩)⟩
  clear hS m0 m1 key
  obtain ⟨s1, s2, hs, ⟨hle, S1, S2⟩ | ⟨hle, S1, S2⟩ | ⟨rfl, S1, S2⟩⟩ := arms
  · go_enter Try.func5, Try.ntmps5
    go_wp2_with fail
    refine (alive_any _).mono ?_
    rintro e w1 ⟨rfl, b1⟩
    replace b0 := b0.trans (b1.mono b0.size)
    clear b1
    go_wp2_with fail
    refine (hP _).mono ?_
    rintro e w2 ⟨rfl, b1⟩
    replace b0 := b0.trans (b1.mono b0.size)
    clear b1
    go_wp2_with fail
    refine (S1 _).mono ?_
    rintro e w3 ⟨rfl, b1⟩
    replace b0 := b0.trans (b1.mono b0.size)
    clear b1
    cases s1 with
    | true =>
      have e2 := hs rfl
      subst e2
      clear hs
      go_wp2_with fail
      refine (S2 _).mono ?_
      rintro e w4 ⟨rfl, b1⟩
      replace b0 := b0.trans (b1.mono b0.size)
      clear b1
      go_wp2_with fail
      refine (hP1 _).mono ?_
      rintro e w5 ⟨rfl, b1⟩
      replace b0 := b0.trans (b1.mono b0.size)
      clear b1
      go_wp2_with fail
      refine (S3 _).mono ?_
      rintro e w6 ⟨rfl, b1⟩
      replace b0 := b0.trans (b1.mono b0.size)
      clear b1
      go_wp2_with fail
      refine (S4 _).mono ?_
      rintro e w7 ⟨rfl, b1⟩
      replace b0 := b0.trans (b1.mono b0.size)
      clear b1
      go_wp2
      go_ret
      exact ⟨rfl, b0⟩
    | false =>
      clear hs
      go_wp2_with fail
      refine (hP1 _).mono ?_
      rintro e w5 ⟨rfl, b1⟩
      replace b0 := b0.trans (b1.mono b0.size)
      clear b1
      go_wp2_with fail
      refine (S3 _).mono ?_
      rintro e w6 ⟨rfl, b1⟩
      replace b0 := b0.trans (b1.mono b0.size)
      clear b1
      go_wp2_with fail
      refine (S4 _).mono ?_
      rintro e w7 ⟨rfl, b1⟩
      replace b0 := b0.trans (b1.mono b0.size)
      clear b1
      go_wp2
      go_ret
      exact ⟨rfl, b0⟩
  · go_enter Try.func5, Try.ntmps5
    go_wp2_with fail
    refine (alive_any _).mono ?_
    rintro e w1 ⟨rfl, b1⟩
    replace b0 := b0.trans (b1.mono b0.size)
    clear b1
    go_wp2_with fail
    refine (hP _).mono ?_
    rintro e w2 ⟨rfl, b1⟩
    replace b0 := b0.trans (b1.mono b0.size)
    clear b1
    go_wp2_with fail
    refine (S1 _).mono ?_
    rintro e w3 ⟨rfl, b1⟩
    replace b0 := b0.trans (b1.mono b0.size)
    clear b1
    cases s1 with
    | true =>
      have e2 := hs rfl
      subst e2
      clear hs
      go_wp2_with fail
      refine (S2 _).mono ?_
      rintro e w4 ⟨rfl, b1⟩
      replace b0 := b0.trans (b1.mono b0.size)
      clear b1
      go_wp2_with fail
      refine (hP1 _).mono ?_
      rintro e w5 ⟨rfl, b1⟩
      replace b0 := b0.trans (b1.mono b0.size)
      clear b1
      go_wp2_with fail
      refine (S3 _).mono ?_
      rintro e w6 ⟨rfl, b1⟩
      replace b0 := b0.trans (b1.mono b0.size)
      clear b1
      go_wp2_with fail
      refine (S4 _).mono ?_
      rintro e w7 ⟨rfl, b1⟩
      replace b0 := b0.trans (b1.mono b0.size)
      clear b1
      go_wp2
      go_ret
      exact ⟨rfl, b0⟩
    | false =>
      clear hs
      go_wp2_with fail
      refine (hP1 _).mono ?_
      rintro e w5 ⟨rfl, b1⟩
      replace b0 := b0.trans (b1.mono b0.size)
      clear b1
      go_wp2_with fail
      refine (S3 _).mono ?_
      rintro e w6 ⟨rfl, b1⟩
      replace b0 := b0.trans (b1.mono b0.size)
      clear b1
      go_wp2_with fail
      refine (S4 _).mono ?_
      rintro e w7 ⟨rfl, b1⟩
      replace b0 := b0.trans (b1.mono b0.size)
      clear b1
      go_wp2
      go_ret
      exact ⟨rfl, b0⟩
  · go_enter Try.func5, Try.ntmps5
    go_wp2_with fail
    refine (alive_any _).mono ?_
    rintro e w1 ⟨rfl, b1⟩
    replace b0 := b0.trans (b1.mono b0.size)
    clear b1
    go_wp2_with fail
    refine (hP _).mono ?_
    rintro e w2 ⟨rfl, b1⟩
    replace b0 := b0.trans (b1.mono b0.size)
    clear b1
    go_wp2_with fail
    refine (S1 _).mono ?_
    rintro e w3 ⟨rfl, b1⟩
    replace b0 := b0.trans (b1.mono b0.size)
    clear b1
    cases s1 with
    | true =>
      have e2 := hs rfl
      subst e2
      clear hs
      go_wp2_with fail
      refine (S2 _).mono ?_
      rintro e w4 ⟨rfl, b1⟩
      replace b0 := b0.trans (b1.mono b0.size)
      clear b1
      go_wp2_with fail
      refine (hP1 _).mono ?_
      rintro e w5 ⟨rfl, b1⟩
      replace b0 := b0.trans (b1.mono b0.size)
      clear b1
      go_wp2_with fail
      refine (S3 _).mono ?_
      rintro e w6 ⟨rfl, b1⟩
      replace b0 := b0.trans (b1.mono b0.size)
      clear b1
      go_wp2_with fail
      refine (S4 _).mono ?_
      rintro e w7 ⟨rfl, b1⟩
      replace b0 := b0.trans (b1.mono b0.size)
      clear b1
      go_wp2
      go_ret
      exact ⟨rfl, b0⟩
    | false =>
      clear hs
      go_wp2_with fail
      refine (hP1 _).mono ?_
      rintro e w5 ⟨rfl, b1⟩
      replace b0 := b0.trans (b1.mono b0.size)
      clear b1
      go_wp2_with fail
      refine (S3 _).mono ?_
      rintro e w6 ⟨rfl, b1⟩
      replace b0 := b0.trans (b1.mono b0.size)
      clear b1
      go_wp2_with fail
      refine (S4 _).mono ?_
      rintro e w7 ⟨rfl, b1⟩
      replace b0 := b0.trans (b1.mono b0.size)
      clear b1
      go_wp2
      go_ret
      exact ⟨rfl, b0⟩
end Go.Proofs.Ytjbnoioildbahaa.D09
