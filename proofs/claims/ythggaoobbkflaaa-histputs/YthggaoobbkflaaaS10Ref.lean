/-
  The document's Sum; the chapter's example.
-/
import Derived.Test.YthggaoobbkflaaaS10Sat
import Derived.Laws.Externs
set_option linter.unusedSimpArgs false
set_option linter.unusedVariables false
namespace Go.Proofs.Ythggaoobbkflaaa.S10
open Go.RowKit Go.Lib Go.Proofs.Ythggaoobbkflaaa.Wd

theorem add64_0 (x y s q : Int) (hx : 0 ≤ x) (hy : 0 ≤ y) (hs : (x + y) % 18446744073709551616 = s) (hq : (x + y) / 18446744073709551616 = q) (w : World) :
    (callFunc 34 #[.int .u64 x, .int .u64 y, .int .u64 0]).run Try.prog w = .ok (.value (.tuple #[.int .u64 s, .int .u64 q])) w := by
  rw [run_callFunc_extern Try.func34 (by kernel_rfl) (by kernel_rfl) (by kernel_rfl) (e := add64Entry) (by kernel_rfl), run_add64 x y 0 hx hy (Int.le_refl 0) (by decide)]
  subst hs hq
  simp [Result.andThen]
set_option maxRecDepth 20000 in
set_option maxHeartbeats 1000000 in
theorem rsum_at (A : Option Addr) (c N : Nat) (l : List Nat) (n : Int) (f : Bool) (w : World) (ha : Us w A c l) (hN : l.length = N) (h : Is (tot l) n f) :
    Calls Try.prog 30 #[.slice A N c] w fun e w' => e = .returned (.tuple #[.int .u64 n, .bool f]) ∧ w = w' := by
  have hmx : N ≤ 9223372036854775807 := by have := ha.1.cap; have := ha.1.max; unfold maxLen at this; omega
  have I0 := Lib.hid (show (0 : Int) * 18446744073709551616 + 0 = tot (l.take 0) from rfl)
  have HN := Lib.hid hN
  have HI := Lib.hid h
  clear hN h
  go_enter Try.func30, Try.ntmps30
  go_wp2
  go_loop [4, 5, 6] (fun a b i => ∃ (k : Nat) (hi lo : Int), a = .int .u64 hi ∧ b = .int .u64 lo ∧ i = .int .i64 (k : Int) ∧ k ≤ N ∧ 0 ≤ hi ∧ hi ≤ k ∧ 0 ≤ lo ∧ lo ≤ 18446744073709551615 ∧ Hid (hi * 18446744073709551616 + lo = tot (l.take k))) (fun _ _ i => N - (intOf i).toNat)
  case atStart => exact ⟨0, 0, 0, rfl, rfl, rfl, by omega, by omega, by omega, by omega, by omega, I0⟩
  case round =>
    clear I0
    obtain ⟨k, hi, lo, rfl, rfl, rfl, hk, h0, h1, l0, l1, I⟩ := hrel
    by_cases hlt : k < N
    · have hkl : k < l.length := by rw [HN.out]; exact hlt
      obtain ⟨ad, rfl, hcell, hx⟩ := ha.get hkl
      have ht := tot_take hkl
      generalize l[k] = x at hcell hx ht
      obtain ⟨s, hs⟩ : ∃ s, (lo + (x : Int)) % 18446744073709551616 = s := ⟨_, rfl⟩
      obtain ⟨q, hq⟩ : ∃ q, (lo + (x : Int)) / 18446744073709551616 = q := ⟨_, rfl⟩
      have hc := fun W => add64_0 lo x s q l0 (by omega) hs hq W
      have s0 : 0 ≤ s := by omega
      have s1 : s ≤ 18446744073709551615 := by omega
      have q0 : 0 ≤ q := by omega
      have q1 : q ≤ 1 := by omega
      have I2 := Lib.hid (show (hi + q) * 18446744073709551616 + s = tot (l.take (k + 1)) from by rw [← ht, ← I.out]; omega)
      have hw : IntKind.u64.wrap (hi + q) = hi + q := IntWalk.u64_in _ (by omega)
      clear hs hq I ht
      go_wp2_with (simp only [hc])
      go_round
      case rel => exact ⟨k + 1, hi + q, s, rfl, rfl, by go_num, by omega, by omega, by omega, s0, s1, I2⟩
      case measure => first | go_num | (simp [intOf]; omega)
    · have hkn : k = N := by omega
      subst hkn
      have I2 : hi * 18446744073709551616 + lo = tot l := by have := I.out; rwa [List.take_of_length_le (by rw [HN.out]; exact Nat.le_refl _)] at this
      by_cases hp : 0 < hi
      · obtain ⟨rfl, rfl⟩ := HI.out.over (by omega)
        clear I I2
        go_wp2
        go_ret2
        exact ⟨rfl, rfl⟩
      · have hz : hi = 0 := by omega
        subst hz
        by_cases hg : 9223372036854775807 < lo
        · obtain ⟨rfl, rfl⟩ := HI.out.over (by omega)
          clear I I2
          go_wp2
          go_ret2
          exact ⟨rfl, rfl⟩
        · obtain ⟨e1, rfl⟩ := HI.out.under (by omega)
          have e2 : lo = n := by omega
          subst e2
          clear I I2 e1
          go_wp2
          go_ret2
          exact ⟨rfl, rfl⟩

/-- a literal of two numbers -/
theorem Us.two (w : World) (e : TypeId) (g : Nat) (hg : w.heap.size = g) (a b : Nat) (x y : Int) (hx : (a : Int) = x) (hy : (b : Int) = y) (ha : x ≤ 18446744073709551615) (hb : y ≤ 18446744073709551615) :
    Us (w.alloc (.cells #[.int .u64 x, .int .u64 y] e)) (some ⟨g, 0, none⟩) 2 [a, b] := by
  subst hx hy hg
  refine ⟨⟨rfl, (fun h => by cases h), by simp, by unfold maxLen; omega, fun ad h i u hu => ?_⟩, fun x hx => ?_⟩
  · injection h with h
    subst h
    match i with
    | 0 => simp at hu; subst hu; simp [Addr.add]
    | 1 => simp at hu; subst hu; simp [Addr.add]
    | i + 2 => simp at hu
  · simp only [List.mem_cons, List.not_mem_nil, or_false] at hx
    rcases hx with rfl | rfl
    · exact ha
    · exact hb
theorem is_full : Is (tot [9223372036854775807, 1]) 9223372036854775807 true := ⟨by simp [tot], by omega, by omega, (fun e => by cases e), fun _ => ⟨rfl, by simp [tot]⟩⟩
theorem is_seven : Is (tot [3, 4]) 7 false := ⟨by simp [tot], by omega, by omega, (fun _ => by simp [tot]), fun e => by cases e⟩
end Go.Proofs.Ythggaoobbkflaaa.S10
