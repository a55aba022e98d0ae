/-
  hist.mayBe, hist.Bucket (a binary search), Count, Sum, bucket; the document's Right and Bucket.
-/
import Derived.Test.YthggaoobbkflaaaH11Mem
import Derived.Test.YthggaoobbkflaaaS10Sat
import Derived.BigQuiet
import Derived.Deep.QuietTactic
set_option linter.unusedSimpArgs false
set_option linter.unusedVariables false
namespace Go.Proofs.Ythggaoobbkflaaa.H11
open Go.RowKit Go.Lib Go.Proofs.Ythggaoobbkflaaa.Wd Go.Proofs.Ythggaoobbkflaaa.S10

theorem ret_bool {a b : Bool} (h : a = b) : Ending.returned (.bool a) = .returned (.bool b) := by rw [h]
theorem us_max {w : World} {A : Option Addr} {c N : Nat} {l : List Nat} (h : Us w A c l) (hN : l.length = N) : N ≤ 9223372036854775807 := by
  have := h.1.cap; have := h.1.max; unfold maxLen at this; omega
set_option maxRecDepth 20000 in
theorem less_at (x y : Int) (b : Bool) (w : World) (h : decide (x < y) = b) :
    Calls Try.prog 32 #[.int .u64 x, .int .u64 y] w fun e w' => e = .returned (.bool b) ∧ w = w' := by
  have n1 : ∀ (z : Int) (W : World), Calls Try.prog 35 #[.int .u64 z] W fun e w' => e = .returned (.bool false) ∧ W = w' := by
    intro z W
    go_enter Try.func35, Try.ntmps35
    go_wp2
    go_ret
    exact ⟨ret_bool (by simp), rfl⟩
  go_enter Try.func32, Try.ntmps32
  go_wp2_with fail
  refine (n1 _ _).mono ?_
  rintro e w1 ⟨rfl, rfl⟩
  go_wp2
  go_ret
  exact ⟨ret_bool (by simp [h]), rfl⟩
theorem nan_at (z : Int) (W : World) : Calls Try.prog 33 #[.int .u64 z] W fun e w' => e = .returned (.bool false) ∧ W = w' := by
  go_enter Try.func33, Try.ntmps33
  go_wp2
  go_ret
  exact ⟨ret_bool (by simp), rfl⟩
/-- what the search tells: how many are below, and whether it is there -/
def BsOut (k : Nat) (w : World) (e : Ending) (w' : World) : Prop := ∃ q, e = .returned (.tuple #[.int .i64 (k : Int), .bool q]) ∧ w = w'
theorem BsOut.of {k : Nat} {w : World} (j : Int) (q : Bool) (h : j = (k : Int)) : BsOut k w (.returned (.tuple #[.int .i64 j, .bool q])) w := ⟨q, by rw [h], rfl⟩
set_option maxRecDepth 20000 in
set_option maxHeartbeats 1000000 in
theorem search_at (A : Option Addr) (c N n : Nat) (bs : List Nat) (w : World) (ha : Us w A c bs) (hN : bs.length = N) (hr : Up bs bs.length) (hn : (n : Int) ≤ 18446744073709551615) (hm : N ≤ 60) :
    Calls Try.prog 27 #[.slice A N c, .int .u64 (n : Int)] w (BsOut (bk bs n) w) := by
  have HN := Lib.hid hN
  have HR := Lib.hid hr
  have I0 := Lib.hid (show (∀ t (h : t < bs.length), t < 0 → bs[t] < n) ∧ (∀ t (h : t < bs.length), N ≤ t → ¬ bs[t] < n) from ⟨fun t h k => by omega, fun t h k => by omega⟩)
  clear hN hr
  go_enter Try.func27, Try.ntmps27
  go_wp2
  go_loop [7, 8] (fun a b => ∃ (i j : Nat), a = .int .i64 (i : Int) ∧ b = .int .i64 (j : Int) ∧ i ≤ j ∧ j ≤ N ∧ Hid ((∀ t (h : t < bs.length), t < i → bs[t] < n) ∧ (∀ t (h : t < bs.length), j ≤ t → ¬ bs[t] < n))) (fun a b => (intOf b).toNat - (intOf a).toNat)
  case atStart => exact ⟨0, N, rfl, rfl, by omega, by omega, I0⟩
  case round =>
    clear I0
    obtain ⟨i, j, rfl, rfl, hij, hj, I⟩ := hrel
    by_cases hlt : i < j
    · obtain ⟨h, hh⟩ : ∃ h, (i + j) / 2 = h := ⟨_, rfl⟩
      have h1 : i ≤ h := by omega
      have h2 : h < j := by omega
      have hz : ((i : Int) + (j : Int)) / 2 = (h : Int) := by omega
      have hw1 : IntKind.i64.wrap ((i : Int) + (j : Int)) = (i : Int) + (j : Int) := by rw [IntKind.wrap_i64]; omega
      have hw2 : IntKind.u64.wrap ((i : Int) + (j : Int)) = (i : Int) + (j : Int) := IntWalk.u64_in _ (by omega)
      clear hh
      have hkl : h < bs.length := by rw [HN.out]; omega
      obtain ⟨ad, rfl, hcell, hx⟩ := ha.get hkl
      have J1 := Lib.hid (show bs[h] < n → (∀ t (k : t < bs.length), t < h + 1 → bs[t] < n) from fun hb t k ht => Nat.lt_of_le_of_lt (HR.out.le hkl (by omega)) hb)
      have J2 := Lib.hid (show ¬ bs[h] < n → (∀ t (k : t < bs.length), h ≤ t → ¬ bs[t] < n) from fun hb t k ht => by have := HR.out.le k ht; omega)
      generalize hbx : bs[h] = x at hcell hx J1 J2
      clear hbx
      have hL := fun b hb W => less_at (x : Int) (n : Int) b W hb
      by_cases hb : x < n
      · have hb' : decide ((x : Int) < (n : Int)) = true := by simpa using (by omega : (x : Int) < (n : Int))
        have hL' := hL true hb'
        clear hL hb'
        go_wp2_with fail
        refine (hL' _).mono ?_
        rintro e w1 ⟨rfl, rfl⟩
        go_wp2
        go_round
        case rel => exact ⟨h + 1, j, by go_num, rfl, by omega, by omega, J1.out hb, I.out.2⟩
        case measure => first | go_num | (simp [intOf]; omega)
      · have hb' : decide ((x : Int) < (n : Int)) = false := by simpa using (by omega : ¬ (x : Int) < (n : Int))
        have hL' := hL false hb'
        clear hL hb'
        go_wp2_with fail
        refine (hL' _).mono ?_
        rintro e w1 ⟨rfl, rfl⟩
        go_wp2
        go_round
        case rel => exact ⟨i, h, rfl, by go_num, by omega, by omega, I.out.1, J2.out hb⟩
        case measure => first | go_num | (simp [intOf]; omega)
    · obtain ⟨m, hm1, hm2⟩ : ∃ m, i = m ∧ j = m := ⟨i, rfl, by omega⟩
      subst hm1
      subst hm2
      have K := Lib.hid (show (j : Int) = (bk bs n : Int) from by rw [bk_cut (by rw [HN.out]; exact hj) I.out.1 I.out.2])
      clear I hlt hij
      by_cases hiN : j < N
      · have hkl : j < bs.length := by rw [HN.out]; exact hiN
        obtain ⟨ad, rfl, hcell, hx⟩ := ha.get hkl
        generalize bs[j] = x at hcell hx
        by_cases hb : (x : Int) = (n : Int)
        · go_wp2
          go_ret2
          exact BsOut.of _ _ K.out
        · go_wp2_with fail
          refine (nan_at _ _).mono ?_
          rintro e w1 ⟨rfl, rfl⟩
          go_wp2
          go_ret2
          exact BsOut.of _ _ K.out
      · go_wp2
        go_ret2
        exact BsOut.of _ _ K.out
end Go.Proofs.Ythggaoobbkflaaa.H11
