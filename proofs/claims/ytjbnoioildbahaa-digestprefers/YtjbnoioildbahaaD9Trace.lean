/-
  digest.ofTrace, Part, Share; the document's Trace, Part, Share.
-/
import Derived.Test.YtjbnoioildbahaaD9Hash
import Derived.Test.YtjbnoioildbahaaBits
set_option linter.unusedSimpArgs false
set_option linter.unusedVariables false
namespace Go.Proofs.Ytjbnoioildbahaa.D09
open Go.RowKit Go.Lib Go.Proofs.Ytjbnoioildbahaa.Wd

/-- where the loop is: the block's cells -/
structure TrR (w : World) (t k : Nat) (wr : World) : Prop where
  bel : Below w.heap.size w wr
  lt : w.heap.size < wr.heap.size
  cell : ∀ j, j < 8 → wr.cell? ⟨w.heap.size, j, none⟩ = some (.int .u8 (if j < k then (tbk t j : Int) else 0))
  frz : ∀ j, j < 8 → wr.frozen? ⟨w.heap.size, j, none⟩ = false
theorem TrR.start (w : World) (t : Nat) (e : TypeId) : TrR w t 0 (w.alloc (.cells #[.int .u8 0, .int .u8 0, .int .u8 0, .int .u8 0, .int .u8 0, .int .u8 0, .int .u8 0, .int .u8 0] e)) := by
  refine ⟨(Below.refl _ _).alloc (Nat.le_refl _) _, by simp, fun j hj => ?_, fun j hj => ?_⟩
  · simp only [Nat.not_lt_zero, if_false]
    match j, hj with
    | 0, _ | 1, _ | 2, _ | 3, _ | 4, _ | 5, _ | 6, _ | 7, _ => simp
  · match j, hj with
    | 0, _ | 1, _ | 2, _ | 3, _ | 4, _ | 5, _ | 6, _ | 7, _ => simp
theorem TrR.step {w : World} {t k : Nat} {wr : World} (h : TrR w t k wr) (hk : k < 8) : TrR w t (k + 1) (wr.setCell ⟨w.heap.size, k, none⟩ (.int .u8 (tbk t k : Int))) := by
  refine ⟨h.bel.setCell (p := ⟨w.heap.size, k, none⟩) (Nat.le_refl _) _, by have := h.lt; simpa using this, fun j hj => ?_, fun j hj => by rw [World.frozen?_setCell]; exact h.frz j hj⟩
  by_cases e : j = k
  · subst e
    have hc := h.cell j hj
    rw [if_neg (Nat.lt_irrefl _)] at hc
    rw [if_pos (Nat.lt_succ_self _)]
    apply World.cell?_setCell_same
    exact hc
  · have : (j < k + 1) ↔ j < k := by omega
    simp only [this]
    refine Eq.trans ?_ (h.cell j hj)
    apply World.cell?_setCell_other
    intro q
    injection q with _ q
    exact e q.symm
theorem TrR.fin {w : World} {t : Nat} {wr : World} (h : TrR w t 8 wr) : Bs wr (some ⟨w.heap.size, 0, none⟩) 8 (tb t 8) := by
  refine ⟨by rw [bc_len]; omega, fun e => (by cases e), by rw [tb_len]; omega, by unfold maxLen; omega, fun ad ha i u hu => ?_⟩
  injection ha with ha
  subst ha
  obtain ⟨hi, rfl⟩ := bc_at _ i u hu
  rw [tb_len] at hi
  have e1 : (⟨w.heap.size, 0, none⟩ : Addr).add i = ⟨w.heap.size, i, none⟩ := by unfold Addr.add; split <;> simp_all
  rw [e1, h.cell i hi, if_pos hi]
  simp only [tb, List.getElem_map, List.getElem_range, tbk_nat]

theorem tbk_int (t k : Nat) : (tbk t k : Int) = (t : Int) / 2 ^ (8 * k) % 256 := by
  unfold tbk
  have e : (256 : Nat) ^ k = 2 ^ (8 * k) := by rw [Nat.pow_mul]
  rw [e, Int.natCast_emod, Int.natCast_ediv, Int.natCast_pow]
  rfl
set_option maxRecDepth 20000 in
set_option maxHeartbeats 1000000 in
theorem oftrace_at (t : Nat) (w : World) (ht : (t : Int) ≤ 18446744073709551615) :
    Calls Try.prog 22 #[.int .u64 (t : Int)] w fun e w' => e = .returned (.int .u64 (tr t)) ∧ Below w.heap.size w w' := by
  have h0 := fun e => TrR.start w t e
  go_enter Try.func22, Try.ntmps22
  go_wp2
  go_loopw [5] (fun i wr => ∃ (k : Nat), i = .int .i64 (k : Int) ∧ k ≤ 8 ∧ TrR w t k wr) (fun i _ => 8 - (intOf i).toNat)
  case atStart => exact ⟨0, rfl, by omega, h0 _⟩
  case round =>
    obtain ⟨k, rfl, hk, hrel⟩ := hrel
    clear h0
    by_cases h : k < 8
    · have R := hrel.step h
      rw [tbk_int] at R
      have hc := hrel.cell k h
      have hf := hrel.frz k h
      go_wp2
      go_roundw
      case rel => exact ⟨k + 1, by go_num, by omega, R⟩
      case measure => simp [intOf]; omega
    · have hkl : k = 8 := by omega
      subst hkl
      have E := hrel.fin
      have hh := hash_at _ 8 8 _ _ wr E (tb_len t 8) (by omega) rfl
      have hB := hrel.bel
      clear hrel E
      go_wp2_with fail
      refine hh.mono ?_
      rintro e w' ⟨rfl, rfl⟩
      go_wp2
      go_ret
      exact ⟨rfl, hB⟩

set_option maxRecDepth 20000 in
set_option maxHeartbeats 1000000 in
theorem part_at (t : Nat) (n : Int) (r : Int) (w : World) (ht : (t : Int) ≤ 18446744073709551615) (hn : n ≤ 9223372036854775807) (hr : part t n = r) :
    Calls Try.prog 11 #[.int .u64 (t : Int), .int .i64 n] w fun e w' => e = .returned (.int .i64 r) ∧ Below w.heap.size w w' := by
  have hT := fun W => oftrace_at t W ht
  have hin := tr_in t
  unfold part at hr
  generalize tr t = x at *
  obtain ⟨x0, x1⟩ := hin
  by_cases h1 : n < 1
  · rw [if_pos h1] at hr
    subst hr
    clear hT
    go_enter Try.func11, Try.ntmps11
    go_wp2
    go_ret
    exact ⟨rfl, Below.refl _ _⟩
  · rw [if_neg h1] at hr
    have hE := Lib.hid hr
    have m0 := Int.emod_nonneg x (b := n) (by omega)
    have m1 := Int.emod_lt_of_pos x (b := n) (by omega)
    have n0 : 0 ≤ n := by omega
    have n2 : n ≠ 0 := by omega
    clear hr
    go_enter Try.func11, Try.ntmps11
    go_wp2_with fail
    refine (hT _).mono ?_
    rintro e w' ⟨rfl, hb⟩
    go_wp2
    go_ret
    refine ⟨ret_int ?_, hb⟩
    rw [← hE.out]
theorem share_at (t : Nat) (n : Int) (b : Bool) (w : World) (ht : (t : Int) ≤ 18446744073709551615) (hr : decide (tr t % 1000 < n) = b) :
    Calls Try.prog 13 #[.int .u64 (t : Int), .int .i64 n] w fun e w' => e = .returned (.bool b) ∧ Below w.heap.size w w' := by
  have hT := fun W => oftrace_at t W ht
  have hin := tr_in t
  generalize tr t = x at *
  obtain ⟨x0, x1⟩ := hin
  have m0 := Int.emod_nonneg x (b := 1000) (by omega)
  have m1 := Int.emod_lt_of_pos x (b := 1000) (by omega)
  have hE := Lib.hid hr
  clear hr
  go_enter Try.func13, Try.ntmps13
  go_wp2_with fail
  refine (hT _).mono ?_
  rintro e w' ⟨rfl, hb⟩
  go_wp2
  go_ret
  refine ⟨ret_bool ?_, hb⟩
  rw [← hE.out]
end Go.Proofs.Ytjbnoioildbahaa.D09
