/-
  The document's answer by definition (tallyroomref03): Clean, Key.
-/
import Derived.Test.YtpjldoahinocjaaT03Ref
namespace Go.Proofs.Ytpjldoahinocjaa.T03
open Go.RowKit Go.Lib

theorem str_app (a b : List UInt8) : str a ++ str b = str (a ++ b) := by
  apply ByteArray.ext
  simp
theorem ext_mid (s : ByteArray) (pos d : Nat) : s.extract pos (pos + d) = str (((ls s).drop pos).take d) := by
  rw [Lib.extract_eq]
  have : pos + d - pos = d := by omega
  rw [this]

set_option maxRecDepth 20000 in
set_option maxHeartbeats 2000000 in
theorem refclean_any (s : ByteArray) (w : World) (hs : s.size ≤ 65536) :
    Calls Try.prog 45 #[.string s] w fun e w' => e = .returned (.string (str (clean (ls s)))) ∧ w' = w := by
  go_enter Try.func45, Try.ntmps45
  go_wp2
  go_loop [3, 4] (fun v i => ∃ (pos : Nat) (acc : List UInt8), v = .string (str acc) ∧ i = .int .i64 (pos : Nat) ∧ pos ≤ s.size ∧ CleanRel s pos acc) (fun _ i => s.size - (RowKit.intOf i).toNat)
  case atStart =>
    refine ⟨0, [], rfl, rfl, Nat.zero_le _, ?_⟩
    unfold CleanRel
    simp
  case round =>
    obtain ⟨pos, acc, rfl, rfl, hps, hrel⟩ := hrel
    by_cases hp : pos < s.size
    · obtain ⟨r, d, hdec, hdl, hd1, hd2, hr, hdd⟩ := at_pos s pos hp
      obtain ⟨q, hq⟩ : ∃ q, (!(r == 65533 && d == 1)) = q := ⟨_, rfl⟩
      have c1 := rune_q s pos r d q w hp hs hdl hq
      have hst := clean_step _ (ls_drop_ne s pos hp)
      rw [hdl] at hst
      simp only [hdd] at hst
      unfold CleanRel at hrel
      rw [hst] at hrel
      have HR := Lib.hid hrel
      clear hdec hdl hdd hst hrel hq
      have hp0 : (0 : Int) ≤ (pos : Int) := by omega
      have hp1 : (pos : Int) ≤ (s.size : Int) := by omega
      have hw1 : IntKind.wrap .i64 ((pos : Int) + (d : Int)) = (pos : Int) + (d : Int) := wrap_small _ (by omega) (by omega)
      obtain ⟨A, hA⟩ : ∃ A, str acc = A := ⟨_, rfl⟩
      rw [hA]
      have hAs : A.size ≤ 65536 := by
        have h1 := congrArg List.length (un HR)
        have h2 := clean_le (ls s)
        rw [List.length_append] at h1
        rw [ls_len] at h2
        rw [← hA, str_size]
        omega
      have HA := Lib.hid hA
      clear hA
      obtain ⟨R, hR⟩ : ∃ R : Int, (r : Int) = R := ⟨_, rfl⟩
      simp only [hR] at c1
      have HN := Lib.hid hR
      by_cases hpl : plainB r = true
      · have hno := (plain_iff r).1 hpl
        have HP := Lib.hid hpl
        have k1 : ¬ (R < 32) := by omega
        have k3 : (R == 8232) = false := beq_false_of_ne (by omega)
        have k4 : (R == 8233) = false := beq_false_of_ne (by omega)
        have k5 : (R == 65533) = false := beq_false_of_ne (by omega)
        have k2 : ¬ ((127 : Int) ≤ R) ∨ ((127 : Int) ≤ R ∧ ¬ (R < 160)) := by omega
        clear hpl hR hr hno
        have hp2 : (pos : Int) ≤ (pos : Int) + (d : Int) := by omega
        have hp3 : (pos : Int) + (d : Int) ≤ (s.size : Int) := by omega
        have hp4 : ((pos : Int) + (d : Int)).toNat = pos + d := by omega
        have hp5 : (0 : Int) ≤ (pos : Int) + (d : Int) := by omega
        obtain ⟨X, hX⟩ : ∃ X, s.extract pos (pos + d) = X := ⟨_, rfl⟩
        have hXs : X.size ≤ 65536 := by
          rw [← hX, ext_mid, str_size, List.length_take]
          omega
        have HX := Lib.hid hX
        have hsum : ¬ (9223372036854775807 < A.size + X.size) := by omega
        clear hAs hXs
        rcases k2 with k2 | ⟨k2, k2'⟩
        all_goals
          go_wp2_with (go_at_call 58; refine c1.mono ?_; rintro e w' ⟨rfl, rfl⟩)
          go_round
          case rel =>
            refine ⟨pos + d, acc ++ ((ls s).drop pos).take d, ?_, by go_num, hd2, ?_⟩
            · rw [← str_app, un HA, ← ext_mid, un HX]
            · have h := un HR
              rw [un HP, if_pos rfl] at h
              unfold CleanRel
              rw [List.append_assoc]
              exact h
          case measure =>
            simp [RowKit.intOf]
            omega
      · have hyes : r < 32 ∨ (127 ≤ r ∧ r ≤ 159) ∨ r = 8232 ∨ r = 8233 ∨ r = 65533 := by
          by_cases h : r < 32 ∨ (127 ≤ r ∧ r ≤ 159) ∨ r = 8232 ∨ r = 8233 ∨ r = 65533
          · exact h
          · exact absurd ((plain_iff r).2 h) hpl
        have hpl' : plainB r = false := Bool.eq_false_iff.2 hpl
        have HP := Lib.hid hpl'
        have hcase : (R < 32) ∨ (¬ (R < 32) ∧ (127 : Int) ≤ R ∧ R < 160) ∨ R = 8232 ∨ R = 8233 ∨ R = 65533 := by omega
        have fin : ∀ i, i = Value.int .i64 ((pos : Int) + (d : Int)) → ∃ (pos' : Nat) (acc' : List UInt8), Value.string (A ++ ⟨#[95]⟩) = .string (str acc') ∧ i = .int .i64 (pos' : Nat) ∧ pos' ≤ s.size ∧ CleanRel s pos' acc' := by
          intro i hi
          refine ⟨pos + d, acc ++ [95], ?_, by rw [hi]; go_num, hd2, ?_⟩
          · rw [← str_app, un HA]
          · have h := un HR
            rw [un HP] at h
            unfold CleanRel
            rw [List.append_assoc]
            exact h
        have Hfin := Lib.hid fin
        have hsum : ¬ (9223372036854775807 < A.size + 1) := by omega
        have hsum' : ¬ (9223372036854775807 < A.size + (ByteArray.mk #[95]).size) := hsum
        clear hpl hpl' hR hr hyes fin hAs
        rcases hcase with k1 | ⟨k1, k2, k3⟩ | rfl | rfl | rfl
        all_goals
          go_wp2_with (go_at_call 58; refine c1.mono ?_; rintro e w' ⟨rfl, rfl⟩)
          go_round
          case rel => exact un Hfin _ rfl
          case measure =>
            simp [RowKit.intOf]
            omega
    · have HR := Lib.hid hrel
      clear hrel
      obtain ⟨A, hA⟩ : ∃ A, str acc = A := ⟨_, rfl⟩
      rw [hA]
      have HA := Lib.hid hA
      clear hA
      go_wp2
      go_ret
      have h2 := un HR
      unfold CleanRel at h2
      rw [List.drop_of_length_le (by rw [ls_len]; omega), clean_nil, List.append_nil] at h2
      rw [← h2, un HA]
      exact ⟨rfl, rfl⟩
end Go.Proofs.Ytpjldoahinocjaa.T03
