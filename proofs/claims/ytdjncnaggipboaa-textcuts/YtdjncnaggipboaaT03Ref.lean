/-
  The document's answer by definition (tallyroomref03): Right, Count, Cut, Clean, Key.
-/
import Derived.Test.YtdjncnaggipboaaT03Rune
namespace Go.Proofs.Ytdjncnaggipboaa.T03
open Go.RowKit Go.Lib

theorem rune_q (s : ByteArray) (pos r d : Nat) (q : Bool) (w : World) (hp : pos < s.size) (hs : s.size ≤ 65536) (hdl : decodeL ((ls s).drop pos) = (r, d)) (hq : (!(r == 65533 && d == 1)) = q) :
    Calls Try.prog 20 #[.string (s.extract pos s.size)] w fun e w' => e = .returned (.tuple #[.int .i64 (r : Nat), .int .i64 (d : Nat), .bool q]) ∧ w' = w := by
  subst hq
  exact rune_at s pos r d w hp hs hdl

set_option maxRecDepth 20000 in
set_option maxHeartbeats 1000000 in
theorem refright_any (s : ByteArray) (w : World) (hs : s.size ≤ 65536) :
    Calls Try.prog 9 #[.string s] w fun e w' => e = .returned (.bool (right (ls s))) ∧ w' = w := by
  go_enter Try.func9, Try.ntmps9
  go_wp2
  go_loop [3] (fun i => ∃ pos : Nat, i = .int .i64 (pos : Nat) ∧ pos ≤ s.size ∧ RightRel s pos) (fun i => s.size - (RowKit.intOf i).toNat)
  case atStart =>
    refine ⟨0, rfl, Nat.zero_le _, ?_⟩
    unfold RightRel
    simp
  case round =>
    obtain ⟨pos, rfl, hps, hrel⟩ := hrel
    by_cases hp : pos < s.size
    · obtain ⟨r, d, hdec, hdl, hd1, hd2, hr, hdd⟩ := at_pos s pos hp
      obtain ⟨q, hq⟩ : ∃ q, (!(r == 65533 && d == 1)) = q := ⟨_, rfl⟩
      have c1 := rune_q s pos r d q w hp hs hdl hq
      have hst := right_step _ (ls_drop_ne s pos hp)
      rw [hdl] at hst
      simp only [hdd] at hst
      unfold RightRel at hrel
      rw [hrel, hq] at hst
      have HS := Lib.hid hst
      clear hdec hdl hdd hst hrel hq
      have hp0 : (0 : Int) ≤ (pos : Int) := by omega
      have hp1 : (pos : Int) ≤ (s.size : Int) := by omega
      have hw1 : IntKind.wrap .i64 ((pos : Int) + (d : Int)) = (pos : Int) + (d : Int) := wrap_small _ (by omega) (by omega)
      cases q with
      | true =>
        go_wp2_with (go_at_call 20; refine c1.mono ?_; rintro e w' ⟨rfl, rfl⟩)
        go_round
        case rel =>
          refine ⟨pos + d, by go_num, hd2, ?_⟩
          unfold RightRel
          rw [un HS, Bool.true_and]
        case measure =>
          simp [RowKit.intOf]
          omega
      | false =>
        go_wp2_with (go_at_call 20; refine c1.mono ?_; rintro e w' ⟨rfl, rfl⟩)
        go_ret
        rw [un HS]
        exact ⟨rfl, rfl⟩
    · have HR := Lib.hid hrel
      clear hrel
      go_wp2
      go_ret
      have h2 := un HR
      unfold RightRel at h2
      rw [List.drop_of_length_le (by rw [ls_len]; omega), right_nil] at h2
      rw [← h2]
      exact ⟨rfl, rfl⟩

set_option maxRecDepth 20000 in
set_option maxHeartbeats 1000000 in
theorem refcount_any (s : ByteArray) (w : World) (hs : s.size ≤ 65536) :
    Calls Try.prog 11 #[.string s] w fun e w' => e = .returned (.int .i64 (count (ls s) : Nat)) ∧ w' = w := by
  go_enter Try.func11, Try.ntmps11
  go_wp2
  go_loop [3, 4] (fun v i => ∃ k pos : Nat, v = .int .i64 (k : Nat) ∧ i = .int .i64 (pos : Nat) ∧ k ≤ pos ∧ pos ≤ s.size ∧ CountRel s pos k) (fun _ i => s.size - (RowKit.intOf i).toNat)
  case atStart =>
    refine ⟨0, 0, rfl, rfl, Nat.le_refl _, Nat.zero_le _, ?_⟩
    unfold CountRel
    simp
  case round =>
    obtain ⟨k, pos, rfl, rfl, hk, hps, hrel⟩ := hrel
    by_cases hp : pos < s.size
    · obtain ⟨r, d, hdec, hdl, hd1, hd2, hr, hdd⟩ := at_pos s pos hp
      obtain ⟨q, hq⟩ : ∃ q, (!(r == 65533 && d == 1)) = q := ⟨_, rfl⟩
      have c1 := rune_q s pos r d q w hp hs hdl hq
      have hst := count_step _ (ls_drop_ne s pos hp)
      rw [hdl] at hst
      simp only [hdd] at hst
      unfold CountRel at hrel
      have hnew : k + 1 + count ((ls s).drop (pos + d)) = count (ls s) := by omega
      have HS := Lib.hid hnew
      clear hdec hdl hdd hst hrel hq hnew
      have hp0 : (0 : Int) ≤ (pos : Int) := by omega
      have hp1 : (pos : Int) ≤ (s.size : Int) := by omega
      have hw1 : IntKind.wrap .i64 ((pos : Int) + (d : Int)) = (pos : Int) + (d : Int) := wrap_small _ (by omega) (by omega)
      have hw2 : IntKind.wrap .i64 ((k : Int) + 1) = (k : Int) + 1 := wrap_small _ (by omega) (by omega)
      go_wp2_with (go_at_call 20; refine c1.mono ?_; rintro e w' ⟨rfl, rfl⟩)
      go_round
      case rel =>
        refine ⟨k + 1, pos + d, by go_num, by go_num, by omega, hd2, ?_⟩
        exact un HS
      case measure =>
        simp [RowKit.intOf]
        omega
    · have HR := Lib.hid hrel
      clear hrel
      go_wp2
      go_ret
      have h2 := un HR
      unfold CountRel at h2
      rw [List.drop_of_length_le (by rw [ls_len]; omega), count_nil] at h2
      have h3 : k = count (ls s) := by omega
      rw [h3]
      exact ⟨rfl, rfl⟩

def RefCutRel (s : ByteArray) (n : Int) (pos : Nat) : Prop := pos + cutN (ps ((ls s).drop pos)) (n - pos) = cutN (ps (ls s)) n

set_option maxRecDepth 20000 in
set_option maxHeartbeats 1000000 in
theorem refcut_any (s : ByteArray) (n : Int) (w : World) (hs : s.size ≤ 65536) :
    Calls Try.prog 17 #[.string s, .int .i64 n] w fun e w' => e = .returned (.string (str (cut (ls s) n))) ∧ w' = w := by
  go_enter Try.func17, Try.ntmps17
  go_wp2
  go_loop [5] (fun i => ∃ pos : Nat, i = .int .i64 (pos : Nat) ∧ pos ≤ s.size ∧ RefCutRel s n pos) (fun i => s.size - (RowKit.intOf i).toNat)
  case atStart =>
    refine ⟨0, rfl, Nat.zero_le _, ?_⟩
    unfold RefCutRel
    simp
  case round =>
    obtain ⟨pos, rfl, hps, hrel⟩ := hrel
    by_cases hp : pos < s.size
    · obtain ⟨r, d, hdec, hdl, hd1, hd2, hr, hdd⟩ := at_pos s pos hp
      obtain ⟨q, hq⟩ : ∃ q, (!(r == 65533 && d == 1)) = q := ⟨_, rfl⟩
      have c1 := rune_q s pos r d q w hp hs hdl hq
      have hst := cutN_step _ (ls_drop_ne s pos hp) (n - pos)
      rw [hdl] at hst
      simp only [hdd] at hst
      unfold RefCutRel at hrel
      have hp0 : (0 : Int) ≤ (pos : Int) := by omega
      have hp1 : (pos : Int) ≤ (s.size : Int) := by omega
      have hw1 : IntKind.wrap .i64 ((pos : Int) + (d : Int)) = (pos : Int) + (d : Int) := wrap_small _ (by omega) (by omega)
      by_cases hg : n < (pos : Int) + (d : Int)
      · rw [if_neg (by omega)] at hst
        have hC : pos = cutN (ps (ls s)) n := by omega
        have HC := Lib.hid hC
        clear hdec hdl hdd hst hrel hq hC
        go_wp2_with (go_at_call 20; refine c1.mono ?_; rintro e w' ⟨rfl, rfl⟩)
        go_ret
        rw [ext_str]
        unfold cut
        rw [← un HC]
        exact ⟨rfl, rfl⟩
      · rw [if_pos (by omega)] at hst
        have hnew : RefCutRel s n (pos + d) := by
          unfold RefCutRel
          have e : n - ((pos + d : Nat) : Int) = n - pos - d := by omega
          rw [e]
          omega
        have HS := Lib.hid hnew
        clear hdec hdl hdd hst hrel hq hnew
        go_wp2_with (go_at_call 20; refine c1.mono ?_; rintro e w' ⟨rfl, rfl⟩)
        go_round
        case rel => exact ⟨pos + d, by go_num, hd2, un HS⟩
        case measure =>
          simp [RowKit.intOf]
          omega
    · have HR := Lib.hid hrel
      clear hrel
      go_wp2
      go_ret
      have h2 := un HR
      unfold RefCutRel at h2
      rw [List.drop_of_length_le (by rw [ls_len]; omega), ps_nil] at h2
      have h3 : cutN (ps (ls s)) n = s.size := by
        rw [← h2]
        show pos + 0 = s.size
        omega
      have h4 : cut (ls s) n = ls s := by
        unfold cut
        rw [h3, ← ls_len, List.take_length]
      rw [h4, str_ls]
      exact ⟨rfl, rfl⟩
end Go.Proofs.Ytdjncnaggipboaa.T03
