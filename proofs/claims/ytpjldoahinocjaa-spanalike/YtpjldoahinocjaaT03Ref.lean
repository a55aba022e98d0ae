/-
  The document's answer by definition (tallyroomref03): Right, Count, Cut, Clean, Key.
-/
import Derived.Test.YtpjldoahinocjaaT03Rune
namespace Go.Proofs.Ytpjldoahinocjaa.T03
open Go.RowKit Go.Lib

theorem rune_q (s : ByteArray) (pos r d : Nat) (q : Bool) (w : World) (hp : pos < s.size) (hs : s.size ≤ 65536) (hdl : decodeL ((ls s).drop pos) = (r, d)) (hq : (!(r == 65533 && d == 1)) = q) :
    Calls Try.prog 58 #[.string (s.extract pos s.size)] w fun e w' => e = .returned (.tuple #[.int .i64 (r : Nat), .int .i64 (d : Nat), .bool q]) ∧ w' = w := by
  subst hq
  exact rune_at s pos r d w hp hs hdl

def RefCutRel (s : ByteArray) (n : Int) (pos : Nat) : Prop := pos + cutN (ps ((ls s).drop pos)) (n - pos) = cutN (ps (ls s)) n

set_option maxRecDepth 20000 in
set_option maxHeartbeats 1000000 in
theorem refcut_any (s : ByteArray) (n : Int) (w : World) (hs : s.size ≤ 65536) :
    Calls Try.prog 44 #[.string s, .int .i64 n] w fun e w' => e = .returned (.string (str (cut (ls s) n))) ∧ w' = w := by
  go_enter Try.func44, Try.ntmps44
  go_wp2
  go_loop [5] (fun i => ∃ pos : Nat, i = .int .i64 (pos : Nat) ∧ pos ≤ s.size ∧ RefCutRel s n pos) (fun i => s.size - (RowKit.intOf i).toNat)
  case atStart =>
    refine ⟨0, rfl, Nat.zero_le _, ?_⟩
    unfold RefCutRel
    simp
  case round =>
    obtain ⟨pos, rfl, hps, hrel⟩ := hrel
    by_cases hp : pos < s.size
    · obtain ⟨r, d, hdec, hdl, hd1, hd2, hr, hdd⟩ := at_pos s pos hp
      obtain ⟨q, hq⟩ : ∃ q, (!(r == 65533 && d == 1)) = q := ⟨_, rfl⟩
      have c1 := rune_q s pos r d q w hp hs hdl hq
      have hst := cutN_step _ (ls_drop_ne s pos hp) (n - pos)
      rw [hdl] at hst
      simp only [hdd] at hst
      unfold RefCutRel at hrel
      have hp0 : (0 : Int) ≤ (pos : Int) := by omega
      have hp1 : (pos : Int) ≤ (s.size : Int) := by omega
      have hw1 : IntKind.wrap .i64 ((pos : Int) + (d : Int)) = (pos : Int) + (d : Int) := wrap_small _ (by omega) (by omega)
      by_cases hg : n < (pos : Int) + (d : Int)
      · rw [if_neg (by omega)] at hst
        have hC : pos = cutN (ps (ls s)) n := by omega
        have HC := Lib.hid hC
        clear hdec hdl hdd hst hrel hq hC
        go_wp2_with (go_at_call 58; refine c1.mono ?_; rintro e w' ⟨rfl, rfl⟩)
        go_ret
        rw [ext_str]
        unfold cut
        rw [← un HC]
        exact ⟨rfl, rfl⟩
      · rw [if_pos (by omega)] at hst
        have hnew : RefCutRel s n (pos + d) := by
          unfold RefCutRel
          have e : n - ((pos + d : Nat) : Int) = n - pos - d := by omega
          rw [e]
          omega
        have HS := Lib.hid hnew
        clear hdec hdl hdd hst hrel hq hnew
        go_wp2_with (go_at_call 58; refine c1.mono ?_; rintro e w' ⟨rfl, rfl⟩)
        go_round
        case rel => exact ⟨pos + d, by go_num, hd2, un HS⟩
        case measure =>
          simp [RowKit.intOf]
          omega
    · have HR := Lib.hid hrel
      clear hrel
      go_wp2
      go_ret
      have h2 := un HR
      unfold RefCutRel at h2
      rw [List.drop_of_length_le (by rw [ls_len]; omega), ps_nil] at h2
      have h3 : cutN (ps (ls s)) n = s.size := by
        rw [← h2]
        show pos + 0 = s.size
        omega
      have h4 : cut (ls s) n = ls s := by
        unfold cut
        rw [h3, ← ls_len, List.take_length]
      rw [h4, str_ls]
      exact ⟨rfl, rfl⟩
end Go.Proofs.Ytpjldoahinocjaa.T03
