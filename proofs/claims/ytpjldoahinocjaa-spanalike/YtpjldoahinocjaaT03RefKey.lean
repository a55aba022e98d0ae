/-
  The document's answer by definition (tallyroomref03): Key.
-/
import Derived.Test.YtpjldoahinocjaaT03Ref2
namespace Go.Proofs.Ytpjldoahinocjaa.T03
open Go.RowKit Go.Lib

theorem drop_bt (s : ByteArray) (k : Nat) (h : k < s.size) : (ls s).drop k = (s[k]'h) :: (ls s).drop (k + 1) := by
  rw [List.drop_eq_getElem_cons (by rw [ls_len]; exact h)]
  rfl
theorem key_byte (s : ByteArray) (k : Nat) (h : k < s.size) (hrel : KeyRel s k) : keyAll true (ls s) = ((firstB (bt s k) || (!(k == 0) && otherB (bt s k))) && keyAll (k + 1 == 0) ((ls s).drop (k + 1))) := by
  unfold KeyRel at hrel
  rw [← hrel, drop_bt s k h, keyAll, bt_eq s k h]
  rfl

set_option maxRecDepth 20000 in
set_option maxHeartbeats 4000000 in
theorem refkey_any (s : ByteArray) (w : World) (hs : s.size ≤ 65536) :
    Calls Try.prog 25 #[.string s] w fun e w' => e = .returned (.bool (key (ls s))) ∧ w' = w := by
  go_enter Try.func25, Try.ntmps25
  go_wp2
  go_loop [3] (fun i => ∃ k : Nat, i = .int .i64 (k : Nat) ∧ k ≤ s.size ∧ KeyRel s k) (fun i => s.size - (RowKit.intOf i).toNat)
  case atStart => exact ⟨0, rfl, Nat.zero_le _, rfl⟩
  case round =>
    obtain ⟨k, rfl, hk, hrel⟩ := hrel
    by_cases hp : k < s.size
    · obtain ⟨c, hc⟩ : ∃ c, bt s k = c := ⟨_, rfl⟩
      obtain ⟨C, hC⟩ : ∃ C : Int, (c : Int) = C := ⟨_, rfl⟩
      have hcc : ((s[k]'hp).toNat : Int) = C := by rw [bt_eq, hc, hC]
      have hkb := key_byte s k hp hrel
      rw [hc] at hkb
      have hC0 : 0 ≤ C := by omega
      have hcont : (firstB c || (!(k == 0) && otherB c)) = true → KeyRel s (k + 1) := by
        intro h
        unfold KeyRel
        rw [hkb, h, Bool.true_and]
      have hstop : (firstB c || (!(k == 0) && otherB c)) = false → key (ls s) = false := by
        intro h
        unfold key
        rw [hkb, h, Bool.false_and, Bool.false_and]
      have Hcont := Lib.hid hcont
      have Hstop := Lib.hid hstop
      have HC := Lib.hid hC
      have hw1 : IntKind.wrap .i64 ((k : Int) + 1) = (k : Int) + 1 := wrap_small _ (by omega) (by omega)
      have hf := first_iff c
      have ho := other_iff c
      by_cases hfc : firstB c = true
      · have hcase := hf.1 hfc
        have hT : ((97 : Int) ≤ C ∧ C ≤ 122) ∨ (¬ ((97 : Int) ≤ C) ∧ (65 : Int) ≤ C ∧ C ≤ 90) ∨ (¬ ((97 : Int) ≤ C) ∧ (65 : Int) ≤ C ∧ ¬ (C ≤ 90) ∧ C = 95) := by omega
        have hgo := hcont (by rw [hfc]; rfl)
        have HG := Lib.hid hgo
        clear hcont hstop hC hkb hf ho hfc hcase hgo Hcont Hstop hc hrel
        rcases hT with ⟨t1, t2⟩ | ⟨t1, t2, t3⟩ | ⟨t1, t2, t3, t4⟩
        · go_wp2
          go_round
          case rel => exact ⟨k + 1, by go_num, by omega, un HG⟩
          case measure =>
            simp [RowKit.intOf]
            omega
        · go_wp2
          go_round
          case rel => exact ⟨k + 1, by go_num, by omega, un HG⟩
          case measure =>
            simp [RowKit.intOf]
            omega
        · have t5 : (C == 95) = true := by simp [t4]
          clear t4
          go_wp2
          go_round
          case rel => exact ⟨k + 1, by go_num, by omega, un HG⟩
          case measure =>
            simp [RowKit.intOf]
            omega
      · have hff : firstB c = false := Bool.eq_false_iff.2 hfc
        have hno : ¬ ((97 ≤ c ∧ c ≤ 122) ∨ (65 ≤ c ∧ c ≤ 90) ∨ c = 95) := fun h => hfc (hf.2 h)
        have t95 : (C == 95) = false := beq_false_of_ne (by omega)
        have hT : ((97 : Int) ≤ C ∧ ¬ (C ≤ 122) ∧ (65 : Int) ≤ C ∧ ¬ (C ≤ 90)) ∨ (¬ ((97 : Int) ≤ C) ∧ (65 : Int) ≤ C ∧ ¬ (C ≤ 90)) ∨ (¬ ((97 : Int) ≤ C) ∧ ¬ ((65 : Int) ≤ C)) := by omega
        by_cases hz : k = 0
        · have ez : ((k : Int) == 0) = true := by simp [hz]
          have hgo := hstop (by rw [hff, hz]; rfl)
          have HG := Lib.hid hgo
          clear hcont hstop hC hkb hf ho hfc hgo hff hno Hcont Hstop hc hrel hz
          rcases hT with ⟨t1, t2, t3, t4⟩ | ⟨t1, t2, t3⟩ | ⟨t1, t2⟩
          all_goals
            go_wp2
            go_ret
            rw [un HG]
            exact ⟨rfl, rfl⟩
        · have ez : ((k : Int) == 0) = false := beq_false_of_ne (by omega)
          have ezn : (k == 0) = false := beq_false_of_ne hz
          by_cases hoc : otherB c = true
          · have hcase := ho.1 hoc
            have hU : ((48 : Int) ≤ C ∧ C ≤ 57) ∨ (¬ ((48 : Int) ≤ C) ∧ C = 46) := by omega
            have k1 : ¬ ((97 : Int) ≤ C) := by omega
            have k2 : ¬ ((65 : Int) ≤ C) := by omega
            have hgo := hcont (by rw [hff, ezn, hoc]; rfl)
            have HG := Lib.hid hgo
            clear hcont hstop hC hkb hf ho hfc hgo hff hno Hcont Hstop hc hrel hz hcase hoc hT ezn
            rcases hU with ⟨t1, t2⟩ | ⟨t1, t2⟩
            · go_wp2
              go_round
              case rel => exact ⟨k + 1, by go_num, by omega, un HG⟩
              case measure =>
                simp [RowKit.intOf]
                omega
            · have t5 : (C == 46) = true := by simp [t2]
              clear t2
              go_wp2
              go_round
              case rel => exact ⟨k + 1, by go_num, by omega, un HG⟩
              case measure =>
                simp [RowKit.intOf]
                omega
          · have hof : otherB c = false := Bool.eq_false_iff.2 hoc
            have hno2 : ¬ ((48 ≤ c ∧ c ≤ 57) ∨ c = 46) := fun h => hoc (ho.2 h)
            have t46 : (C == 46) = false := beq_false_of_ne (by omega)
            have hU : ((97 : Int) ≤ C ∧ ¬ (C ≤ 122) ∧ (65 : Int) ≤ C ∧ ¬ (C ≤ 90) ∧ (48 : Int) ≤ C ∧ ¬ (C ≤ 57)) ∨ (¬ ((97 : Int) ≤ C) ∧ (65 : Int) ≤ C ∧ ¬ (C ≤ 90) ∧ (48 : Int) ≤ C ∧ ¬ (C ≤ 57)) ∨ (¬ ((97 : Int) ≤ C) ∧ ¬ ((65 : Int) ≤ C) ∧ (48 : Int) ≤ C ∧ ¬ (C ≤ 57)) ∨ (¬ ((97 : Int) ≤ C) ∧ ¬ ((65 : Int) ≤ C) ∧ ¬ ((48 : Int) ≤ C)) := by omega
            have hgo := hstop (by rw [hff, ezn, hof]; rfl)
            have HG := Lib.hid hgo
            clear hcont hstop hC hkb hf ho hfc hgo hff hno Hcont Hstop hc hrel hz hoc hof hno2 hT ezn
            rcases hU with ⟨t1, t2, t3, t4, t5, t6⟩ | ⟨t1, t2, t3, t4, t5⟩ | ⟨t1, t2, t3, t4⟩ | ⟨t1, t2, t3⟩
            all_goals
              go_wp2
              go_ret
              rw [un HG]
              exact ⟨rfl, rfl⟩
    · have h2 := hrel
      unfold KeyRel at h2
      rw [List.drop_of_length_le (by rw [ls_len]; omega)] at h2
      have h3 : key (ls s) = (decide (1 ≤ s.size) && decide (s.size ≤ 64)) := by
        unfold key
        rw [← h2, ls_len]
        rfl
      have H3 := Lib.hid h3
      clear hrel h2 h3
      by_cases h1 : (1 : Int) ≤ (s.size : Int)
      · by_cases h64 : (s.size : Int) ≤ 64
        · go_wp2
          go_ret
          rw [un H3, decide_eq_true (by omega : 1 ≤ s.size), decide_eq_true (by omega : s.size ≤ 64)]
          exact ⟨rfl, rfl⟩
        · go_wp2
          go_ret
          rw [un H3, decide_eq_true (by omega : 1 ≤ s.size), decide_eq_false (by omega : ¬ s.size ≤ 64)]
          exact ⟨rfl, rfl⟩
      · go_wp2
        go_ret
        rw [un H3, decide_eq_false (by omega : ¬ 1 ≤ s.size)]
        exact ⟨rfl, rfl⟩
end Go.Proofs.Ytpjldoahinocjaa.T03
