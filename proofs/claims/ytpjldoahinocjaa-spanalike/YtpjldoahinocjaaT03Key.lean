/-
  The walks over package text: plain, first, other, Key.
-/
import Derived.Test.YtpjldoahinocjaaT03Walk
namespace Go.Proofs.Ytpjldoahinocjaa.T03
open Go.RowKit Go.Lib

theorem ret_bool {a b : Bool} {w : World} (h : a = true ↔ b = true) : Ending.returned (.bool a) = Ending.returned (.bool b) ∧ w = w := by
  rw [Bool.eq_iff_iff.2 h]
  exact ⟨rfl, rfl⟩
theorem plain_iff (r : Nat) : plainB r = true ↔ ¬ (r < 32 ∨ (127 ≤ r ∧ r ≤ 159) ∨ r = 8232 ∨ r = 8233 ∨ r = 65533) := by
  unfold plainB
  simp
  omega
theorem first_iff (r : Nat) : firstB r = true ↔ (97 ≤ r ∧ r ≤ 122) ∨ (65 ≤ r ∧ r ≤ 90) ∨ r = 95 := by
  unfold firstB
  simp
  omega
theorem other_iff (r : Nat) : otherB r = true ↔ (48 ≤ r ∧ r ≤ 57) ∨ r = 46 := by
  unfold otherB
  simp

set_option maxRecDepth 20000 in
set_option maxHeartbeats 1000000 in
theorem plain_any (r : Nat) (w : World) : Calls Try.prog 65 #[.int .i32 (r : Nat)] w fun e w' => e = .returned (.bool (plainB r)) ∧ w' = w := by
  by_cases h1 : r < 32
  · have e : plainB r = false := by rw [Bool.eq_false_iff, ne_eq, plain_iff]; omega
    rw [e]
    have k1 : (r : Int) < 32 := by omega
    go_enter Try.func65, Try.ntmps65
    go_wp2
    go_ret
    exact ⟨rfl, rfl⟩
  · have k1 : ¬ ((r : Int) < 32) := by omega
    by_cases h2 : 127 ≤ r ∧ r ≤ 159
    · have e : plainB r = false := by rw [Bool.eq_false_iff, ne_eq, plain_iff]; omega
      rw [e]
      have k2 : (127 : Int) ≤ (r : Int) := by omega
      have k3 : (r : Int) ≤ 159 := by omega
      clear h2
      go_enter Try.func65, Try.ntmps65
      go_wp2
      go_ret
      exact ⟨rfl, rfl⟩
    · have k2 : ¬ ((127 : Int) ≤ (r : Int)) ∨ ((127 : Int) ≤ (r : Int) ∧ ¬ ((r : Int) ≤ 159)) := by omega
      by_cases h3 : r = 8232 ∨ r = 8233 ∨ r = 65533
      · have e : plainB r = false := by rw [Bool.eq_false_iff, ne_eq, plain_iff]; omega
        rw [e]
        clear h1 k1 h2 k2 e
        rcases h3 with rfl | rfl | rfl <;> go_enter Try.func65, Try.ntmps65 <;> go_wp2 <;> go_ret <;> exact ⟨rfl, rfl⟩
      · have e : plainB r = true := by rw [plain_iff]; omega
        rw [e]
        have k4 : ((r : Int) == 8232) = false := beq_false_of_ne (by omega)
        have k5 : ((r : Int) == 8233) = false := beq_false_of_ne (by omega)
        have k6 : ((r : Int) == 65533) = false := beq_false_of_ne (by omega)
        clear h2 h3 e
        rcases k2 with k2 | ⟨k2, k3⟩ <;> go_enter Try.func65, Try.ntmps65 <;> go_wp2 <;> go_ret <;> exact ⟨rfl, rfl⟩

set_option maxRecDepth 20000 in
set_option maxHeartbeats 1000000 in
theorem first_any (r : Nat) (w : World) : Calls Try.prog 52 #[.int .i32 (r : Nat)] w fun e w' => e = .returned (.bool (firstB r)) ∧ w' = w := by
  go_enter Try.func52, Try.ntmps52
  go_wp2
  all_goals go_ret
  all_goals refine ret_bool ?_
  all_goals rw [first_iff]
  all_goals simp
  all_goals omega
set_option maxRecDepth 20000 in
set_option maxHeartbeats 1000000 in
theorem other_any (r : Nat) (w : World) : Calls Try.prog 53 #[.int .i32 (r : Nat)] w fun e w' => e = .returned (.bool (otherB r)) ∧ w' = w := by
  go_enter Try.func53, Try.ntmps53
  go_wp2
  all_goals go_ret
  all_goals refine ret_bool ?_
  all_goals rw [other_iff]
  all_goals simp
  all_goals omega
theorem first_at (r : Nat) (b : Bool) (hb : firstB r = b) (w : World) : Calls Try.prog 52 #[.int .i32 (r : Nat)] w fun e w' => e = .returned (.bool b) ∧ w' = w := hb ▸ first_any r w
theorem other_at (r : Nat) (b : Bool) (hb : otherB r = b) (w : World) : Calls Try.prog 53 #[.int .i32 (r : Nat)] w fun e w' => e = .returned (.bool b) ∧ w' = w := hb ▸ other_any r w

def KeyRel (s : ByteArray) (pos : Nat) : Prop := keyAll (pos == 0) ((ls s).drop pos) = keyAll true (ls s)

set_option maxRecDepth 20000 in
set_option maxHeartbeats 2000000 in
theorem key_any (s : ByteArray) (w : World) :
    Calls Try.prog 36 #[.string s] w fun e w' => e = .returned (.bool (key (ls s))) ∧ Below w.heap.size w w' := by
  by_cases hlo : s.size < 1
  · have e : key (ls s) = false := by
      unfold key
      rw [ls_len]
      simp; omega
    rw [e]
    have k : (s.size : Int) < 1 := by omega
    go_enter Try.func36, Try.ntmps36
    go_wp2
    go_ret
    exact ⟨rfl, Below.refl _ _⟩
  have klo : ¬ ((s.size : Int) < 1) := by omega
  by_cases hhi : 64 < s.size
  · have e : key (ls s) = false := by
      unfold key
      rw [ls_len]
      simp; omega
    rw [e]
    have k : (64 : Int) < (s.size : Int) := by omega
    go_enter Try.func36, Try.ntmps36
    go_wp2
    go_ret
    exact ⟨rfl, Below.refl _ _⟩
  have khi : ¬ ((64 : Int) < (s.size : Int)) := by omega
  have hkey : key (ls s) = keyAll true (ls s) := by
    unfold key
    rw [ls_len]
    have e : (decide (1 ≤ s.size) && decide (s.size ≤ 64)) = true := by simp; omega
    rw [e, Bool.and_true]
  rw [hkey]
  clear hkey
  go_enter Try.func36, Try.ntmps36
  go_wp2
  go_loopw [] (fun wr => ∃ pos : Nat, wr.heap[w.heap.size]? = some (.stringIter s pos) ∧ Below w.heap.size w wr ∧ pos ≤ s.size ∧ KeyRel s pos) (fun wr => s.size - wr.iterPos w.heap.size)
  case atStart =>
    exact ⟨0, World.iter_heap w s 0, (Below.refl _ w).alloc (Nat.le_refl _) _, Nat.zero_le _, rfl⟩
  case round =>
    obtain ⟨pos, hit, hbw, hps, hrel⟩ := hrel
    by_cases hp : pos < s.size
    · obtain ⟨r, d, hdec, hdl, hd1, hd2, hr, hdd⟩ := at_pos s pos hp
      have hnx := nx_at Try.prog wr w.heap.size s pos r d hit hp hdec
      have hit2 := Lib.iterAt_heap wr w.heap.size s pos (pos + d) hit
      have hbw2 := Lib.below_iterAt hbw (k := w.heap.size) (Nat.le_refl _) s (pos + d)
      have hne := ls_drop_ne s pos hp
      have hst := key_step (pos == 0) _ hne
      rw [hdl] at hst
      simp only [hdd] at hst
      unfold KeyRel at hrel
      rw [hrel] at hst
      have e0 : (pos + d == 0) = false := beq_false_of_ne (by omega)
      have hnew : ∀ b, (firstB r || (!(pos == 0) && otherB r)) = b → keyAll true (ls s) = (b && keyAll (pos + d == 0) ((ls s).drop (pos + d))) := by
        intro b hb
        rw [hst, hb, e0]
      have HN := Lib.hid hnew
      clear hdec hdl hdd hst hrel hne e0 hnew
      obtain ⟨f, hf⟩ : ∃ f, firstB r = f := ⟨_, rfl⟩
      have c1 := first_at r f hf (wr.iterAt w.heap.size s (pos + d))
      cases f with
      | true =>
        have hN := un HN true (by rw [hf]; rfl)
        have HF := Lib.hid hN
        clear HN hf hN
        go_wp2_with (go_at_call 52; refine c1.mono ?_; rintro e w' ⟨rfl, rfl⟩)
        go_roundw
        case rel =>
          refine ⟨pos + d, hit2, hbw2, hd2, ?_⟩
          unfold KeyRel
          rw [un HF, Bool.true_and]
        case measure =>
          simp only [World.iterPos, hit2, hit]
          omega
      | false =>
        by_cases hz : pos = 0
        · have ez' : ((pos : Int) == 0) = true := by simp [hz]
          have hN := un HN false (by rw [hf, hz]; rfl)
          have HF := Lib.hid hN
          clear HN hf hN hz
          go_wp2_with (go_at_call 52; refine c1.mono ?_; rintro e w' ⟨rfl, rfl⟩)
          go_ret
          rw [un HF]
          exact ⟨rfl, hbw2⟩
        · have ez : (pos == 0) = false := beq_false_of_ne hz
          have ez' : ((pos : Int) == 0) = false := beq_false_of_ne (by omega)
          obtain ⟨o, ho⟩ : ∃ o, otherB r = o := ⟨_, rfl⟩
          have c2 := other_at r o ho (wr.iterAt w.heap.size s (pos + d))
          have hN := un HN o (by rw [hf, ho, ez]; rfl)
          have HF := Lib.hid hN
          clear HN hf hN ho ez
          cases o with
          | true =>
            go_wp2_with first
              | (go_at_call 52; refine c1.mono ?_; rintro e w' ⟨rfl, rfl⟩)
              | (go_at_call 53; refine c2.mono ?_; rintro e w' ⟨rfl, rfl⟩)
            go_roundw
            case rel =>
              refine ⟨pos + d, hit2, hbw2, hd2, ?_⟩
              unfold KeyRel
              rw [un HF, Bool.true_and]
            case measure =>
              simp only [World.iterPos, hit2, hit]
              omega
          | false =>
            go_wp2_with first
              | (go_at_call 52; refine c1.mono ?_; rintro e w' ⟨rfl, rfl⟩)
              | (go_at_call 53; refine c2.mono ?_; rintro e w' ⟨rfl, rfl⟩)
            go_ret
            rw [un HF]
            exact ⟨rfl, hbw2⟩
    · have hnx : ∀ ty, (Instr.next (.pointer (some ⟨w.heap.size, 0, none⟩)) true ty).run Try.prog wr = _ := fun ty => Lib.run_next_end_at (P := Try.prog) wr w.heap.size s pos ty hit hp
      have HR := Lib.hid hrel
      clear hrel
      go_wp2
      go_ret
      have h2 := un HR
      unfold KeyRel at h2
      rw [List.drop_of_length_le (by rw [ls_len]; omega)] at h2
      rw [← h2]
      exact ⟨rfl, hbw⟩
end Go.Proofs.Ytpjldoahinocjaa.T03
