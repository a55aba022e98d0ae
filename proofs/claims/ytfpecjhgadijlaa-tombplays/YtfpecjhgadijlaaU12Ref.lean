/-
  The document's list: Find, Drop, Put.
-/
import Derived.Test.YtfpecjhgadijlaaU12Its
import Derived.Test.YtfpecjhgadijlaaU12Push
import Derived.Handy
import Derived.BigQuiet
import Derived.Deep.QuietTactic
set_option linter.unusedSimpArgs false
set_option linter.unusedVariables false
namespace Go.Proofs.Ytfpecjhgadijlaa.U12
open Go.RowKit Go.Lib Go.Maps Go.Proofs.Ytfpecjhgadijlaa.Wd

section
variable {w w' : World} {A : Option Addr} {c n : Nat} {m : List It}
theorem its_bounds (h : Its w A c m) (hn : m.length = n) : n ≤ 9223372036854775807 ∧ n ≤ c ∧ c ≤ maxLen := by
  have h1 := h.cap
  have h2 := h.max
  rw [hn] at h1
  refine ⟨?_, h1, h2⟩
  unfold maxLen at h2
  omega
/-- what Find tells -/
def FdOut (m : List It) (x : Nat) (w : World) (e : Ending) (w' : World) : Prop :=
  w = w' ∧ ((∃ (k : Nat) (hk : k < m.length), e = .returned (.int .i64 (k : Int)) ∧ m[k].1 = x) ∨ ((∀ y ∈ m, y.1 ≠ x) ∧ e = .returned (.int .i64 (-1))))
set_option maxRecDepth 20000 in
set_option maxHeartbeats 1000000 in
theorem rfind_at (x : Nat) (h : Its w A c m) (hn : m.length = n) : Calls Try.prog 12 #[.slice A n c, .int .u64 (x : Int)] w (FdOut m x w) := by
  obtain ⟨hmx, hcap, _⟩ := its_bounds h hn
  have HN := Lib.hid hn
  have HI := Lib.hid h
  have I0 := Lib.hid (show ∀ j (hj : j < m.length), j < 0 → m[j].1 ≠ x from fun j hj h => by omega)
  clear hn h
  go_enter Try.func12, Try.ntmps12
  go_wp2
  go_loop [5] (fun i => ∃ k : Nat, i = .int .i64 k ∧ k ≤ n ∧ Hid (∀ j (hj : j < m.length), j < k → m[j].1 ≠ x)) (fun i => n - (intOf i).toNat)
  case atStart => exact ⟨0, rfl, by omega, I0⟩
  case round =>
    clear I0
    obtain ⟨k, rfl, hk, I⟩ := hrel
    by_cases hkn : k < n
    · have hkl : k < m.length := by rw [HN.out]; exact hkn
      obtain ⟨ad, p, rfl, hp, x0, x1⟩ := HI.out.get hkl
      obtain ⟨y, hy⟩ : ∃ y, m[k] = y := ⟨_, rfl⟩
      rw [hy] at x0 x1
      have z0 : (0 : Int) ≤ (k : Int) := by omega
      have z1 : ((k : Int)).toNat = k := by omega
      by_cases he : y.1 = x
      · have F := Lib.hid (show FdOut m x w (.returned (.int .i64 (k : Int))) w from ⟨rfl, .inl ⟨k, hkl, rfl, by rw [hy]; exact he⟩⟩)
        have e2 : (y.1 : Int) = (x : Int) := by omega
        rw [e2] at x0
        clear hy he I e2
        go_wp2
        go_ret
        exact F.out
      · have I2 := Lib.hid (show ∀ j (hj : j < m.length), j < k + 1 → m[j].1 ≠ x from fun j hj h => by
          by_cases e : j = k
          · subst e; rw [hy]; exact he
          · exact I.out j hj (by omega))
        have e2 : ¬ (y.1 : Int) = (x : Int) := by omega
        clear hy he I
        go_wp2
        go_round
        case rel => exact ⟨k + 1, by go_num, by omega, I2⟩
        case measure => simp [intOf]; omega
    · have F := Lib.hid (show FdOut m x w (.returned (.int .i64 (-1))) w from ⟨rfl, .inr ⟨fun y hy e => by
        obtain ⟨j, hj, rfl⟩ := List.getElem_of_mem hy
        exact I.out j hj (by have := HN.out; omega) e, rfl⟩⟩)
      clear I
      go_wp2
      go_ret
      exact F.out
theorem ritem_info : (Try.prog.info? 32).map (fun i => (i.zero, i.size, i.bytes)) = some (some (.agg #[.int .u64 0, .int .u64 0]), 2, 16) := by kernel_rfl
/-- a list that a call has made -/
def LsOut (m : List It) (w : World) (e : Ending) (w' : World) : Prop :=
  ∃ B n d, e = .returned (.slice B n d) ∧ m.length = n ∧ Its w' B d m ∧ (∀ a, B = some a → w.heap.size ≤ a.block ∧ a.block < w'.heap.size) ∧ Below w.heap.size w w'
theorem LsOut.of {B : Option Addr} {n d : Nat} (hn : m.length = n) (h : w'.ownsRow w.heap.size 32 2 (.slice B n d) n (irow m)) (hb : Below w.heap.size w w') : LsOut m w (.returned (.slice B n d)) w' :=
  ⟨B, n, d, rfl, hn, by unfold Its; rw [hn]; exact Rd.own h, fun a ha => by subst ha; exact h.lt _ rfl, hb⟩
theorem dropm_take (m : List It) (x k : Nat) (hk : k < m.length) : dropm (m.take (k + 1)) x = if m[k].1 = x then dropm (m.take k) x else dropm (m.take k) x ++ [m[k]] := by
  unfold dropm
  rw [List.take_succ_eq_append_getElem hk, List.filter_append]
  by_cases h : m[k].1 = x
  · rw [if_pos h]
    simp [h]
  · rw [if_neg h]
    simp [h]
set_option maxRecDepth 20000 in
set_option maxHeartbeats 2000000 in
theorem rdrop_at (x : Nat) (h : Its w A c m) (hn : m.length = n) (hm : n ≤ 1000) : Calls Try.prog 25 #[.slice A n c, .int .u64 (x : Int)] w (LsOut (dropm m x) w) := by
  obtain ⟨i0, hi, hz0, hz1, hz2⟩ := info_of ritem_info
  obtain ⟨hmx, hcap, _⟩ := its_bounds h hn
  have HN := Lib.hid hn
  have HI := Lib.hid h
  have I0 := Lib.hid (show w.ownsRow w.heap.size 32 2 (.slice none 0 0) 0 (irow (dropm (m.take 0) x)) ∧ (dropm (m.take 0) x).length = 0 ∧ Below w.heap.size w w from ⟨World.ownsRow_nil _ _ _ _, rfl, Below.refl _ _⟩)
  clear hn h
  go_enter Try.func25, Try.ntmps25
  go_wp2
  go_loopw [5, 6] (fun v5 v6 wr => ∃ (B : Option Addr) (r d k : Nat), v5 = .slice B r d ∧ v6 = .int .i64 k ∧ k ≤ n ∧ r ≤ k ∧ Hid (wr.ownsRow w.heap.size 32 2 (.slice B r d) r (irow (dropm (m.take k) x)) ∧ (dropm (m.take k) x).length = r ∧ Below w.heap.size w wr)) (fun _ v6 _ => n - (intOf v6).toNat)
  case atStart => exact ⟨none, 0, 0, 0, rfl, rfl, by omega, by omega, I0⟩
  case round =>
    clear I0
    obtain ⟨B, r, d, k, rfl, rfl, hk, hr, I⟩ := hrel
    by_cases hkn : k < n
    · have hkl : k < m.length := by rw [HN.out]; exact hkn
      obtain ⟨ad, p, rfl, hp, x0, x1⟩ := (HI.out.below I.out.2.2).get hkl
      have hs := dropm_take m x k hkl
      obtain ⟨y, hy⟩ : ∃ y, m[k] = y := ⟨_, rfl⟩
      rw [hy] at x0 x1 hs
      have z0 : (0 : Int) ≤ (k : Int) := by omega
      have z1 : ((k : Int)).toNat = k := by omega
      by_cases he : y.1 = x
      · rw [if_pos he] at hs
        have I2 := Lib.hid I.out
        rw [← hs] at I2
        have e2 : (y.1 : Int) = (x : Int) := by omega
        rw [e2] at x0
        clear hy he I e2 hs
        go_wp2
        go_roundw
        case rel => exact ⟨B, r, d, k + 1, rfl, by go_num, by omega, by omega, I2⟩
        case measure => first | go_num | (simp [intOf]; omega)
      · rw [if_neg he] at hs
        have e2 : ¬ (y.1 : Int) = (x : Int) := by omega
        have hown := own_below I.out.1 ((Below.refl wr.heap.size wr).alloc (Nat.le_refl _) (.cells #[.int .u64 (y.1 : Int), .int .u64 (y.2 : Int)] 32))
        have hlit : Rd 2 (wr.alloc (.cells #[.int .u64 (y.1 : Int), .int .u64 (y.2 : Int)] 32)) (some ⟨wr.heap.size, 0, none⟩) 1 1 (ic y) :=
          Rd.own (base := 0) (World.ownsRow_lit (base := 0) (e := 32) (size := 2) wr #[.int .u64 (y.1 : Int), .int .u64 (y.2 : Int)] 1 (Nat.zero_le _) (by unfold maxLen; omega) rfl)
        have hic : ∀ u ∈ ic y, u.oneCell' = true := by
          intro u hu
          unfold ic at hu
          simp only [List.mem_cons, List.not_mem_nil, or_false] at hu
          rcases hu with rfl | rfl <;> rfl
        have d1 : r + 1 ≤ maxLen := by unfold maxLen; omega
        have d2 : (r + 1) * 16 ≤ 140737488355328 := by omega
        have bw := I.out.2.2
        have d3 : w.heap.size ≤ (wr.alloc (.cells #[.int .u64 (y.1 : Int), .int .u64 (y.2 : Int)] 32)).heap.size := by have := bw.size; simp; omega
        have HBW := Lib.hid (bw.alloc bw.size (.cells #[.int .u64 (y.1 : Int), .int .u64 (y.2 : Int)] 32))
        have HS := Lib.hid hs
        have HL := Lib.hid I.out.2.1
        clear hy he I hs bw
        go_wp2_with (at_builtin; refine wpList_append_rd _ rfl (.tmp 20) (.tmp 25) 22 rfl w.heap.size 32 i0 _ 2 16 Try.underlying22 hi hz0 hz1 hz2 rfl (by decide) (.slice B r d) r (irow (dropm (m.take k) x)) rfl hown (some ⟨wr.heap.size, 0, none⟩) 1 1 (ic y) rfl hlit hic d1 d2 d3 ?_)
        intro B1 d1' w1 hown1 hg1
        have hb1 : Below w.heap.size w w1 := HBW.out.grown hg1 d3 (fun k hk => (hown.lt k hk).1)
        have I2 := Lib.hid (show w1.ownsRow w.heap.size 32 2 (.slice B1 (r + 1) d1') (r + 1) (irow (dropm (m.take (k + 1)) x)) ∧ (dropm (m.take (k + 1)) x).length = r + 1 ∧ Below w.heap.size w w1 from
          ⟨by rw [HS.out, irow_app]; exact hown1, by rw [HS.out]; simp [HL.out], hb1⟩)
        clear hown hlit hic hown1 hg1 hb1 HBW HS HL d1 d2 d3 x0 x1
        go_wp2
        go_roundw
        case rel => exact ⟨B1, r + 1, d1', k + 1, rfl, by go_num, by omega, by omega, I2⟩
        case measure => first | go_num | (simp [intOf]; omega)
    · have e : m.take k = m := List.take_of_length_le (by rw [HN.out]; omega)
      have I2 := I.out
      rw [e] at I2
      have F := Lib.hid (LsOut.of I2.2.1 I2.1 I2.2.2)
      clear I I2 e
      go_wp2
      go_ret
      exact F.out
end
end Go.Proofs.Ytfpecjhgadijlaa.U12
