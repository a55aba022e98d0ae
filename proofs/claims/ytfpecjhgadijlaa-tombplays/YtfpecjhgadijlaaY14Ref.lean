/-
  The document's Put.
-/
import Derived.Test.YtfpecjhgadijlaaU12RefPut
import Derived.Test.YtfpecjhgadijlaaY14Pure
import Derived.Test.YtfpecjhgadijlaaFxs
set_option linter.unusedSimpArgs false
set_option linter.unusedVariables false
namespace Go.Proofs.Ytfpecjhgadijlaa.Y14
open Go.RowKit Go.Lib Go.Maps Go.Proofs.Ytfpecjhgadijlaa.Wd Go.Proofs.Ytfpecjhgadijlaa.U12

section
variable {w w' : World} {A : Option Addr} {c n M : Nat} {m : List It}
/-- what Put tells -/
def R14 (m : List It) (x : It) (M : Nat) (w : World) (e : Ending) (w' : World) : Prop :=
  ∃ B k d, e = .returned (.tuple #[.slice B k d, .int .u64 (yid m x M : Int), .bool (yis m x M)]) ∧ (yput m x M).length = k ∧ Its w' B d (yput m x M) ∧ (∀ a, B = some a → w.heap.size ≤ a.block ∧ a.block < w'.heap.size) ∧ Below w.heap.size w w'
set_option maxRecDepth 20000 in
set_option maxHeartbeats 1000000 in
theorem rput14_at (x : It) (M : Nat) (h : Its w A c m) (hn : m.length = n) (hm : n ≤ 900) :
    Calls Try.prog 9 #[.slice A n c, .agg #[.int .u64 (x.1 : Int), .int .u64 (x.2 : Int)], .int .i64 (M : Int)] w (R14 m x M w) := by
  have hb1 := below_box w (.cells #[.int .u64 (x.1 : Int), .int .u64 (x.2 : Int)] 32)
  have hp := rput_at x (h.below hb1) hn hm
  have hlb : (w.alloc (.cells #[.int .u64 (x.1 : Int), .int .u64 (x.2 : Int)] 32)).heap.size = w.heap.size + 1 := by simp
  have hl1 := putm_len m x
  clear h
  go_enter Try.func9, Try.ntmps9
  go_wp2_with fail
  refine hp.mono ?_
  rintro e w2 ⟨B, k, d, rfl, hk, hI, hB, hb2⟩
  have hb := hb1.trans (hb2.mono hb1.size)
  have hB2 : ∀ a, B = some a → w.heap.size ≤ a.block ∧ a.block < w2.heap.size := fun a ha => ⟨by have := (hB a ha).1; omega, (hB a ha).2⟩
  clear hp hb1 hb2 hB hlb
  by_cases hM : (k : Int) ≤ (M : Int)
  · have F := Lib.hid (show R14 m x M w (.returned (.tuple #[.slice B k d, .int .u64 0, .bool false])) w2 from by
      obtain ⟨e1, e2, e3⟩ := yput_room (m := m) (x := x) (M := M) (by omega)
      unfold R14
      rw [e1, e2, e3]
      exact ⟨B, k, d, rfl, hk, hI, hB2, hb⟩)
    clear hI hB2 hb hk
    go_wp2
    go_ret3
    exact F.out
  · cases hpm : putm m x with
    | nil => rw [hpm] at hk; simp at hk; omega
    | cons y t =>
      obtain ⟨e1, e2, e3⟩ := yput_full hpm (M := M) (by omega)
      rw [hpm] at hI hk
      have hcap := hI.cap
      have hmax := hI.max
      rw [hk] at hcap
      simp only [List.length_cons] at hk
      obtain ⟨ad, p2, rfl, hp2, c0, c1⟩ := hI.get (k := 0) (by simp)
      have ep : p2 = ad := by rw [← hp2]; simp [Addr.add]
      subst ep
      simp only [List.getElem_cons_zero] at c0 c1
      have hD := hI.drop 1 (by simp)
      simp only [List.drop_succ_cons, List.drop_zero] at hD
      have hdm : d ≤ 9223372036854775807 := by unfold maxLen at hmax; omega
      obtain ⟨k1, rfl⟩ : ∃ k1, k = k1 + 1 := ⟨k - 1, by omega⟩
      obtain ⟨d1, rfl⟩ : ∃ d1, d = d1 + 1 := ⟨d - 1, by omega⟩
      have z0 : (0 : Int) < ((k1 + 1 : Nat) : Int) := by omega
      have z1 : (1 : Int) ≤ ((k1 + 1 : Nat) : Int) := by omega
      have z2 : ((k1 + 1 : Nat) : Int) ≤ ((d1 + 1 : Nat) : Int) := by omega
      have z3 : (1 : Int) ≤ ((d1 + 1 : Nat) : Int) := by omega
      have z4 : ((1 : Int)).toNat = 1 := rfl
      by_cases hd1 : d1 = 0
      · subst hd1
        have hk0 : k1 = 0 := by omega
        subst hk0
        have F := Lib.hid (show R14 m x M w (.returned (.tuple #[.slice (some p2) 0 0, .int .u64 (y.1 : Int), .bool true])) w2.drew from by
          unfold R14
          rw [e1, e2, e3]
          unfold cut2 at hD
          rw [if_pos rfl] at hD
          exact ⟨_, 0, 0, rfl, by omega, hD.drew, hB2, ⟨hb.os, hb.tape, hb.output, hb.size, hb.block⟩⟩)
        clear hI hB2 hb hk hD hp2
        go_wp2_with fail
        trace_state
        go_region
        go_wp2
        go_ret3
        exact F.out
      · have F := Lib.hid (show R14 m x M w (.returned (.tuple #[.slice (some (p2.add 2)) k1 d1, .int .u64 (y.1 : Int), .bool true])) w2.drew from by
          unfold R14
          rw [e1, e2, e3]
          unfold cut2 at hD
          rw [if_neg (by omega)] at hD
          refine ⟨_, k1, d1, rfl, by omega, hD.drew, fun a ha => ?_, ⟨hb.os, hb.tape, hb.output, hb.size, hb.block⟩⟩
          simp only [Option.some.injEq] at ha
          subst ha
          rw [add_block]
          exact hB2 p2 rfl)
        have z5 : ¬ ((d1 + 1 : Nat) : Int) = 1 := by omega
        have z6 : ¬ d1 + 1 = 1 := by omega
        clear hI hB2 hb hk hD hp2
        go_wp2_with fail
        trace_state
        go_region
        go_wp2
        go_ret3
        exact F.out
end
end Go.Proofs.Ytfpecjhgadijlaa.Y14
