/-
  Bounds, buckets, and what a histogram of numbers is, in plain lists.
-/
import Derived.Test.YthggaoobbkflaaaS10Cnt
set_option linter.unusedSimpArgs false
set_option linter.unusedVariables false
namespace Go.Proofs.Ythggaoobbkflaaa.H11
open Go.RowKit Go.Lib Go.Proofs.Ythggaoobbkflaaa.Wd Go.Proofs.Ythggaoobbkflaaa.S10

/-- how many are below -/
def bk (bs : List Nat) (n : Nat) : Nat := bs.countP (fun b => decide (b < n))
theorem bk_le (bs : List Nat) (n : Nat) : bk bs n ≤ bs.length := List.countP_le_length
/-- each above the one ahead, up to the k-th -/
def Up (bs : List Nat) (k : Nat) : Prop := ∀ i (h : i + 1 < bs.length), i + 1 < k → bs[i] < bs[i + 1]
structure Right (bs : List Nat) : Prop where
  few : bs.length ≤ 32
  up : Up bs bs.length
theorem Up.more {bs : List Nat} {k : Nat} (h : Up bs k) (hk : k + 1 ≤ bs.length) (h0 : 0 < k) (h1 : bs[k - 1] < bs[k]) : Up bs (k + 1) := by
  intro i hi hik
  by_cases e : i + 1 = k
  · subst e
    simpa using h1
  · exact h i hi (by omega)
theorem Up.not {bs : List Nat} {k : Nat} (hk : k < bs.length) (h0 : 0 < k) (h1 : ¬ bs[k - 1] < bs[k]) (h : Up bs bs.length) : False := by
  obtain ⟨j, rfl⟩ : ∃ j, k = j + 1 := ⟨k - 1, by omega⟩
  have := h j hk (by omega)
  simp at h1
  omega
theorem Up.lt {bs : List Nat} (h : Up bs bs.length) : ∀ (d i : Nat) (hi : i + d + 1 < bs.length), bs[i] < bs[i + d + 1]
  | 0, i, hi => h i hi (by omega)
  | d + 1, i, hi => by
    have h1 := Up.lt h d i (by omega)
    have h2 := h (i + d + 1) (by omega) (by omega)
    exact Nat.lt_trans h1 h2
theorem Up.le {bs : List Nat} (h : Up bs bs.length) {i j : Nat} (hj : j < bs.length) (hij : i ≤ j) : bs[i] ≤ bs[j] := by
  rcases Nat.lt_or_ge i j with k | k
  · obtain ⟨d, rfl⟩ : ∃ d, j = i + d + 1 := ⟨j - i - 1, by omega⟩
    exact Nat.le_of_lt (h.lt d i hj)
  · have : i = j := by omega
    subst this
    exact Nat.le_refl _
/-- the first i are below, the others are not -/
theorem bk_cut {bs : List Nat} {n i : Nat} (hi : i ≤ bs.length) (h1 : ∀ t (h : t < bs.length), t < i → bs[t] < n) (h2 : ∀ t (h : t < bs.length), i ≤ t → ¬ bs[t] < n) : bk bs n = i := by
  have e : bs = bs.take i ++ bs.drop i := (List.take_append_drop i bs).symm
  unfold bk
  rw [e, List.countP_append]
  have k1 : (bs.take i).countP (fun b => decide (b < n)) = i := by
    have : (bs.take i).countP (fun b => decide (b < n)) = (bs.take i).length := by
      rw [List.countP_eq_length]
      intro a ha
      obtain ⟨t, ht, rfl⟩ := List.mem_iff_getElem.1 ha
      have ht2 : t < i ∧ t < bs.length := by simp only [List.length_take] at ht; omega
      simpa using h1 t ht2.2 ht2.1
    rw [this, List.length_take]
    omega
  have k2 : (bs.drop i).countP (fun b => decide (b < n)) = 0 := by
    rw [List.countP_eq_zero]
    intro a ha
    obtain ⟨t, ht, rfl⟩ := List.mem_iff_getElem.1 ha
    have ht2 : t < bs.length - i := by simpa using ht
    have := h2 (i + t) (by omega) (by omega)
    simpa using this
  rw [k1, k2]
  omega
theorem bk_take {bs : List Nat} {n k : Nat} (h : k < bs.length) : bk (bs.take (k + 1)) n = bk (bs.take k) n + (if bs[k] < n then 1 else 0) := by
  unfold bk
  rw [List.take_succ_eq_append_getElem h, List.countP_append]
  simp [List.countP_cons, List.countP_nil]
/-- of those numbers, how many are in bucket i -/
def kk (bs l : List Nat) (i : Nat) : Nat := l.countP (fun x => bk bs x == i)
theorem kk_nil (bs : List Nat) (i : Nat) : kk bs [] i = 0 := rfl
theorem kk_app (bs l m : List Nat) (i : Nat) : kk bs (l ++ m) i = kk bs l i + kk bs m i := by unfold kk; rw [List.countP_append]
theorem kk_one (bs : List Nat) (x i : Nat) : kk bs [x] i = if bk bs x = i then 1 else 0 := by
  unfold kk
  simp [List.countP_cons]
theorem kk_le (bs l : List Nat) (i : Nat) : kk bs l i ≤ l.length := List.countP_le_length
/-- a number more: its own bucket has one more -/
theorem kk_same (bs l : List Nat) (x : Nat) : kk bs (l ++ [x]) (bk bs x) = kk bs l (bk bs x) + 1 := by rw [kk_app, kk_one, if_pos rfl]
theorem kk_other (bs l : List Nat) (x i : Nat) (h : bk bs x ≠ i) : kk bs (l ++ [x]) i = kk bs l i := by rw [kk_app, kk_one, if_neg h, Nat.add_zero]
/-- the sum of all buckets -/
def sm (f : Nat → Nat) : Nat → Nat
  | 0 => 0
  | n + 1 => sm f n + f n
theorem sm_add (f g : Nat → Nat) : ∀ n, sm (fun i => f i + g i) n = sm f n + sm g n
  | 0 => rfl
  | n + 1 => by simp only [sm]; rw [sm_add f g n]; omega
theorem sm_one (x : Nat) : ∀ n, sm (fun i => if x = i then 1 else 0) n = if x < n then 1 else 0
  | 0 => rfl
  | n + 1 => by
    simp only [sm]
    rw [sm_one x n]
    split <;> split <;> split <;> omega
theorem sm_zero : ∀ n, sm (fun _ => 0) n = 0
  | 0 => rfl
  | n + 1 => by simp only [sm]; rw [sm_zero n]
theorem kk_all (bs : List Nat) : ∀ l : List Nat, sm (kk bs l) (bs.length + 1) = l.length
  | [] => sm_zero _
  | x :: l => by
    have e : kk bs (x :: l) = fun i => kk bs [x] i + kk bs l i := funext fun i => kk_app bs [x] l i
    rw [e, sm_add, kk_all bs l]
    have e2 : kk bs [x] = fun i => if bk bs x = i then 1 else 0 := funext fun i => kk_one bs x i
    rw [e2, sm_one, if_pos (by have := bk_le bs x; omega), List.length_cons]
    omega
theorem sm_le (f : Nat → Nat) : ∀ n k, k ≤ n → sm f k ≤ sm f n
  | 0, k, h => by have : k = 0 := by omega
                  subst this; exact Nat.le_refl _
  | n + 1, k, h => by
    rcases Nat.lt_or_ge k (n + 1) with h1 | h1
    · have := sm_le f n k (by omega)
      simp only [sm]
      omega
    · have : k = n + 1 := by omega
      subst this; exact Nat.le_refl _
/-- in whatever order -/
theorem kk_perm (bs : List Nat) {l m : List Nat} (h : l.Perm m) (i : Nat) : kk bs l i = kk bs m i := h.countP_eq _

/-- the number and the mark of the count of S -/
def sn (S : Nat) : Int := if S ≤ 9223372036854775807 then (S : Int) else 9223372036854775807
def sf (S : Nat) : Bool := decide (9223372036854775807 < S)
theorem is_ (S : Nat) : Is (S : Int) (sn S) (sf S) := by
  unfold sn sf
  by_cases h : S ≤ 9223372036854775807
  · rw [if_pos h]
    refine ⟨by omega, by omega, by omega, fun _ => rfl, fun e => ?_⟩
    have := of_decide_eq_true e
    omega
  · rw [if_neg h]
    refine ⟨by omega, by omega, by omega, fun e => ?_, fun _ => ⟨rfl, by omega⟩⟩
    have := of_decide_eq_false e
    omega
theorem is_add (S m : Nat) : Is ((S : Int) + (m : Int)) (sn (S + m)) (sf (S + m)) := by
  have := is_ (S + m)
  rwa [Int.natCast_add] at this
theorem is_one (S : Nat) : Is ((S : Int) + 1) (sn (S + 1)) (sf (S + 1)) := is_add S 1
theorem sn_small {S : Nat} (h : S ≤ 9223372036854775807) : sn S = (S : Int) := by unfold sn; rw [if_pos h]
theorem sf_small {S : Nat} (h : S ≤ 9223372036854775807) : sf S = false := by unfold sf; simpa using h
theorem is_tot (l : List Nat) : Is (tot l) (sn l.sum) (sf l.sum) := is_ l.sum
end Go.Proofs.Ythggaoobbkflaaa.H11
