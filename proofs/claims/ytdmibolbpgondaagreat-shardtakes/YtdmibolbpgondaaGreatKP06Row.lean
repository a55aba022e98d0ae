/-
  Rows as arrays and as lists: an exchange of two; the insertion sort of a part.
-/
import Derived.Sort.Defs
import Derived.Test.YtdmibolbpgondaaGreatKP06Pure
namespace Go.Proofs.YtdmibolbpgondaaGreat.P06
open Go.Sort
section
variable {α : Type} [Inhabited α]

theorem at_mid (X Z : List α) (u : α) : (X ++ u :: Z).toArray[X.length]! = u := by
  rw [getElem!_pos _ _ (by simp)]
  simp
theorem at_mid' (X Z : List α) (u : α) (i : Nat) (hi : i = X.length) : (X ++ u :: Z).toArray[i]! = u := by rw [hi]; exact at_mid X Z u
theorem swp_mid (X M Z : List α) (u v : α) (i j : Nat) (hi : i = X.length) (hj : j = X.length + 1 + M.length) :
    swp (X ++ u :: (M ++ v :: Z)).toArray i j = (X ++ v :: (M ++ u :: Z)).toArray := by
  unfold swp
  have e1 : (X ++ u :: (M ++ v :: Z)).toArray[i]! = u := at_mid' _ _ _ _ hi
  have e2 : (X ++ u :: (M ++ v :: Z)).toArray[j]! = v := by
    have := at_mid' (X ++ u :: M) Z v j (by simp; omega)
    simpa using this
  rw [e1, e2]
  subst hi hj
  apply Array.ext'
  simp only [List.setIfInBounds_toArray]
  rw [List.set_append_right _ _ (by omega), Nat.sub_self, List.set_cons_zero, List.set_append_right _ _ (by omega)]
  rw [show X.length + 1 + M.length - X.length = M.length + 1 by omega, List.set_cons_succ, List.set_append_right _ _ (by omega), Nat.sub_self, List.set_cons_zero]
theorem swp_mid' (X M Z : List α) (u v : α) (i j : Nat) (hi : i = X.length) (hj : j = X.length + 1 + M.length) :
    swp (X ++ u :: (M ++ v :: Z)).toArray j i = (X ++ v :: (M ++ u :: Z)).toArray := by
  unfold swp
  have e1 : (X ++ u :: (M ++ v :: Z)).toArray[i]! = u := at_mid' _ _ _ _ hi
  have e2 : (X ++ u :: (M ++ v :: Z)).toArray[j]! = v := by
    have := at_mid' (X ++ u :: M) Z v j (by simp; omega)
    simpa using this
  rw [e1, e2]
  subst hi hj
  apply Array.ext'
  simp only [List.setIfInBounds_toArray]
  rw [List.set_append_right _ _ (by omega), show X.length + 1 + M.length - X.length = M.length + 1 by omega, List.set_cons_succ, List.set_append_right _ _ (by omega), Nat.sub_self, List.set_cons_zero, List.set_append_right _ _ (by omega), Nat.sub_self, List.set_cons_zero]
end

variable {α β : Type} [Inhabited α] [DecidableEq β] {le : β → β → Prop} {key : α → β} {lt : α → α → Bool}

theorem inner_stop (a : Nat) (d : Array α) : insInner lt a a d = d := by
  cases a with
  | zero => rfl
  | succ n => rw [insInner]; simp
omit [DecidableEq β] in
theorem inner_at (hlt : ∀ x y, lt x y = true ↔ ¬ le (key y) (key x)) (X : List α) (x : α) : ∀ (n : Nat) (p Q : List α), p.length = n → ∃ p1 p2, p = p1 ++ p2 ∧ (∀ y ∈ p2, ¬ le (key y) (key x)) ∧ (∀ q y, p1 = q ++ [y] → le (key y) (key x)) ∧
    insInner lt X.length (X.length + n) (X ++ p ++ x :: Q).toArray = (X ++ p1 ++ x :: (p2 ++ Q)).toArray
  | 0, p, Q, hp => by
    have : p = [] := List.eq_nil_of_length_eq_zero hp
    subst this
    exact ⟨[], [], rfl, by simp, by simp, by simp [inner_stop]⟩
  | n + 1, p, Q, hp => by
    obtain ⟨q, y, rfl⟩ : ∃ q y, p = q ++ [y] := by
      rcases List.eq_nil_or_concat p with h | ⟨q, y, h⟩
      · subst h; simp at hp
      · exact ⟨q, y, by simpa using h⟩
    have hq : q.length = n := by simpa using hp
    have e1 : (X ++ (q ++ [y]) ++ x :: Q).toArray[X.length + n + 1]! = x := at_mid' _ _ _ _ (by simp; omega)
    have e2 : (X ++ (q ++ [y]) ++ x :: Q).toArray[X.length + n]! = y := by
      have := at_mid' (X ++ q) (x :: Q) y (X.length + n) (by simp; omega)
      simpa using this
    rw [← Nat.add_assoc, insInner, e1, e2]
    by_cases h : lt x y = true
    · have hs : swp (X ++ (q ++ [y]) ++ x :: Q).toArray (X.length + n + 1) (X.length + n) = (X ++ q ++ x :: (y :: Q)).toArray := by
        have := swp_mid' (X ++ q) [] Q y x (X.length + n) (X.length + n + 1) (by simp; omega) (by simp; omega)
        simpa using this
      rw [hs, if_pos (by simp [h]; omega)]
      obtain ⟨p1, p2, rfl, h2, h1, he⟩ := inner_at hlt X x n q (y :: Q) hq
      refine ⟨p1, p2 ++ [y], by simp, ?_, h1, by rw [he]; simp⟩
      intro z hz
      rcases List.mem_append.1 hz with hz | hz
      · exact h2 z hz
      · simp only [List.mem_singleton] at hz
        subst hz
        exact (hlt _ _).1 h
    · rw [if_neg (by simp [h])]
      refine ⟨q ++ [y], [], by simp, by simp, fun q' y' e => ?_, by simp⟩
      have := List.append_inj_right' e (by simp)
      injection this with e
      subst e
      exact Classical.byContradiction fun hc => h ((hlt _ _).2 hc)
/-- the whole part -/
theorem outer_at (O : Ord le) (hlt : ∀ x y, lt x y = true ↔ ¬ le (key y) (key x)) (X Z : List α) : ∀ (n : Nat) (y r : List α), r.length = n → y ≠ [] → Sd le key y →
    ∃ m, m.length = y.length + r.length ∧ Sd le key m ∧ Fe key (y ++ r) m ∧ insOuter lt X.length (X.length + y.length + r.length) (X.length + y.length) (X ++ (y ++ r) ++ Z).toArray = (X ++ m ++ Z).toArray
  | 0, y, r, hr, _, hs => by
    have : r = [] := List.eq_nil_of_length_eq_zero hr
    subst this
    refine ⟨y, by simp, hs, by simpa using Fe.refl y, ?_⟩
    rw [insOuter, if_neg (by simp)]
    simp
  | n + 1, y, r, hr, hy, hs => by
    obtain ⟨x, r, rfl⟩ : ∃ x q, r = x :: q := by
      cases r with
      | nil => simp at hr
      | cons x q => exact ⟨x, q, rfl⟩
    obtain ⟨p1, p2, rfl, h2, h1, he⟩ := inner_at hlt X x y.length y (r ++ Z) rfl
    have hput : Sd le key (p1 ++ x :: p2) ∧ Fe key (p1 ++ p2 ++ [x]) (p1 ++ x :: p2) := by
      refine put_in O hs ?_ h2
      intro z hz
      rcases List.eq_nil_or_concat p1 with e | ⟨q, w, e⟩
      · subst e; cases hz
      · rw [List.concat_eq_append] at e
        have hw := h1 q w e
        subst e
        rcases List.mem_append.1 hz with hz | hz
        · exact O.trans _ _ _ (hs.left.across z hz w (by simp)) hw
        · simp only [List.mem_singleton] at hz
          subst hz
          exact hw
    rw [insOuter, if_pos (by simp)]
    have e0 : (X ++ (p1 ++ p2 ++ x :: r) ++ Z).toArray = (X ++ (p1 ++ p2) ++ x :: (r ++ Z)).toArray := by simp
    rw [e0, he]
    obtain ⟨m, hm, hsm, hfm, hem⟩ := outer_at O hlt X Z n (p1 ++ x :: p2) r (by simpa using hr) (by simp) hput.1
    refine ⟨m, by rw [hm]; simp; omega, hsm, ?_, ?_⟩
    · have := (hput.2.app (Fe.refl (key := key) r)).trans hfm
      simpa using this
    · rw [← hem]
      simp
      congr 1 <;> omega
theorem sort_at (O : Ord le) (hlt : ∀ x y, lt x y = true ↔ ¬ le (key y) (key x)) (X a Z : List α) :
    ∃ m, m.length = a.length ∧ Sd le key m ∧ Fe key a m ∧ insertionSort lt (X ++ a ++ Z).toArray X.length (X.length + a.length) = (X ++ m ++ Z).toArray := by
  unfold insertionSort
  cases a with
  | nil =>
    refine ⟨[], rfl, Sd.nil, Fe.refl _, ?_⟩
    rw [insOuter, if_neg (by simp)]
  | cons x r =>
    obtain ⟨m, hm, hs, hf, he⟩ := outer_at O hlt X Z r.length [x] r rfl (by simp) (Sd.one x)
    refine ⟨m, by rw [hm]; simp; omega, hs, by simpa using hf, ?_⟩
    rw [← he]
    simp
    congr 1; omega
end Go.Proofs.YtdmibolbpgondaaGreat.P06
