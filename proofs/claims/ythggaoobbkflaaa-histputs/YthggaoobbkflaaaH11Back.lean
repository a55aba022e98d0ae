/-
  The other way round; parts of a slice of numbers; histograms by their contents.
-/
import Derived.Test.YthggaoobbkflaaaH11Alive
set_option linter.unusedSimpArgs false
set_option linter.unusedVariables false
namespace Go.Proofs.Ythggaoobbkflaaa.H11
open Go.RowKit Go.Lib Go.Proofs.Ythggaoobbkflaaa.Wd Go.Proofs.Ythggaoobbkflaaa.S10

/-- the order in which the law adds them the other way -/
def back (l : List Nat) (y : Nat) : List Nat := (l.take (y % l.length)).reverse ++ (l.drop (y % l.length)).reverse
theorem back_len (l : List Nat) (y : Nat) : (back l y).length = l.length := by
  unfold back
  simp only [List.length_append, List.length_reverse, List.length_take, List.length_drop]
  omega
theorem way_lt (n k y : Nat) (h : 0 < n) : (n - 1 - k + y) % n < n := Nat.mod_lt _ h
theorem back_get {l : List Nat} {k : Nat} (y : Nat) (h : k < l.length) : (back l y)[k]'(by rw [back_len]; exact h) = l[(l.length - 1 - k + y) % l.length]'(way_lt _ _ _ (by omega)) := by
  have hs : y % l.length < l.length := Nat.mod_lt _ (by omega)
  have e : (l.length - 1 - k + y) % l.length = (l.length - 1 - k + y % l.length) % l.length := by rw [Nat.add_mod_mod]
  unfold back
  by_cases c : k < y % l.length
  · have e2 : (l.length - 1 - k + y) % l.length = y % l.length - 1 - k := by
      rw [e, show l.length - 1 - k + y % l.length = l.length + (y % l.length - 1 - k) by omega, Nat.add_mod_left, Nat.mod_eq_of_lt (by omega)]
    rw [List.getElem_append_left (by simp only [List.length_reverse, List.length_take]; omega), List.getElem_reverse]
    simp only [List.getElem_take, List.length_take, e2]
    congr 1
    omega
  · have e2 : (l.length - 1 - k + y) % l.length = l.length - 1 - k + y % l.length := by rw [e, Nat.mod_eq_of_lt (by omega)]
    rw [List.getElem_append_right (by simp only [List.length_reverse, List.length_take]; omega), List.getElem_reverse]
    simp only [List.getElem_drop, List.length_drop, List.length_take, List.length_reverse, e2]
    congr 1
    omega
theorem back_perm (l : List Nat) (y : Nat) : (back l y).Perm l := by
  unfold back
  refine (List.Perm.append (List.reverse_perm _) (List.reverse_perm _)).trans ?_
  rw [List.take_append_drop]
theorem Us.take {w : World} {A : Option Addr} {c : Nat} {l : List Nat} (h : Us w A c l) (k : Nat) (hk : k ≤ l.length) : Us w A c (l.take k) := by
  have hl : (l.take k).length = k := by simp; omega
  refine ⟨⟨by simp, fun ha => ⟨by have := (h.1.none_ ha).1; omega, (h.1.none_ ha).2⟩, by rw [hl]; exact Nat.le_trans hk h.1.cap, h.1.max, fun ad ha i u hu => ?_⟩, fun x hx => h.2 x (List.mem_of_mem_take hx)⟩
  refine h.1.at_ ad ha i u ?_
  rw [List.map_take, List.getElem?_take] at hu
  split at hu
  · exact hu
  · cases hu
theorem Us.drop {w : World} {A : Option Addr} {c : Nat} {l : List Nat} (h : Us w A c l) (k : Nat) (hk : k ≤ l.length) : Us w (cutA A c k) (c - k) (l.drop k) := by
  have hc := h.1.cap
  have hm := h.1.max
  refine ⟨⟨by simp, fun ha => ?_, by simp; omega, by omega, fun ad ha i u hu => ?_⟩, fun x hx => h.2 x (List.mem_of_mem_drop hx)⟩
  · unfold cutA at ha
    split at ha
    · rename_i hck
      exact ⟨by simp; omega, by omega⟩
    · simp only [Option.map_eq_none_iff] at ha
      have := h.1.none_ ha
      exact ⟨by simp; omega, by omega⟩
  · rw [List.map_drop, List.getElem?_drop] at hu
    have hi : k + i < l.length := by
      have := (List.getElem?_eq_some_iff.1 hu).1
      simpa using this
    unfold cutA at ha
    rw [if_neg (by omega)] at ha
    cases hA : A with
    | none => rw [hA] at ha; cases ha
    | some a0 =>
      rw [hA] at ha
      simp only [Option.map_some, Option.some.injEq] at ha
      subst ha
      rw [add_add]
      exact h.1.at_ a0 hA (k + i) u hu

/-- of the same numbers -/
theorem Hi.perm {w : World} {p lo hi : Nat} {bs l m : List Nat} (h : Hi w p lo hi bs l) (hp : l.Perm m) : Hi w p lo hi bs m := by
  obtain ⟨g, A, c, h, hb⟩ := h
  exact ⟨g, A, c, h.eq (fun i _ => kk_perm bs hp i) hp.length_eq (List.Perm.sum_nat hp), hb⟩
theorem buckets_hi (p lo hi n m : Nat) (bs l : List Nat) (w : World) (h : Hi w p lo hi bs l) (hn : bs.length = n) (hm : n + 1 = m) :
    Calls Try.prog 12 #[.pointer (some ⟨p, 0, none⟩)] w (BkOut w m (ks (kk bs l) m)) := by
  obtain ⟨g, A, c, h, _⟩ := h
  exact buckets_at p g c n m A bs _ _ _ w h hn hm
/-- New, at whatever list -/
def NewOut (bs : List Nat) (w : World) (e : Ending) (w' : World) : Prop :=
  (¬ Right bs ∧ e = .returned (.tuple #[.pointer none, .int .i64 1]) ∧ Below w.heap.size w w') ∨ (Right bs ∧ NwOut bs w e w')
theorem new_any (A : Option Addr) (c N : Nat) (bs : List Nat) (w : World) (ha : Us w A c bs) (hN : bs.length = N) : Calls Try.prog 7 #[.slice A N c] w (NewOut bs w) := by
  by_cases hr : Right bs
  · exact (new_right A c N bs w ha hN hr).mono fun e w' h => .inr ⟨hr, h⟩
  · exact (new_wrong A c N bs w ha hN hr).mono fun e w' h => .inl ⟨hr, h.1, h.2⟩
end Go.Proofs.Ythggaoobbkflaaa.H11
