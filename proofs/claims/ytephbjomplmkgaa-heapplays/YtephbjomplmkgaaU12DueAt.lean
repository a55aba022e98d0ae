/-
  What Until tells, in the list's places.
-/
import Derived.Test.YtephbjomplmkgaaU12Qr
set_option linter.unusedSimpArgs false
set_option linter.unusedVariables false
namespace Go.Proofs.Ytephbjomplmkgaa.U12
open Go.RowKit Go.Lib Go.Maps Go.Proofs.Ytephbjomplmkgaa.Wd

section
variable {w0 w w' : World} {q : Nat} {m : List It}
theorem QR.until (h : QR w0 w q m) (t n : Nat) (ids : List Nat) (ht : (t : Int) ≤ 18446744073709551615) (hi : (due m t).map (·.1) = ids) (hn : ids.length = n) :
    Calls Try.prog 14 #[.pointer (some ⟨q, 0, none⟩), .int .u64 (t : Int)] w fun e w' => ∃ U d, e = .returned (.slice U n d) ∧ Us w' U d ids ∧ Below w.heap.size w w' ∧ QR w0 w' q m := by
  have h0 := h
  obtain ⟨o, h1, h2, h3⟩ := h
  subst hi
  refine (qunt_at t n h1 ht hn).mono ?_
  rintro e w' ⟨U, d, rfl, hu, hb⟩
  exact ⟨U, d, by rw [hn], hu, hb, h0.below hb⟩
theorem QR.at (h : QR w0 w q m) (i : Nat) (hi : i < m.length) :
    Calls Try.prog 17 #[.pointer (some ⟨q, 0, none⟩), .int .u64 (m[i].1 : Int)] w fun e w' => e = .returned (.tuple #[.int .u64 (m[i].2 : Int), .bool true]) ∧ w = w' := by
  obtain ⟨o, h1, h2, h3⟩ := h
  exact at_in m[i] h1 (List.getElem_mem hi)
/-- what is due is the first of the list -/
theorem due_pre (h : m.Pairwise Lt) (t : Nat) : due m t = m.take (due m t).length := by
  have := List.takeWhile_prefix (p := fun x : It => decide (x.2 ≤ t)) (l := m)
  rw [← due_take h] at this
  exact List.prefix_iff_eq_take.1 this
theorem due_le (m : List It) (t : Nat) : (due m t).length ≤ m.length := List.length_filter_le _ _
theorem due_in (h : m.Pairwise Lt) {t i : Nat} (hi : i < (due m t).length) (hm : i < m.length) : m[i].2 ≤ t := by
  have e : (due m t)[i] = m[i] := by
    have h1 := due_pre h t
    have : (due m t)[i] = (m.take (due m t).length)[i]'(by rw [← h1]; exact hi) := by congr 1
    rw [this, List.getElem_take]
  have hm2 : (due m t)[i] ∈ due m t := List.getElem_mem hi
  rw [e] at hm2
  simpa using (List.mem_filter.1 hm2).2
theorem due_out (h : m.Pairwise Lt) {t i : Nat} (hi : (due m t).length ≤ i) (hm : i < m.length) : t < m[i].2 := by
  rcases Nat.lt_or_ge t m[i].2 with hl | hl
  · exact hl
  · have hmem : m[i] ∈ due m t := List.mem_filter.2 ⟨List.getElem_mem hm, by simpa using hl⟩
    rw [due_pre h t] at hmem
    obtain ⟨j, hj, e⟩ := List.getElem_of_mem hmem
    have hj2 : j < (due m t).length := by simp at hj; omega
    rw [List.getElem_take] at e
    have := List.pairwise_iff_getElem.1 h j i (by omega) hm (by omega)
    rw [e] at this
    exact absurd this (Lt.irrefl _)
theorem due_mono (m : List It) {s t : Nat} (h : s ≤ t) : (due m s).length ≤ (due m t).length := by
  unfold due
  induction m with
  | nil => simp
  | cons x m ih =>
    by_cases h1 : x.2 ≤ s
    · have h2 : x.2 ≤ t := by omega
      simp [h1, h2, ih]
    · by_cases h2 : x.2 ≤ t
      · simp [h1, h2]; omega
      · simp [h1, h2, ih]
theorem due_top (h : QR w0 w q m) : due m 18446744073709551615 = m := List.filter_eq_self.2 fun x hx => by
  have := (h.num x hx).2
  simp only [decide_eq_true_eq]
  omega
/-- the id at a place -/
theorem ids_at (h : m.Pairwise Lt) {t i : Nat} {ids : List Nat} (he : (due m t).map (·.1) = ids) (hi : i < ids.length) : ∃ hm : i < m.length, ids[i] = m[i].1 := by
  subst he
  have hd : i < (due m t).length := by simpa using hi
  have hm : i < m.length := Nat.lt_of_lt_of_le hd (due_le m t)
  refine ⟨hm, ?_⟩
  rw [List.getElem_map]
  have h1 := due_pre h t
  have : (due m t)[i] = (m.take (due m t).length)[i]'(by rw [← h1]; exact hd) := by congr 1
  rw [this, List.getElem_take]
end
end Go.Proofs.Ytephbjomplmkgaa.U12
