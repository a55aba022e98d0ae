/-
  Slices of items, of the program's or the document's type: what is read of them, cut from them.
-/
import Derived.Test.YtfpecjhgadijlaaU12Mem
set_option linter.unusedSimpArgs false
set_option linter.unusedVariables false
namespace Go.Proofs.Ytfpecjhgadijlaa.U12
open Go.RowKit Go.Lib Go.Maps Go.Proofs.Ytfpecjhgadijlaa.Wd

def Its (w : World) (A : Option Addr) (c : Nat) (l : List It) : Prop := Rd 2 w A l.length c (irow l)
section
variable {w w' : World} {A : Option Addr} {c : Nat} {l : List It}
theorem Its.below (h : Its w A c l) (hb : Below w.heap.size w w') : Its w' A c l := Rd.below h hb
theorem Its.drew (h : Its w A c l) : Its w.drew A c l := Rd.drew h
theorem Its.nil (w : World) : Its w none 0 [] := Rd.nil 2 w
theorem Its.get (h : Its w A c l) {k : Nat} (hk : k < l.length) : ∃ ad p, A = some ad ∧ ad.add (k * 2) = p ∧ w.cell? p = some (.int .u64 (l[k].1 : Int)) ∧ w.cell? ⟨p.block, p.off + 1, none⟩ = some (.int .u64 (l[k].2 : Int)) := by
  cases hA : A with
  | none => have := h.none_ hA; omega
  | some ad =>
    obtain ⟨g0, g1⟩ := irow_get l k hk
    rw [Nat.mul_comm] at g0 g1
    have e : (⟨(ad.add (k * 2)).block, (ad.add (k * 2)).off + 1, none⟩ : Addr) = ad.add (k * 2 + 1) := by
      unfold Addr.add
      by_cases h0 : k * 2 = 0
      · simp [h0]
      · simp [h0, Nat.add_assoc]
    exact ⟨ad, _, rfl, rfl, h.at_ ad hA (k * 2) _ g0, by rw [e]; exact h.at_ ad hA (k * 2 + 1) _ g1⟩
theorem Its.take (h : Its w A c l) (k : Nat) (hk : k ≤ l.length) : Its w A c (l.take k) := by
  have hl : (l.take k).length = k := by simp; omega
  unfold Its
  rw [hl]
  refine ⟨by rw [irow_len, hl], fun ha => ⟨by have := (h.none_ ha).1; omega, (h.none_ ha).2⟩, Nat.le_trans hk h.cap, h.max, fun ad ha i u hu => ?_⟩
  refine h.at_ ad ha i u ?_
  have e : irow l = irow (l.take k) ++ irow (l.drop k) := by rw [← irow_app, List.take_append_drop]
  rw [e, List.getElem?_append_left (List.getElem?_eq_some_iff.1 hu).1]
  exact hu
/-- where 's[k:]' begins -/
def cut2 (A : Option Addr) (c k : Nat) : Option Addr := if c = k then A else A.map (·.add (k * 2))
theorem Its.drop (h : Its w A c l) (k : Nat) (hk : k ≤ l.length) : Its w (cut2 A c k) (c - k) (l.drop k) := by
  have hc := h.cap
  have hm := h.max
  refine ⟨by rw [irow_len], fun ha => ?_, by simp; omega, by omega, fun ad ha i u hu => ?_⟩
  · unfold cut2 at ha
    split at ha
    · rename_i hck
      exact ⟨by simp; omega, by omega⟩
    · simp only [Option.map_eq_none_iff] at ha
      have := h.none_ ha
      exact ⟨by simp; omega, by omega⟩
  · have hi := (List.getElem?_eq_some_iff.1 hu).1
    rw [irow_len, List.length_drop] at hi
    unfold cut2 at ha
    rw [if_neg (by omega)] at ha
    cases hA : A with
    | none => rw [hA] at ha; cases ha
    | some a0 =>
      rw [hA] at ha
      simp only [Option.map_some, Option.some.injEq] at ha
      subst ha
      rw [add_add]
      refine h.at_ a0 hA (k * 2 + i) _ ?_
      have e : irow l = irow (l.take k) ++ irow (l.drop k) := by rw [← irow_app, List.take_append_drop]
      have e2 : (irow (l.take k)).length = k * 2 := by rw [irow_len]; simp; omega
      rw [e, List.getElem?_append_right (by omega), e2, show k * 2 + i - k * 2 = i by omega]
      exact hu
end
end Go.Proofs.Ytfpecjhgadijlaa.U12
