/-
  A part of a list has fewer bytes.
-/
import Derived.Test.YtndcdidepdcmnaaKB7Back
set_option linter.unusedSimpArgs false
set_option linter.unusedVariables false
namespace Go.Proofs.Ytndcdidepdcmnaa.B07
open Go.Proofs.Ytndcdidepdcmnaa.V01 Go.Proofs.Ytndcdidepdcmnaa.Wd Go.Proofs.Ytndcdidepdcmnaa.V04 Go.Proofs.Ytndcdidepdcmnaa.P06
open Go.Proofs.Ytndcdidepdcmnaa.S05 (ix tb tx one)
theorem spB_pos (t : List ByteArray) (x : Pn) : 0 < (spB t x).length := by
  have := S05.vby_pos x.1.T.toNat
  simp only [spB, headB, List.length_append]
  omega
theorem okB_take {L : List Pn} {k : Nat} (hk : k < L.length) : (okB (L.take k)).length < (okB L).length := by
  obtain ⟨U, hU⟩ := texts_pre (L.take k) (L.drop k)
  have ht : texts L = adds (texts (L.take k)) ((L.drop k).flatMap tex) := by
    conv => lhs; rw [← List.take_append_drop k L]
    unfold texts
    rw [List.flatMap_append, adds_app]
  rw [List.take_append_drop] at hU
  have e1 : (L.take k).flatMap (spB (texts L)) = (L.take k).flatMap (spB (texts (L.take k))) := by
    rw [ht]
    exact spBs_adds _ fun x hx => texts_mem hx
  have e2 : L.flatMap (spB (texts L)) = (L.take k).flatMap (spB (texts (L.take k))) ++ (L.drop k).flatMap (spB (texts L)) := by
    rw [← e1, ← List.flatMap_append, List.take_append_drop]
  have h1 : (tb (texts (L.take k))).length ≤ (tb (texts L)).length := by
    unfold tb
    rw [hU, S05.tx_app]
    have : (vby (texts (L.take k)).length).length ≤ (vby (texts (L.take k) ++ U).length).length := by
      rw [vby_len, vby_len]
      exact vsize_mono (by simp)
    simp only [List.length_append] at this ⊢
    omega
  have h2 : (vby (L.take k).length).length ≤ (vby L.length).length := by
    rw [vby_len, vby_len]
    exact vsize_mono (by simp; omega)
  have h3 : 0 < ((L.drop k).flatMap (spB (texts L))).length := by
    rw [List.drop_eq_getElem_cons hk, List.flatMap_cons, List.length_append]
    have := spB_pos (texts L) L[k]
    omega
  unfold okB
  rw [e2]
  simp only [List.length_append] at *
  omega
theorem putF_ok {L : List Pn} {b : List UInt8} (h : putF L = (b, 0)) : b = okB L ∧ L.length ≤ 1024 ∧ (∀ x ∈ L, ck x = 0) ∧ b.length ≤ 65536 := by
  unfold putF at h
  split at h
  · cases h
  · rename_i h1
    split at h
    · rename_i h2
      injection h with _ h
      exact absurd h h2
    · rename_i h2
      split at h
      · cases h
      · rename_i h3
        injection h with h _
        subst h
        exact ⟨rfl, by omega, cks_zero.1 (Classical.not_not.1 h2), by omega⟩
/-- a part of what may be put may be put -/
theorem putF_take {L : List Pn} {b : List UInt8} (h : putF L = (b, 0)) (k : Nat) : ∃ c, putF (L.take k) = (c, 0) ∧ (k < L.length → c.length < b.length) := by
  obtain ⟨h1, h2, h3, h4⟩ := putF_ok h
  by_cases hk : k < L.length
  · have hl := okB_take hk
    refine ⟨okB (L.take k), ?_, fun _ => by rw [h1]; exact hl⟩
    unfold putF
    rw [if_neg (by simp; omega), cks_zero.2 (fun x hx => h3 x (List.mem_of_mem_take hx)), if_neg (by simp), if_neg (by rw [h1] at h4; omega)]
  · rw [List.take_of_length_le (by omega)]
    exact ⟨b, h, fun h => absurd h hk⟩
end Go.Proofs.Ytndcdidepdcmnaa.B07
