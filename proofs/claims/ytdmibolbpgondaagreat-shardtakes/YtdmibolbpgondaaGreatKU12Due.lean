/-
  Until in plain words: what is gone through, and what the document's list has.
-/
import Derived.Test.YtdmibolbpgondaaGreatKU12Pure
set_option linter.unusedSimpArgs false
set_option linter.unusedVariables false
namespace Go.Proofs.YtdmibolbpgondaaGreat.U12

variable {K : Nat → It} {N t : Nat}
/-- the places gone through from i on, with fuel -/
def ui (K : Nat → It) (N t : Nat) : Nat → Nat → List Nat
  | 0, _ => []
  | f + 1, i => if N ≤ i ∨ t < (K i).2 then [] else i :: (ui K N t f (2 * i + 1) ++ ui K N t f (2 * i + 2))
theorem ui_out {f i : Nat} (h : N ≤ i ∨ t < (K i).2) : ui K N t f i = [] := by
  cases f with
  | zero => rfl
  | succ f => unfold ui; rw [if_pos h]
theorem ui_in {f i : Nat} (h : ¬ (N ≤ i ∨ t < (K i).2)) : ui K N t (f + 1) i = i :: (ui K N t f (2 * i + 1) ++ ui K N t f (2 * i + 2)) := by
  rw [ui, if_neg h]
theorem ui_mem : ∀ (f i k : Nat), k ∈ ui K N t f i → k < N ∧ (K k).2 ≤ t
  | 0, _, _, h => by cases h
  | f + 1, i, k, h => by
    by_cases c : N ≤ i ∨ t < (K i).2
    · rw [ui_out c] at h; cases h
    · rw [ui_in c] at h
      rcases List.mem_cons.1 h with rfl | h
      · omega
      · rcases List.mem_append.1 h with h | h
        · exact ui_mem f _ k h
        · exact ui_mem f _ k h
theorem ui_kid : ∀ (f i j k : Nat), N - i ≤ f → j ∈ ui K N t f i → 0 < k → par k = j → k < N → (K k).2 ≤ t → k ∈ ui K N t f i
  | 0, _, _, _, _, h, _, _, _, _ => by cases h
  | f + 1, i, j, k, hf, h, k0, kp, kN, kt => by
    by_cases c : N ≤ i ∨ t < (K i).2
    · rw [ui_out c] at h; cases h
    · rw [ui_in c] at h ⊢
      refine List.mem_cons_of_mem _ (List.mem_append.2 ?_)
      rcases List.mem_cons.1 h with rfl | h
      · have hc : ¬ (N ≤ k ∨ t < (K k).2) := by omega
        rcases (kids k0).1 kp with e | e
        · left
          obtain ⟨g, rfl⟩ : ∃ g, f = g + 1 := ⟨f - 1, by omega⟩
          rw [← e, ui_in hc]
          exact List.mem_cons_self ..
        · right
          obtain ⟨g, rfl⟩ : ∃ g, f = g + 1 := ⟨f - 1, by omega⟩
          rw [← e, ui_in hc]
          exact List.mem_cons_self ..
      · rcases List.mem_append.1 h with h | h
        · exact .inl (ui_kid f _ j k (by omega) h k0 kp kN kt)
        · exact .inr (ui_kid f _ j k (by omega) h k0 kp kN kt)
theorem ui_all (h : Hp K N) {f : Nat} (hf : N ≤ f) : ∀ k, k < N → (K k).2 ≤ t → k ∈ ui K N t f 0 := fun k => by
  induction k using Nat.strongRecOn with
  | _ k ih =>
    intro kN kt
    by_cases k0 : k = 0
    · subst k0
      obtain ⟨g, rfl⟩ : ∃ g, f = g + 1 := ⟨f - 1, by omega⟩
      rw [ui_in (by omega)]
      exact List.mem_cons_self ..
    · have hp := par_lt (k := k) (by omega)
      have hl := h k (by omega) kN
      exact ui_kid f 0 (par k) k (by omega) (ih _ hp (by omega) (by unfold Le at hl; omega)) (by omega) rfl kN kt
/-- k lies at i or below it -/
inductive Anc (i : Nat) : Nat → Prop
  | self : Anc i i
  | step (k : Nat) : 0 < k → Anc i (par k) → Anc i k
theorem Anc.le {i k : Nat} (h : Anc i k) : i ≤ k := by
  induction h with
  | self => exact Nat.le_refl _
  | step k k0 _ ih => have := par_lt k0; omega
theorem Anc.over {i a k : Nat} (a0 : 0 < a) (hp : par a = i) (h : Anc a k) : Anc i k := by
  induction h with
  | self => exact .step a a0 (hp ▸ .self)
  | step k k0 _ ih => exact .step k k0 ih
theorem ui_anc : ∀ (f i k : Nat), k ∈ ui K N t f i → Anc i k
  | 0, _, _, h => by cases h
  | f + 1, i, k, h => by
    by_cases c : N ≤ i ∨ t < (K i).2
    · rw [ui_out c] at h; cases h
    · rw [ui_in c] at h
      rcases List.mem_cons.1 h with rfl | h
      · exact .self
      · rcases List.mem_append.1 h with h | h
        · exact (ui_anc f _ k h).over (by omega) ((kids (by omega)).2 (.inl rfl))
        · exact (ui_anc f _ k h).over (by omega) ((kids (by omega)).2 (.inr rfl))
theorem anc_apart {a b : Nat} (a0 : 0 < a) (b0 : 0 < b) (hp : par a = par b) (hn : a ≠ b) : ∀ k, Anc a k → Anc b k → False := fun k => by
  induction k using Nat.strongRecOn with
  | _ k ih =>
    intro h1 h2
    cases h1 with
    | self => cases h2 with
      | self => exact hn rfl
      | step _ _ h2 => have := h2.le; have := par_lt b0; omega
    | step _ k0 h1 => cases h2 with
      | self => have := h1.le; have := par_lt a0; omega
      | step _ _ h2 => exact ih _ (par_lt k0) h1 h2
theorem ui_nodup : ∀ (f i : Nat), (ui K N t f i).Nodup
  | 0, _ => List.nodup_nil
  | f + 1, i => by
    by_cases c : N ≤ i ∨ t < (K i).2
    · rw [ui_out c]; exact List.nodup_nil
    · rw [ui_in c]
      refine List.nodup_cons.2 ⟨fun h => ?_, List.nodup_append.2 ⟨ui_nodup f _, ui_nodup f _, fun a ha b hb e => ?_⟩⟩
      · rcases List.mem_append.1 h with h | h
        · have := (ui_anc f _ _ h).le; omega
        · have := (ui_anc f _ _ h).le; omega
      · subst e
        have p1 := (kids (k := 2 * i + 1) (i := i) (by omega)).2 (.inl rfl)
        have p2 := (kids (k := 2 * i + 2) (i := i) (by omega)).2 (.inr rfl)
        exact anc_apart (a := 2 * i + 1) (b := 2 * i + 2) (by omega) (by omega) (p1.trans p2.symm) (by omega) a (ui_anc f _ _ ha) (ui_anc f _ _ hb)
theorem ui_perm (h : Hp K N) {f : Nat} (hf : N ≤ f) : (ui K N t f 0).Perm ((List.range N).filter fun k => decide ((K k).2 ≤ t)) := by
  refine (List.perm_ext_iff_of_nodup (ui_nodup _ _) (List.nodup_range.filter _)).2 fun k => ?_
  simp only [List.mem_filter, List.mem_range, decide_eq_true_eq]
  exact ⟨ui_mem f 0 k, fun hk => ui_all h hf k hk.1 hk.2⟩
/-- the ones gone through -/
def ul (K : Nat → It) (N t f i : Nat) : List It := (ui K N t f i).map K
theorem ul_out {f i : Nat} (h : N ≤ i ∨ t < (K i).2) : ul K N t f i = [] := by unfold ul; rw [ui_out h]; rfl
theorem ul_in {f i : Nat} (h : ¬ (N ≤ i ∨ t < (K i).2)) : ul K N t (f + 1) i = K i :: (ul K N t f (2 * i + 1) ++ ul K N t f (2 * i + 2)) := by unfold ul; rw [ui_in h]; simp
/-- those of a list up to a time -/
def due (m : List It) (t : Nat) : List It := m.filter fun x => decide (x.2 ≤ t)
theorem ul_perm {m : List It} (hm : Has K N m) (h : Hp K N) {f : Nat} (hf : N ≤ f) : (ul K N t f 0).Perm (due m t) := by
  unfold ul due
  refine ((ui_perm h hf).map K).trans (List.Perm.trans ?_ (hm.perm.filter _))
  unfold row
  rw [List.filter_map]
  exact List.Perm.refl _
theorem ul_len {m : List It} (hm : Has K N m) (h : Hp K N) {f : Nat} (hf : N ≤ f) : (ul K N t f 0).length ≤ N := by
  rw [(ul_perm (t := t) hm h hf).length_eq, ← hm.len]
  exact List.length_filter_le _ _
theorem due_sorted {m : List It} (h : m.Pairwise Lt) (t : Nat) : (due m t).Pairwise Lt := h.filter _
/-- two lists in order with the same ones are one -/
theorem sorted_one : ∀ (l m : List It), l.Perm m → l.Pairwise Le → m.Pairwise Lt → l = m
  | [], m, h, _, _ => by rw [List.nil_perm.1 h]
  | x :: l, [], h, _, _ => by simp at h
  | x :: l, y :: m, h, hl, hm => by
    have h1 := List.pairwise_cons.1 hl
    have h2 := List.pairwise_cons.1 hm
    have e : x = y := by
      have hx : x ∈ y :: m := h.mem_iff.1 (List.mem_cons_self ..)
      have hy : y ∈ x :: l := h.mem_iff.2 (List.mem_cons_self ..)
      rcases List.mem_cons.1 hx with e | hx
      · exact e
      · rcases List.mem_cons.1 hy with e | hy
        · exact e.symm
        · exact (h1.1 y hy).anti (h2.1 x hx).le
    subst e
    rw [sorted_one l m h.cons_inv h1.2 h2.2]
theorem due_take {m : List It} (h : m.Pairwise Lt) (t : Nat) : due m t = m.takeWhile fun x => decide (x.2 ≤ t) := by
  induction m with
  | nil => rfl
  | cons x m ih =>
    have h1 := List.pairwise_cons.1 h
    by_cases hx : x.2 ≤ t
    · have := ih h1.2
      unfold due at this ⊢
      simp [hx, this]
    · have e : due m t = [] := List.filter_eq_nil_iff.2 fun y hy => by
        have := h1.1 y hy
        unfold Lt at this
        simp only [decide_eq_true_eq]
        omega
      unfold due at e ⊢
      simp [hx, e]
end Go.Proofs.YtdmibolbpgondaaGreat.U12
