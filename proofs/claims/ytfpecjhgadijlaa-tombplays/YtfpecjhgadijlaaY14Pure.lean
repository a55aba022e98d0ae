/-
  The yard in plain words: what is remembered when one more is over; the greatest M of a list in order.
-/
import Derived.Test.YtfpecjhgadijlaaU12Pure
set_option linter.unusedSimpArgs false
set_option linter.unusedVariables false
namespace Go.Proofs.Ytfpecjhgadijlaa.Y14
open Go.Proofs.Ytfpecjhgadijlaa.U12

theorem putm_len (m : List It) (x : It) : (putm m x).length ≤ m.length + 1 := by
  rw [(putm_perm m x).length_eq]
  have := List.length_filter_le (fun y : It => decide (y.1 ≠ x.1)) m
  unfold dropm
  simp only [List.length_cons]
  omega
theorem dropm_head {x : It} {m : List It} (h : ((x :: m).map (·.1)).Nodup) : dropm (x :: m) x.1 = m := by
  have hn := List.nodup_cons.1 (show (x.1 :: m.map (·.1)).Nodup from h)
  have := dropm_out (m := m) (id := x.1) fun z hz e => hn.1 (e ▸ List.mem_map_of_mem hz)
  simpa [dropm] using this
theorem putm_mem (m : List It) (x : It) : x ∈ putm m x := (putm_perm m x).mem_iff.2 (List.mem_cons_self ..)
theorem mem_putm {m : List It} {x y : It} (h : y ∈ putm m x) : y = x ∨ (y ∈ m ∧ y.1 ≠ x.1) := by
  rcases List.mem_cons.1 ((putm_perm m x).mem_iff.1 h) with h | h
  · exact .inl h
  · exact .inr (mem_dropm.1 h)

/-- what a yard of at most M remembers -/
def yput (m : List It) (x : It) (M : Nat) : List It := if (putm m x).length ≤ M then putm m x else (putm m x).tail
def yid (m : List It) (x : It) (M : Nat) : Nat := if (putm m x).length ≤ M then 0 else ((putm m x).headD (0, 0)).1
def yis (m : List It) (x : It) (M : Nat) : Bool := decide (M < (putm m x).length)
theorem yput_room {m : List It} {x : It} {M : Nat} (h : (putm m x).length ≤ M) : yput m x M = putm m x ∧ yid m x M = 0 ∧ yis m x M = false := by
  unfold yput yid yis
  rw [if_pos h, if_pos h]
  exact ⟨rfl, rfl, decide_eq_false (by omega)⟩
theorem yput_full {m t : List It} {x y : It} {M : Nat} (e : putm m x = y :: t) (h : M < (putm m x).length) : yput m x M = t ∧ yid m x M = y.1 ∧ yis m x M = true := by
  unfold yput yid yis
  rw [if_neg (by omega), if_neg (by omega)]
  refine ⟨by rw [e]; rfl, by rw [e]; rfl, decide_eq_true h⟩
theorem yput_sub {m : List It} {x y : It} {M : Nat} (h : y ∈ yput m x M) : y ∈ putm m x := by
  unfold yput at h
  split at h
  · exact h
  · exact List.mem_of_mem_tail h
theorem yput_len {m : List It} {x : It} {M : Nat} (h : m.length ≤ M) : (yput m x M).length ≤ M := by
  have := putm_len m x
  unfold yput
  split
  · assumption
  · rw [List.length_tail]; omega
theorem yput_le (m : List It) (x : It) (M : Nat) : (yput m x M).length ≤ m.length + 1 := by
  have := putm_len m x
  unfold yput
  split
  · exact this
  · rw [List.length_tail]; omega
theorem yput_sorted {m : List It} (h : m.Pairwise Lt) (x : It) (M : Nat) : (yput m x M).Pairwise Lt := by
  have := putm_sorted h x
  unfold yput
  split
  · exact this
  · exact this.sublist (List.tail_sublist _)
theorem yput_nodup {m : List It} (h : (m.map (·.1)).Nodup) (x : It) (M : Nat) : ((yput m x M).map (·.1)).Nodup := by
  have := putm_nodup h x
  unfold yput
  split
  · exact this
  · exact ((List.tail_sublist _).map _).nodup this

/-- who comes with a time above all others is remembered, where somebody may be -/
theorem yput_last {m : List It} (hs : m.Pairwise Lt) (hn : (m.map (·.1)).Nodup) {x : It} {M : Nat} (hM : 0 < M) (hlt : ∀ y ∈ m, y.2 < x.2) : x ∈ yput m x M ∧ (yis m x M = true → yid m x M ≠ x.1) := by
  by_cases h : (putm m x).length ≤ M
  · obtain ⟨e1, _, e3⟩ := yput_room h
    rw [e1, e3]
    exact ⟨putm_mem m x, fun h => by cases h⟩
  · have hs2 := putm_sorted hs x
    have hn2 := putm_nodup hn x
    have hx := putm_mem m x
    cases e : putm m x with
    | nil => rw [e] at h; simp at h
    | cons y t =>
      obtain ⟨e1, e2, _⟩ := yput_full (M := M) e (by omega)
      rw [e] at hs2 hn2 hx h
      have hne : y ≠ x := fun ey => by
        subst ey
        cases t with
        | nil => simp at h; omega
        | cons z t =>
          have h1 := (List.pairwise_cons.1 hs2).1 z (List.mem_cons_self ..)
          rcases mem_putm (m := m) (x := y) (y := z) (by rw [e]; simp) with h2 | ⟨h2, _⟩
          · subst h2; exact Lt.irrefl _ h1
          · have := hlt z h2
            unfold Lt at h1
            omega
      rw [e1, e2]
      refine ⟨(List.mem_cons.1 hx).resolve_left (Ne.symm hne), fun _ e4 => hne (nodup_ids hn2 (List.mem_cons_self ..) hx e4)⟩

/-- the greatest M of a list in order -/
def keep (M : Nat) (s : List It) : List It := s.drop (s.length - M)
theorem keep_len (M : Nat) (s : List It) : (keep M s).length = min M s.length := by unfold keep; rw [List.length_drop]; omega
theorem keep_more {M N : Nat} {s : List It} {x : It} (h : x ∈ keep M s) : x ∈ keep (M + N) s := by
  unfold keep at *
  have e : s.length - M = (s.length - (M + N)) + (s.length - M - (s.length - (M + N))) := by omega
  rw [e, ← List.drop_drop] at h
  exact List.mem_of_mem_drop h
theorem insm_not {x : It} : ∀ {b : List It}, (∀ z ∈ b, ¬ Lt z x) → insm b x = x :: b
  | [], _ => rfl
  | z :: b, h => by
    have := h z (List.mem_cons_self ..)
    simp [insm, this]
theorem insm_drop (x : It) (b : List It) : ∀ a : List It, (a ++ b).Pairwise Lt → (insm (a ++ b) x).drop (a.length + 1) = (insm b x).tail
  | [], _ => by simp
  | y :: a, h => by
    have h1 := List.pairwise_cons.1 (show (y :: (a ++ b)).Pairwise Lt from h)
    by_cases hl : Lt y x
    · have e : insm (y :: (a ++ b)) x = y :: insm (a ++ b) x := by simp [insm, hl]
      rw [List.cons_append, e]
      simpa using insm_drop x b a h1.2
    · have e : insm (y :: (a ++ b)) x = x :: y :: (a ++ b) := by simp [insm, hl]
      rw [List.cons_append, e]
      have hb : ∀ z ∈ b, ¬ Lt z x := fun z hz hzx => by
        have := h1.1 z (List.mem_append_right _ hz)
        exact hl (this.trans hzx)
      rw [insm_not hb]
      simp
theorem insm_len (m : List It) (x : It) : (insm m x).length = m.length + 1 := by rw [(insm_perm m x).length_eq]; rfl
/-- one more is over -/
theorem keep_put {M : Nat} {s : List It} {x : It} (hs : s.Pairwise Lt) (hx : ∀ y ∈ s, y.1 ≠ x.1) : yput (keep M s) x M = keep M (putm s x) := by
  have hk : ∀ y ∈ keep M s, y.1 ≠ x.1 := fun y hy => hx y (List.mem_of_mem_drop hy)
  have e1 : putm s x = insm s x := by unfold putm; rw [dropm_out hx]
  have e2 : putm (keep M s) x = insm (keep M s) x := by unfold putm; rw [dropm_out hk]
  unfold yput
  rw [e1, e2, insm_len, keep_len]
  by_cases h : s.length < M
  · rw [if_pos (by omega)]
    have a1 : s.length - M = 0 := by omega
    have a2 : (insm s x).length - M = 0 := by rw [insm_len]; omega
    unfold keep
    rw [a1, a2]
    rfl
  · rw [if_neg (by omega)]
    have hd := insm_drop x (keep M s) (s.take (s.length - M)) (by unfold keep; rw [List.take_append_drop]; exact hs)
    have hl : (s.take (s.length - M)).length = s.length - M := by rw [List.length_take]; omega
    have e3 : s.take (s.length - M) ++ keep M s = s := by unfold keep; rw [List.take_append_drop]
    rw [hl, e3] at hd
    rw [← hd]
    show _ = (insm s x).drop ((insm s x).length - M)
    rw [insm_len, show s.length + 1 - M = s.length - M + 1 by omega]

/-- all of a list, in order -/
def al (l : List It) : List It := l.foldl putm []
theorem al_step (l : List It) (x : It) : al (l ++ [x]) = putm (al l) x := by unfold al; rw [List.foldl_append]; rfl
theorem al_sorted (l : List It) : (al l).Pairwise Lt := by
  suffices h : ∀ (l s : List It), s.Pairwise Lt → (l.foldl putm s).Pairwise Lt from h l [] List.Pairwise.nil
  intro l
  induction l with
  | nil => exact fun s h => h
  | cons a l ih => exact fun s h => ih _ (putm_sorted h a)
theorem al_perm : ∀ (l s : List It), ((s ++ l).map (·.1)).Nodup → (l.foldl putm s).Perm (s ++ l)
  | [], s, _ => by simp
  | a :: l, s, h => by
    have hp : (putm s a ++ l).Perm (s ++ a :: l) := by
      have ho : ∀ y ∈ s, y.1 ≠ a.1 := fun y hy e => by
        rw [List.map_append, List.map_cons] at h
        have := (List.nodup_append.1 h).2.2 y.1 (List.mem_map_of_mem hy) a.1 (List.mem_cons_self ..)
        exact this e
      have h1 := putm_perm s a
      rw [dropm_out ho] at h1
      exact (h1.append_right l).trans List.perm_middle.symm
    exact (al_perm l (putm s a) ((hp.map _).nodup_iff.2 h)).trans hp
theorem al_of {l : List It} (h : (l.map (·.1)).Nodup) : (al l).Perm l := by unfold al; simpa using al_perm l [] (by simpa using h)
theorem sorted_same : ∀ {a b : List It}, a.Pairwise Lt → b.Pairwise Lt → a.Perm b → a = b
  | [], b, _, _, h => h.nil_eq
  | x :: a, [], _, _, h => absurd h.length_eq (by simp)
  | x :: a, y :: b, ha, hb, h => by
    have h1 := List.pairwise_cons.1 ha
    have h2 := List.pairwise_cons.1 hb
    have e : x = y := by
      rcases List.mem_cons.1 (h.mem_iff.1 (List.mem_cons_self ..)) with e | hx
      · exact e
      · rcases List.mem_cons.1 (h.mem_iff.2 (List.mem_cons_self (a := y) (l := b))) with e | hy
        · exact e.symm
        · exact absurd ((h1.1 y hy).trans (h2.1 x hx)) (Lt.irrefl _)
    subst e
    rw [sorted_same h1.2 h2.2 h.cons_inv]
theorem al_same {l k : List It} (h : (l.map (·.1)).Nodup) (hp : l.Perm k) : al l = al k :=
  sorted_same (al_sorted l) (al_sorted k) ((al_of h).trans (hp.trans (al_of ((hp.map _).nodup_iff.1 h)).symm))
/-- the yard behind one more, by all that came -/
theorem keep_al {M : Nat} {l : List It} {x : It} (h : ((l ++ [x]).map (·.1)).Nodup) : yput (keep M (al l)) x M = keep M (al (l ++ [x])) := by
  rw [al_step]
  rw [List.map_append] at h
  have h3 := List.nodup_append.1 h
  refine keep_put (al_sorted l) fun y hy => ?_
  exact h3.2.2 y.1 (List.mem_map_of_mem ((al_of h3.1).mem_iff.1 hy)) x.1 (by simp)

/-- the other order -/
def way (n y k : Nat) : Nat := (n - 1 - k + y) % n
theorem way_lt {n : Nat} (y k : Nat) (h : 0 < n) : way n y k < n := Nat.mod_lt _ h
theorem way_way {n k : Nat} (y : Nat) (hk : k < n) : way n y (way n y k) = k := by
  unfold way
  have h1 := Nat.div_add_mod (n - 1 - k + y) n
  have h2 := Nat.mod_lt (n - 1 - k + y) (show n > 0 by omega)
  generalize (n - 1 - k + y) % n = r at *
  generalize (n - 1 - k + y) / n = q at *
  obtain ⟨z, hz⟩ : ∃ z, n * q = z := ⟨_, rfl⟩
  have e : n - 1 - r + y = k + n * q := by rw [hz] at h1 ⊢; omega
  rw [e, Nat.add_mul_mod_self_left, Nat.mod_eq_of_lt hk]
def itm (ts : List Nat) (i : Nat) : It := (i, ts.getD i 0)
/-- the first i in their order, and in the other one -/
def fA (ts : List Nat) (i : Nat) : List It := (List.range i).map (itm ts)
def fB (ts : List Nat) (y i : Nat) : List It := (List.range i).map fun k => itm ts (way ts.length y k)
theorem fA_step (ts : List Nat) (i : Nat) : fA ts (i + 1) = fA ts i ++ [itm ts i] := by simp [fA, List.range_succ]
theorem fB_step (ts : List Nat) (y i : Nat) : fB ts y (i + 1) = fB ts y i ++ [itm ts (way ts.length y i)] := by simp [fB, List.range_succ]
theorem fA_ids (ts : List Nat) (i : Nat) : ((fA ts i).map (·.1)).Nodup := by
  have e : (fA ts i).map (·.1) = List.range i := by
    unfold fA
    rw [List.map_map]
    exact List.map_id'' (fun x => rfl) _
  rw [e]
  exact List.nodup_range
theorem way_nodup {n i : Nat} (y : Nat) (h : i ≤ n) : ((List.range i).map (way n y)).Nodup := by
  rw [List.Nodup, List.pairwise_map]
  refine List.Pairwise.imp_of_mem (R := fun a b => a ≠ b) (fun {a b} ha hb hn e => hn ?_) List.nodup_range
  have ha := List.mem_range.1 ha
  have hb := List.mem_range.1 hb
  rw [← way_way y (n := n) (k := a) (by omega), e, way_way y (by omega)]
theorem fB_ids (ts : List Nat) (y : Nat) {i : Nat} (h : i ≤ ts.length) : ((fB ts y i).map (·.1)).Nodup := by
  have e : (fB ts y i).map (·.1) = (List.range i).map (way ts.length y) := by
    unfold fB
    rw [List.map_map]
    rfl
  rw [e]
  exact way_nodup y h
theorem fB_fA (ts : List Nat) (y : Nat) : (fB ts y ts.length).Perm (fA ts ts.length) := by
  have e : fB ts y ts.length = ((List.range ts.length).map (way ts.length y)).map (itm ts) := by unfold fB; rw [List.map_map]; rfl
  rw [e]
  unfold fA
  refine List.Perm.map _ ((List.perm_ext_iff_of_nodup (way_nodup y (Nat.le_refl _)) List.nodup_range).2 fun x => ?_)
  simp only [List.mem_map, List.mem_range]
  exact ⟨fun ⟨a, ha, he⟩ => he ▸ way_lt _ _ (by omega), fun hx => ⟨way ts.length y x, way_lt _ _ (by omega), way_way y hx⟩⟩
theorem ends (ts : List Nat) (y : Nat) : al (fB ts y ts.length) = al (fA ts ts.length) := al_same (fB_ids ts y (Nat.le_refl _)) (fB_fA ts y)
theorem al_len (ts : List Nat) (i : Nat) : (al (fA ts i)).length = i := by rw [(al_of (fA_ids ts i)).length_eq]; simp [fA]
theorem itm_get {ts : List Nat} {i : Nat} (h : i < ts.length) : itm ts i = (i, ts[i]) := by unfold itm; simp [h]
end Go.Proofs.Ytfpecjhgadijlaa.Y14
