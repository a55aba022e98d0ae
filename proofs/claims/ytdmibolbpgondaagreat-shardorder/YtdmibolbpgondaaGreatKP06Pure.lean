/-
  Lists in order by a key, equals in the order in which they came: what is the same for every such sort. Nothing of the program.
-/
namespace Go.Proofs.YtdmibolbpgondaaGreat.P06

/-- an order of keys -/
structure Ord {β : Type} (le : β → β → Prop) : Prop where
  total : ∀ x y, le x y ∨ le y x
  trans : ∀ x y z, le x y → le y z → le x z
  anti : ∀ x y, le x y → le y x → x = y

variable {α β : Type} {le : β → β → Prop} {key : α → β}

/-- in order -/
def Sd (le : β → β → Prop) (key : α → β) (l : List α) : Prop := l.Pairwise fun x y => le (key x) (key y)
theorem Sd.app {a b : List α} (ha : Sd le key a) (hb : Sd le key b) (h : ∀ x ∈ a, ∀ y ∈ b, le (key x) (key y)) : Sd le key (a ++ b) := List.pairwise_append.2 ⟨ha, hb, h⟩
theorem Sd.left {a b : List α} (h : Sd le key (a ++ b)) : Sd le key a := (List.pairwise_append.1 h).1
theorem Sd.right {a b : List α} (h : Sd le key (a ++ b)) : Sd le key b := (List.pairwise_append.1 h).2.1
theorem Sd.across {a b : List α} (h : Sd le key (a ++ b)) : ∀ x ∈ a, ∀ y ∈ b, le (key x) (key y) := (List.pairwise_append.1 h).2.2
theorem Sd.one (x : α) : Sd le key [x] := List.pairwise_singleton _ _
theorem Sd.nil : Sd le key ([] : List α) := List.Pairwise.nil
theorem Sd.get {l : List α} (h : Sd le key l) (O : Ord le) {i j : Nat} (hij : i ≤ j) (hj : j < l.length) : le (key (l[i]'(by omega))) (key l[j]) := by
  rcases Nat.lt_or_ge i j with hlt | hge
  · exact List.pairwise_iff_getElem.1 h i j (by omega) hj hlt
  · have : i = j := by omega
    subst this
    rcases O.total (key l[i]) (key l[i]) with h | h <;> exact h

variable [DecidableEq β]
/-- of each key the same ones, in the same order -/
def Fe (key : α → β) (l m : List α) : Prop := ∀ k, (l.filter fun x => decide (key x = k)) = m.filter fun x => decide (key x = k)

theorem Fe.refl (l : List α) : Fe key l l := fun _ => rfl
theorem Fe.symm {l m : List α} (h : Fe key l m) : Fe key m l := fun k => (h k).symm
theorem Fe.trans {l m n : List α} (h : Fe key l m) (h' : Fe key m n) : Fe key l n := fun k => (h k).trans (h' k)
theorem Fe.app {a a' b b' : List α} (h : Fe key a a') (h' : Fe key b b') : Fe key (a ++ b) (a' ++ b') := fun k => by
  rw [List.filter_append, List.filter_append, h k, h' k]
theorem Fe.mem {l m : List α} (h : Fe key l m) {x : α} (hx : x ∈ l) : x ∈ m := by
  have h1 : x ∈ l.filter fun y => decide (key y = key x) := List.mem_filter.2 ⟨hx, by simp⟩
  rw [h] at h1
  exact (List.mem_filter.1 h1).1
theorem filter_none {l : List α} {k : β} (h : ∀ x ∈ l, key x ≠ k) : (l.filter fun x => decide (key x = k)) = [] := by
  rw [List.filter_eq_nil_iff]
  intro x hx
  simpa using h x hx
theorem Fe.swap {a b : List α} (h : ∀ x ∈ a, ∀ y ∈ b, key x ≠ key y) : Fe key (a ++ b) (b ++ a) := fun k => by
  rw [List.filter_append, List.filter_append]
  by_cases ha : ∃ x ∈ a, key x = k
  · obtain ⟨x, hx, rfl⟩ := ha
    rw [filter_none (l := b) fun y hy e => h x hx y hy e.symm]
    simp
  · rw [filter_none (l := a) fun x hx e => ha ⟨x, hx, e⟩]
    simp
/-- one that is told apart from all of these may stand behind or ahead of them -/
theorem Fe.past {x : α} {a : List α} (h : ∀ y ∈ a, key x ≠ key y) : Fe key (x :: a) (a ++ [x]) := by
  have := Fe.swap (key := key) (a := [x]) (b := a) fun z hz y hy => by simp only [List.mem_singleton] at hz; subst hz; exact h y hy
  simpa using this

/-- there is one such list -/
theorem uniq (O : Ord le) : ∀ (l m : List α), Sd le key l → Sd le key m → Fe key l m → l = m
  | [], [], _, _, _ => rfl
  | [], y :: m, _, _, h => by have := (Fe.symm h).mem (x := y) (by simp); cases this
  | x :: l, [], _, _, h => by have := h.mem (x := x) (by simp); cases this
  | x :: l, y :: m, hl, hm, h => by
    have hx : x ∈ y :: m := h.mem (by simp)
    have hy : y ∈ x :: l := h.symm.mem (by simp)
    have refl : ∀ z : β, le z z := fun z => by rcases O.total z z with h | h <;> exact h
    have h1 : le (key x) (key y) := by
      rcases List.mem_cons.1 hy with e | e
      · rw [e]; exact refl _
      · exact (List.pairwise_cons.1 hl).1 y e
    have h2 : le (key y) (key x) := by
      rcases List.mem_cons.1 hx with e | e
      · rw [e]; exact refl _
      · exact (List.pairwise_cons.1 hm).1 x e
    have hk : key x = key y := O.anti _ _ h1 h2
    have hh := h (key x)
    rw [List.filter_cons_of_pos (by simp), List.filter_cons_of_pos (by simp [hk])] at hh
    injection hh with e1 e2
    subst e1
    congr 1
    refine uniq O l m (List.pairwise_cons.1 hl).2 (List.pairwise_cons.1 hm).2 fun k => ?_
    have := h k
    by_cases hq : key x = k
    · rw [List.filter_cons_of_pos (by simpa using hq), List.filter_cons_of_pos (by simpa using hq)] at this
      injection this
    · rw [List.filter_cons_of_neg (by simpa using hq), List.filter_cons_of_neg (by simpa using hq)] at this
      exact this

/-- what is put in its place, behind its equals -/
theorem put_in (O : Ord le) {a b : List α} {x : α} (hs : Sd le key (a ++ b)) (ha : ∀ y ∈ a, le (key y) (key x)) (hb : ∀ y ∈ b, ¬ le (key y) (key x)) : Sd le key (a ++ x :: b) ∧ Fe key (a ++ b ++ [x]) (a ++ x :: b) := by
  refine ⟨Sd.app hs.left (List.pairwise_cons.2 ⟨fun y hy => ?_, hs.right⟩) fun z hz y hy => ?_, ?_⟩
  · rcases O.total (key x) (key y) with h | h
    · exact h
    · exact absurd h (hb y hy)
  · rcases List.mem_cons.1 hy with e | e
    · rw [e]; exact ha z hz
    · exact hs.across z hz y e
  · rw [List.append_assoc]
    refine Fe.app (Fe.refl _) (Fe.past fun y hy e => hb y hy ?_).symm
    rw [e]
    rcases O.total (key y) (key y) with h | h <;> exact h
/-- what is put in its place, ahead of its equals -/
theorem put_front (O : Ord le) {a b : List α} {x : α} (hs : Sd le key (a ++ b)) (ha : ∀ y ∈ a, ¬ le (key x) (key y)) (hb : ∀ y ∈ b, le (key x) (key y)) : Sd le key (a ++ x :: b) ∧ Fe key (x :: (a ++ b)) (a ++ x :: b) := by
  refine ⟨Sd.app hs.left (List.pairwise_cons.2 ⟨hb, hs.right⟩) fun z hz y hy => ?_, ?_⟩
  · rcases List.mem_cons.1 hy with e | e
    · rw [e]
      rcases O.total (key z) (key x) with h | h
      · exact h
      · exact absurd h (ha z hz)
    · exact hs.across z hz y e
  · have h1 : Fe key (x :: a) (a ++ [x]) := Fe.past fun y hy e => ha y hy (by rw [e]; rcases O.total (key y) (key y) with h | h <;> exact h)
    have := h1.app (Fe.refl (key := key) b)
    simpa using this
/-- two halves of a merge, of which one is not above the other, merged each -/
theorem halves {a1 a2 b1 b2 y1 y2 : List α} (O : Ord le) (ha : Sd le key (a1 ++ a2)) (hb : Sd le key (b1 ++ b2)) (h12 : ∀ x ∈ a1, ∀ y ∈ b2, le (key x) (key y)) (h21 : ∀ x ∈ a2, ∀ y ∈ b1, ¬ le (key x) (key y))
    (s1 : Sd le key y1) (f1 : Fe key (a1 ++ b1) y1) (s2 : Sd le key y2) (f2 : Fe key (a2 ++ b2) y2) : Sd le key (y1 ++ y2) ∧ Fe key ((a1 ++ a2) ++ (b1 ++ b2)) (y1 ++ y2) := by
  refine ⟨Sd.app s1 s2 fun x hx y hy => ?_, ?_⟩
  · have hx' := f1.symm.mem hx
    have hy' := f2.symm.mem hy
    rcases List.mem_append.1 hx' with hx' | hx' <;> rcases List.mem_append.1 hy' with hy' | hy'
    · exact ha.across x hx' y hy'
    · exact h12 x hx' y hy'
    · rcases O.total (key x) (key y) with h | h
      · exact h
      · exact absurd h (h21 y hy' x hx')
    · exact hb.across x hx' y hy'
  · have hs : Fe key (a2 ++ b1) (b1 ++ a2) := Fe.swap fun x hx y hy e => h21 x hx y hy (by rw [e]; rcases O.total (key y) (key y) with h | h <;> exact h)
    have h1 : Fe key ((a1 ++ a2) ++ (b1 ++ b2)) ((a1 ++ b1) ++ (a2 ++ b2)) := by
      have := ((Fe.refl (key := key) a1).app hs).app (Fe.refl (key := key) b2)
      simpa [List.append_assoc] using this
    exact h1.trans (f1.app f2)
end Go.Proofs.YtdmibolbpgondaaGreat.P06
