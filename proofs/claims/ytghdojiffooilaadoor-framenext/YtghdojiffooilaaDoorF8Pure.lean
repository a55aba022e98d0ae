/-
  Frames in plain lists: the frame of a body, the first one of any bytes, all of them.
-/
import Derived.Test.YtghdojiffooilaaDoorV01Back
import Derived.Test.YtghdojiffooilaaDoorC02LawTells
namespace Go.Proofs.YtghdojiffooilaaDoor.F08
open Go.Proofs.YtghdojiffooilaaDoor.V01 (getF nat8 vby get_put vby_len vsize_le vsize_pos vbytes vb_small vsize b8)
open Go.Proofs.YtghdojiffooilaaDoor.C02 (openF tail4 sumOf open_sealed tell_one turn turn_len sealed_rest)

theorem vby_le (n : Nat) : (vby n).length ≤ 10 := by rw [vby_len]; exact vsize_le n
theorem vby_ge (n : Nat) : 0 < (vby n).length := by rw [vby_len]; exact vsize_pos n
theorem vby_one (n : Nat) (h : n < 128) : (vby n).length = 1 := by rw [vby_len, vsize, vbytes, vb_small 9 n h]; rfl
/-- a body's frame -/
def frm (b : List UInt8) : List UInt8 := vby b.length ++ (b ++ tail4 (sumOf b))
theorem frm_len (b : List UInt8) : (frm b).length = (vby b.length).length + b.length + 4 := by simp [frm, tail4]; omega
theorem frm_le (b : List UInt8) : (frm b).length ≤ b.length + 14 := by have := vby_le b.length; rw [frm_len]; omega

/-- the first frame: its body, how many bytes it has, the error -/
def nextF (b : List UInt8) : List UInt8 × Nat × Nat :=
  if (getF 0 0 (nat8 b)).2.2 ≠ 0 then ([], 0, (getF 0 0 (nat8 b)).2.2)
  else if 65536 < (getF 0 0 (nat8 b)).1 then ([], 0, 2)
  else if b.length < (getF 0 0 (nat8 b)).2.1 + (getF 0 0 (nat8 b)).1 + 4 then ([], 0, 10)
  else ((openF ((b.drop (getF 0 0 (nat8 b)).2.1).take ((getF 0 0 (nat8 b)).1 + 4))).1, (getF 0 0 (nat8 b)).2.1 + (getF 0 0 (nat8 b)).1 + 4, (openF ((b.drop (getF 0 0 (nat8 b)).2.1).take ((getF 0 0 (nat8 b)).1 + 4))).2)
theorem next_bad {b : List UInt8} {n k e : Nat} (hg : getF 0 0 (nat8 b) = (n, k, e)) (he : e ≠ 0) : nextF b = ([], 0, e) := by
  unfold nextF; rw [hg, if_pos he]
theorem next_long {b : List UInt8} {n k : Nat} (hg : getF 0 0 (nat8 b) = (n, k, 0)) (h : 65536 < n) : nextF b = ([], 0, 2) := by
  unfold nextF; rw [hg, if_neg (by simp), if_pos h]
theorem next_short {b : List UInt8} {n k : Nat} (hg : getF 0 0 (nat8 b) = (n, k, 0)) (h : ¬ 65536 < n) (hs : b.length < k + n + 4) : nextF b = ([], 0, 10) := by
  unfold nextF; rw [hg, if_neg (by simp), if_neg h, if_pos hs]
theorem next_open {b r : List UInt8} {n k e : Nat} (hg : getF 0 0 (nat8 b) = (n, k, 0)) (h : ¬ 65536 < n) (hs : ¬ b.length < k + n + 4) (ho : openF ((b.drop k).take (n + 4)) = (r, e)) : nextF b = (r, k + n + 4, e) := by
  unfold nextF; rw [hg, if_neg (by simp), if_neg h, if_neg hs]; simp only [ho]

theorem getF_bd : ∀ (l : List Nat) (i acc n k e : Nat), getF i acc l = (n, k, e) → (e = 0 ∧ i < k ∧ k ≤ i + l.length) ∨ (k = 0 ∧ n = 0 ∧ (e = 10 ∨ e = 11))
  | [], i, acc, n, k, e, h => by
    simp only [getF, Prod.mk.injEq] at h
    omega
  | c :: l, i, acc, n, k, e, h => by
    rw [getF] at h
    split at h
    · simp only [Prod.mk.injEq] at h; omega
    · split at h
      · have := getF_bd l (i + 1) _ n k e h
        simp only [List.length_cons]
        omega
      · split at h
        · simp only [Prod.mk.injEq] at h; omega
        · simp only [Prod.mk.injEq] at h
          simp only [List.length_cons]
          omega
theorem get_bd {b : List UInt8} {n k e : Nat} (h : getF 0 0 (nat8 b) = (n, k, e)) : (e = 0 ∧ 0 < k ∧ k ≤ b.length) ∨ (k = 0 ∧ n = 0 ∧ (e = 10 ∨ e = 11)) := by
  have := getF_bd _ _ _ _ _ _ h
  rw [V01.nat8_len] at this
  omega
theorem open_two (l : List UInt8) (h : 4 ≤ l.length) : openF l = (l.take (l.length - 4), 0) ∨ openF l = ([], 12) := by
  unfold openF
  rw [if_neg (by omega)]
  split
  · exact .inl rfl
  · exact .inr rfl
/-- what may come out -/
theorem next_cases {b x : List UInt8} {n e : Nat} (h : nextF b = (x, n, e)) :
    (e = 0 ∧ 5 ≤ n ∧ n ≤ b.length ∧ x.length + 5 ≤ n) ∨ (e = 12 ∧ x = [] ∧ 5 ≤ n ∧ n ≤ b.length) ∨ ((e = 2 ∨ e = 10 ∨ e = 11) ∧ x = [] ∧ n = 0) := by
  obtain ⟨m, k, f, hg⟩ : ∃ m k f, getF 0 0 (nat8 b) = (m, k, f) := ⟨_, _, _, rfl⟩
  have hbd := get_bd hg
  by_cases hf : f = 0
  · subst hf
    by_cases hl : 65536 < m
    · rw [next_long hg hl] at h
      simp only [Prod.mk.injEq] at h
      exact .inr (.inr ⟨.inl h.2.2.symm, h.1.symm, h.2.1.symm⟩)
    · by_cases hs : b.length < k + m + 4
      · rw [next_short hg hl hs] at h
        simp only [Prod.mk.injEq] at h
        exact .inr (.inr ⟨.inr (.inl h.2.2.symm), h.1.symm, h.2.1.symm⟩)
      · have hlen : ((b.drop k).take (m + 4)).length = m + 4 := by simp; omega
        rcases open_two ((b.drop k).take (m + 4)) (by omega) with ho | ho
        · rw [next_open hg hl hs ho] at h
          simp only [Prod.mk.injEq] at h
          refine .inl ⟨h.2.2.symm, by omega, by omega, ?_⟩
          rw [← h.1, List.length_take, hlen]
          omega
        · rw [next_open hg hl hs ho] at h
          simp only [Prod.mk.injEq] at h
          exact .inr (.inl ⟨h.2.2.symm, h.1.symm, by omega, by omega⟩)
  · rw [next_bad hg hf] at h
    simp only [Prod.mk.injEq] at h
    exact .inr (.inr ⟨by omega, h.1.symm, h.2.1.symm⟩)
/-- what is wrapped is the first one -/
theorem next_frm (b rest : List UInt8) (h : b.length ≤ 65536) : nextF (frm b ++ rest) = (b, (frm b).length, 0) := by
  have e : frm b ++ rest = vby b.length ++ ((b ++ tail4 (sumOf b)) ++ rest) := by simp [frm]
  have hg : getF 0 0 (nat8 (frm b ++ rest)) = (b.length, (vby b.length).length, 0) := by rw [e]; exact get_put (by omega) _
  have hl : (b ++ tail4 (sumOf b)).length = b.length + 4 := by simp [tail4]
  rw [next_open hg (by omega) (by rw [List.length_append, frm_len]; omega) (r := b) (e := 0), frm_len]
  rw [e, List.drop_left, ← hl, List.take_left]
  exact open_sealed b _ rfl
theorem turn_app (a b : List UInt8) (j r : Nat) : turn (a ++ b) (a.length + j) r = a ++ turn b j r := by
  unfold turn
  rw [List.set_append_right _ _ (by omega)]
  simp [List.getD_eq_getElem?_getD, List.getElem?_append_right]
theorem turn_left (a b : List UInt8) (j r : Nat) (h : j < a.length) : turn (a ++ b) j r = turn a j r ++ b := by
  unfold turn
  rw [List.set_append_left _ _ h]
  simp [List.getD_eq_getElem?_getD, List.getElem?_append_left h]
/-- one bit behind its length turned, it is told -/
theorem next_turned (b rest : List UInt8) (j r : Nat) (h : b.length < 128) (hj : j < b.length + 4) (hr : r < 8) : nextF (turn (frm b) (1 + j) r ++ rest) = ([], (frm b).length, 12) := by
  have h1 := vby_one b.length h
  have hl : (turn (b ++ tail4 (sumOf b)) j r).length = b.length + 4 := by rw [turn_len]; simp [tail4]
  have e : turn (frm b) (1 + j) r ++ rest = vby b.length ++ (turn (b ++ tail4 (sumOf b)) j r ++ rest) := by
    unfold frm
    rw [← h1, turn_app, List.append_assoc]
  have hg : getF 0 0 (nat8 (turn (frm b) (1 + j) r ++ rest)) = (b.length, (vby b.length).length, 0) := by rw [e]; exact get_put (by omega) _
  rw [next_open hg (by omega) (by rw [List.length_append, turn_len, frm_len]; omega) (r := []) (e := 12), frm_len]
  rw [e, List.drop_left, ← hl, List.take_left]
  exact tell_one _ j r _ rfl (by simp [tail4]; omega) hr (by simp [tail4]) (sealed_rest b)

/-- all frames of some bytes -/
def allG : Nat → List UInt8 → List (List UInt8) × Nat × Nat
  | 0, _ => ([], 0, 0)
  | f + 1, b =>
    if (nextF b).2.2 = 0 then ((nextF b).1 :: (allG f (b.drop (nextF b).2.1)).1, (allG f (b.drop (nextF b).2.1)).2.1, (nextF b).2.1 + (allG f (b.drop (nextF b).2.1)).2.2)
    else if (nextF b).2.2 = 12 then ((allG f (b.drop (nextF b).2.1)).1, 1 + (allG f (b.drop (nextF b).2.1)).2.1, (nextF b).2.1 + (allG f (b.drop (nextF b).2.1)).2.2)
    else ([], 0, 0)
def allF (b : List UInt8) : List (List UInt8) × Nat × Nat := allG b.length b
theorem next_nil : nextF [] = ([], 0, 10) := by decide
theorem allG_fuel : ∀ (f g : Nat) (b : List UInt8), b.length ≤ f → b.length ≤ g → allG f b = allG g b
  | 0, 0, _, _, _ => rfl
  | 0, g + 1, b, h, _ => by
    have : b = [] := List.eq_nil_of_length_eq_zero (by omega)
    subst this
    simp [allG, next_nil]
  | f + 1, 0, b, _, h => by
    have : b = [] := List.eq_nil_of_length_eq_zero (by omega)
    subst this
    simp [allG, next_nil]
  | f + 1, g + 1, b, hf, hg => by
    obtain ⟨x, n, e, hn⟩ : ∃ x n e, nextF b = (x, n, e) := ⟨_, _, _, rfl⟩
    have hc := next_cases hn
    simp only [allG, hn]
    by_cases h0 : e = 0
    · rw [allG_fuel f g (b.drop n) (by simp; omega) (by simp; omega)]
    · by_cases h1 : e = 12
      · rw [allG_fuel f g (b.drop n) (by simp; omega) (by simp; omega)]
      · rw [if_neg h0, if_neg h1, if_neg h0, if_neg h1]
theorem all_right {b x : List UInt8} {n : Nat} (h : nextF b = (x, n, 0)) : allF b = (x :: (allF (b.drop n)).1, (allF (b.drop n)).2.1, n + (allF (b.drop n)).2.2) := by
  have hc := next_cases h
  have e : allF b = allG (b.length + 1) b := allG_fuel _ _ b (Nat.le_refl _) (by omega)
  have e2 : allG b.length (b.drop n) = allF (b.drop n) := allG_fuel _ _ _ (by simp) (Nat.le_refl _)
  rw [e, allG, h]
  simp only [if_true, e2]
theorem all_spoilt {b x : List UInt8} {n : Nat} (h : nextF b = (x, n, 12)) : allF b = ((allF (b.drop n)).1, 1 + (allF (b.drop n)).2.1, n + (allF (b.drop n)).2.2) := by
  have e : allF b = allG (b.length + 1) b := allG_fuel _ _ b (Nat.le_refl _) (by omega)
  have e2 : allG b.length (b.drop n) = allF (b.drop n) := allG_fuel _ _ _ (by simp) (Nat.le_refl _)
  rw [e, allG, h]
  simp [e2]
theorem all_stop {b x : List UInt8} {n e : Nat} (h : nextF b = (x, n, e)) (h0 : e ≠ 0) (h1 : e ≠ 12) : allF b = ([], 0, 0) := by
  have e' : allF b = allG (b.length + 1) b := allG_fuel _ _ b (Nat.le_refl _) (by omega)
  rw [e', allG, h]
  simp [h0, h1]
theorem all_nil : allF [] = ([], 0, 0) := rfl

/-- where a walk through the frames is -/
structure AllRel (b : List UInt8) (k : Nat) (L : List (List UInt8)) (s : Nat) : Prop where
  le : k ≤ b.length
  sle : s ≤ k
  lle : L.length ≤ k
  each : ∀ x ∈ L, x.length ≤ b.length
  eq : allF b = (L ++ (allF (b.drop k)).1, s + (allF (b.drop k)).2.1, k + (allF (b.drop k)).2.2)
theorem AllRel.start (b : List UInt8) : AllRel b 0 [] 0 := ⟨Nat.zero_le _, Nat.le_refl _, Nat.le_refl _, by simp, by simp⟩
theorem AllRel.right {b x : List UInt8} {k n s : Nat} {L : List (List UInt8)} (h : AllRel b k L s) (hn : nextF (b.drop k) = (x, n, 0)) : AllRel b (k + n) (L ++ [x]) s := by
  have hc := next_cases hn
  have hl := h.le
  have h1 := h.sle
  have h2 := h.lle
  simp only [List.length_drop] at hc
  refine ⟨by omega, by omega, by simp; omega, fun y hy => ?_, ?_⟩
  · rcases List.mem_append.1 hy with hy | hy
    · exact h.each y hy
    · simp only [List.mem_singleton] at hy
      subst hy
      omega
  · rw [h.eq, all_right hn, List.drop_drop]
    simp [Nat.add_assoc]
theorem AllRel.spoilt {b x : List UInt8} {k n s : Nat} {L : List (List UInt8)} (h : AllRel b k L s) (hn : nextF (b.drop k) = (x, n, 12)) : AllRel b (k + n) L (s + 1) := by
  have hc := next_cases hn
  have hl := h.le
  have h1 := h.sle
  have h2 := h.lle
  simp only [List.length_drop] at hc
  refine ⟨by omega, by omega, by omega, h.each, ?_⟩
  rw [h.eq, all_spoilt hn, List.drop_drop]
  simp [Nat.add_assoc]
theorem AllRel.stop {b x : List UInt8} {k n e s : Nat} {L : List (List UInt8)} (h : AllRel b k L s) (hn : nextF (b.drop k) = (x, n, e)) (h0 : e ≠ 0) (h1 : e ≠ 12) : allF b = (L, s, k) := by
  rw [h.eq, all_stop hn h0 h1]
  simp
theorem AllRel.fin {b : List UInt8} {k s : Nat} {L : List (List UInt8)} (h : AllRel b k L s) (hk : ¬ k < b.length) : allF b = (L, s, k) := by
  have : b.drop k = [] := List.drop_eq_nil_of_le (by omega)
  rw [h.eq, this, all_nil]
  simp

/-- many frames one behind the other -/
def cat (L : List (List UInt8)) : List UInt8 := L.flatMap frm
theorem cat_nil : cat [] = [] := rfl
theorem cat_cons (x : List UInt8) (L : List (List UInt8)) : cat (x :: L) = frm x ++ cat L := by simp [cat]
theorem cat_app (L M : List (List UInt8)) : cat (L ++ M) = cat L ++ cat M := by simp [cat]
theorem cat_take (L : List (List UInt8)) (k : Nat) (h : k < L.length) : cat (L.take (k + 1)) = cat (L.take k) ++ frm L[k] := by
  rw [List.take_add_one, List.getElem?_eq_getElem h, cat_app]
  simp [cat]
theorem cat_len (m : Nat) : ∀ (L : List (List UInt8)), (∀ x ∈ L, x.length ≤ m) → (cat L).length ≤ L.length * (m + 14)
  | [], _ => by simp [cat]
  | x :: L, h => by
    have h1 := cat_len m L fun y hy => h y (by simp [hy])
    have h2 := h x (by simp)
    have h3 := frm_le x
    rw [cat_cons]
    simp only [List.length_append, List.length_cons, Nat.add_mul]
    omega
/-- whole frames, and any bytes behind them -/
theorem all_cat : ∀ (L : List (List UInt8)) (rest : List UInt8), (∀ x ∈ L, x.length ≤ 65536) → allF (cat L ++ rest) = (L ++ (allF rest).1, (allF rest).2.1, (cat L).length + (allF rest).2.2)
  | [], rest, _ => by simp [cat]
  | x :: L, rest, h => by
    have ih := all_cat L rest fun y hy => h y (by simp [hy])
    have hn := next_frm x (cat L ++ rest) (h x (by simp))
    have e : cat (x :: L) ++ rest = frm x ++ (cat L ++ rest) := by simp [cat]
    rw [e, all_right hn, List.drop_left, ih, cat_cons]
    simp [Nat.add_assoc]
theorem all_whole (L : List (List UInt8)) (h : ∀ x ∈ L, x.length ≤ 65536) : allF (cat L) = (L, 0, (cat L).length) := by
  have := all_cat L [] h
  rw [all_nil] at this
  simpa using this
/-- one of them spoilt -/
theorem all_turned (L : List (List UInt8)) (k j r : Nat) (hk : k < L.length) (h : ∀ x ∈ L, x.length < 128) (hj : j < L[k].length + 4) (hr : r < 8) :
    allF (turn (cat L) ((cat (L.take k)).length + 1 + j) r) = (L.take k ++ L.drop (k + 1), 1, (cat L).length) := by
  have hf : 1 + j < (frm L[k]).length := by have := vby_ge L[k].length; rw [frm_len]; omega
  have e : cat L = cat (L.take k) ++ (frm L[k] ++ cat (L.drop (k + 1))) := by
    conv => lhs; rw [← List.take_append_drop k L, cat_app, List.drop_eq_getElem_cons hk, cat_cons]
  have h1 : ∀ x ∈ L.take k, x.length ≤ 65536 := fun x hx => by have := h x (List.mem_of_mem_take hx); omega
  have h2 : ∀ x ∈ L.drop (k + 1), x.length ≤ 65536 := fun x hx => by have := h x (List.mem_of_mem_drop hx); omega
  have hn := next_turned L[k] (cat (L.drop (k + 1))) j r (h _ (List.getElem_mem hk)) hj hr
  conv => lhs; rw [e]
  rw [Nat.add_assoc, turn_app, turn_left _ _ _ _ hf, all_cat _ _ h1, all_spoilt hn]
  have hd : (turn (frm L[k]) (1 + j) r ++ cat (L.drop (k + 1))).drop (frm L[k]).length = cat (L.drop (k + 1)) := by
    conv => lhs; rw [← turn_len (frm L[k]) (1 + j) r]
    exact List.drop_left
  rw [hd, all_whole _ h2]
  conv => rhs; rw [e]
  simp
end Go.Proofs.YtghdojiffooilaaDoor.F08
