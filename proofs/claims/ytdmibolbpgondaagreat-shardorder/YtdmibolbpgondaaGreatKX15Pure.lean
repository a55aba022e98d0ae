/-
  Layer 15 in plain lists: a shard's spans in order; what is put, taken, let go; its traces and deadlines.
-/
import Derived.Test.YtdmibolbpgondaaGreatKD9Least
import Derived.Test.YtdmibolbpgondaaGreatKU12Due
set_option linter.unusedVariables false
set_option linter.unusedSimpArgs false
namespace Go.Proofs.YtdmibolbpgondaaGreat.X15
open Go.Lib Go.Proofs.YtdmibolbpgondaaGreat.P06 Go.Proofs.YtdmibolbpgondaaGreat.D09
open Go.Proofs.YtdmibolbpgondaaGreat.B07 (Pn OkN OkA OkP)
open Go.Proofs.YtdmibolbpgondaaGreat.U12 (It Lt Le putm dropm insm)

/-- how large -/
def szA : List At → Nat
  | [] => 0
  | a :: l => 16 + a.key.size + a.S.size + szA l
def sz (x : Pn) : Nat := 64 + x.1.sv.size + x.1.nm.size + szA x.2
theorem szA_app (l m : List At) : szA (l ++ m) = szA l + szA m := by
  induction l with
  | nil => simp [szA]
  | cons a l ih => simp [szA, ih]; omega
theorem szA_take {l : List At} {k : Nat} (h : k < l.length) : szA (l.take (k + 1)) = szA (l.take k) + (16 + l[k].key.size + l[k].S.size) := by
  rw [List.take_succ_eq_append_getElem h, szA_app]
  simp [szA]
def held : List Pn → Nat
  | [] => 0
  | x :: L => sz x + held L
theorem held_app (L M : List Pn) : held (L ++ M) = held L + held M := by
  induction L with
  | nil => simp [held]
  | cons a l ih => simp [held, ih]; omega
theorem held_perm {L M : List Pn} (h : L.Perm M) : held L = held M := by
  induction h with
  | nil => rfl
  | cons x _ ih => simp [held, ih]
  | swap x y l => simp [held]; omega
  | trans _ _ h1 h2 => exact h1.trans h2
theorem held_take {L : List Pn} {k : Nat} (h : k < L.length) : held (L.take (k + 1)) = held (L.take k) + sz L[k] := by
  rw [List.take_succ_eq_append_getElem h, held_app]
  simp [held]
theorem filter_perm {α : Type} (p : α → Bool) : ∀ L : List α, L.Perm (L.filter p ++ L.filter fun x => !p x)
  | [] => List.Perm.refl _
  | x :: L => by
    have ih := filter_perm p L
    cases h : p x
    · simp only [List.filter_cons, h, Bool.not_false, if_true]
      exact (ih.cons x).trans List.perm_middle.symm
    · simp only [List.filter_cons, h, Bool.not_true, if_true]
      exact ih.cons x

/-- by trace and ID -/
def Kl (x y : Pn) : Prop := x.1.T < y.1.T ∨ (x.1.T = y.1.T ∧ x.1.I < y.1.I)
def Ke (x y : Pn) : Prop := x.1.T = y.1.T ∧ x.1.I = y.1.I
instance (x y : Pn) : Decidable (Kl x y) := by unfold Kl; infer_instance
instance (x y : Pn) : Decidable (Ke x y) := by unfold Ke; infer_instance
theorem Kl.trans {x y z : Pn} (h : Kl x y) (k : Kl y z) : Kl x z := by unfold Kl at *; omega
theorem Kl.not {x y : Pn} (h : Kl x y) : ¬ Ke x y := by unfold Kl at h; unfold Ke; omega
theorem Kl.not' {x y : Pn} (h : Kl x y) : ¬ Ke y x := by unfold Kl at h; unfold Ke; omega
theorem Kl.anti {x y : Pn} (h : Kl x y) : ¬ Kl y x := by unfold Kl at *; omega
theorem kl_irrefl (x : Pn) : ¬ Kl x x := by unfold Kl; omega
theorem ke_refl (x : Pn) : Ke x x := ⟨rfl, rfl⟩
theorem Ke.symm {x y : Pn} (h : Ke x y) : Ke y x := ⟨h.1.symm, h.2.symm⟩
theorem Ke.trans {x y z : Pn} (h : Ke x y) (k : Ke y z) : Ke x z := ⟨h.1.trans k.1, h.2.trans k.2⟩
theorem kl_total {x y : Pn} (h : ¬ Ke x y) : Kl x y ∨ Kl y x := by unfold Ke at h; unfold Kl; omega
theorem cp_lt {x y : Pn} (h : Kl x y) : cp x y < 0 := by
  unfold cp cmpS
  have e : orL (fieldsL x.1 y.1) = -1 := by
    unfold Kl at h
    unfold fieldsL
    rcases h with h | ⟨h, k⟩
    · have c : compareInt x.1.T y.1.T = -1 := by unfold compareInt; rw [if_pos h]
      rw [c]; rfl
    · have c : compareInt x.1.T y.1.T = 0 := by unfold compareInt; rw [if_neg (by omega), if_neg (by omega)]
      have d : compareInt x.1.I y.1.I = -1 := by unfold compareInt; rw [if_pos k]
      rw [c, d]; rfl
  rw [e, if_pos (by decide)]
  decide
theorem cp_key {x y : Pn} (h : ¬ Ke x y) : cp x y < 0 ↔ Kl x y := by
  constructor
  · intro hc
    rcases kl_total h with k | k
    · exact k
    · have := cp_lt k
      rw [cp_neg] at this
      omega
  · exact cp_lt

/-- in order, no two of one trace and ID -/
abbrev So (L : List Pn) : Prop := L.Pairwise Kl
theorem so_one : ∀ {L M : List Pn}, So L → So M → (∀ x, x ∈ L ↔ x ∈ M) → L = M
  | [], [], _, _, _ => rfl
  | [], y :: M, _, _, h => by have := (h y).2 (List.mem_cons_self ..); cases this
  | x :: L, [], _, _, h => by have := (h x).1 (List.mem_cons_self ..); cases this
  | x :: L, y :: M, hL, hM, h => by
    have h1 := List.pairwise_cons.1 hL
    have h2 := List.pairwise_cons.1 hM
    have e : x = y := by
      rcases List.mem_cons.1 ((h x).1 (List.mem_cons_self ..)) with e | e
      · exact e
      · rcases List.mem_cons.1 ((h y).2 (List.mem_cons_self ..)) with f | f
        · exact f.symm
        · exact absurd (h1.1 y f) (h2.1 x e).anti
    subst e
    rw [so_one h1.2 h2.2 fun z => ?_]
    constructor
    · intro hz
      rcases List.mem_cons.1 ((h z).1 (List.mem_cons_of_mem _ hz)) with e | e
      · subst e; exact absurd (h1.1 z hz) (kl_irrefl z)
      · exact e
    · intro hz
      rcases List.mem_cons.1 ((h z).2 (List.mem_cons_of_mem _ hz)) with e | e
      · subst e; exact absurd (h2.1 z hz) (kl_irrefl z)
      · exact e
theorem so_key {L : List Pn} (h : So L) {x y : Pn} (hx : x ∈ L) (hy : y ∈ L) (e : Ke x y) : x = y := by
  induction L with
  | nil => cases hx
  | cons z L ih =>
    have h1 := List.pairwise_cons.1 h
    rcases List.mem_cons.1 hx with a | a <;> rcases List.mem_cons.1 hy with b | b
    · rw [a, b]
    · subst a; exact absurd e (h1.1 y b).not
    · subst b; exact absurd e (h1.1 x a).not'
    · exact ih h1.2 a b
/-- the one with the key of s -/
def fnd (L : List Pn) (s : Pn) : Option Pn := L.find? fun x => decide (Ke x s)
def era (L : List Pn) (s : Pn) : List Pn := L.filter fun x => !decide (Ke x s)
def ins (L : List Pn) (s : Pn) : List Pn := L.takeWhile (fun y => decide (Kl y s)) ++ s :: L.dropWhile (fun y => decide (Kl y s))
def put (L : List Pn) (s : Pn) : List Pn := ins (era L s) s
theorem mem_era {L : List Pn} {s x : Pn} : x ∈ era L s ↔ x ∈ L ∧ ¬ Ke x s := by simp [era]
theorem ins_perm (L : List Pn) (s : Pn) : (ins L s).Perm (s :: L) := by
  unfold ins
  refine List.perm_middle.trans ?_
  rw [List.takeWhile_append_dropWhile]
theorem put_perm (L : List Pn) (s : Pn) : (put L s).Perm (s :: era L s) := ins_perm _ _
theorem mem_put {L : List Pn} {s x : Pn} : x ∈ put L s ↔ x = s ∨ (x ∈ L ∧ ¬ Ke x s) := by
  rw [(put_perm L s).mem_iff, List.mem_cons, mem_era]
theorem ins_so {L : List Pn} {s : Pn} (h : So L) (hs : ∀ x ∈ L, ¬ Ke x s) : So (ins L s) := by
  induction L with
  | nil => simp [ins]
  | cons y m ih =>
    have h1 := List.pairwise_cons.1 h
    have ih := ih h1.2 (fun z hz => hs z (List.mem_cons_of_mem _ hz))
    by_cases hl : Kl y s
    · have e : ins (y :: m) s = y :: ins m s := by simp [ins, hl]
      rw [e]
      refine List.pairwise_cons.2 ⟨fun z hz => ?_, ih⟩
      rcases List.mem_cons.1 ((ins_perm m s).mem_iff.1 hz) with rfl | h2
      · exact hl
      · exact h1.1 z h2
    · have e : ins (y :: m) s = s :: y :: m := by simp [ins, hl]
      rw [e]
      have hxy : Kl s y := (kl_total (hs y (List.mem_cons_self ..))).resolve_left hl
      refine List.pairwise_cons.2 ⟨fun z hz => ?_, h⟩
      rcases List.mem_cons.1 hz with rfl | h2
      · exact hxy
      · exact hxy.trans (h1.1 z h2)
theorem era_so {L : List Pn} (h : So L) (s : Pn) : So (era L s) := List.Pairwise.filter _ h
theorem put_so {L : List Pn} (h : So L) (s : Pn) : So (put L s) := ins_so (era_so h s) fun x hx => (mem_era.1 hx).2
theorem fnd_some {L : List Pn} {s y : Pn} (h : fnd L s = some y) : y ∈ L ∧ Ke y s := ⟨List.mem_of_find?_eq_some h, by simpa using List.find?_some h⟩
theorem fnd_none {L : List Pn} {s : Pn} (h : fnd L s = none) : ∀ x ∈ L, ¬ Ke x s := fun x hx => by simpa using List.find?_eq_none.1 h x hx
theorem fnd_of {L : List Pn} (h : So L) {s y : Pn} (hy : y ∈ L) (k : Ke y s) : fnd L s = some y := by
  cases e : fnd L s with
  | none => exact absurd k (fnd_none e y hy)
  | some z =>
    obtain ⟨z1, z2⟩ := fnd_some e
    rw [so_key h z1 hy (z2.trans k.symm)]
theorem era_out {L : List Pn} {s : Pn} (h : ∀ x ∈ L, ¬ Ke x s) : era L s = L := List.filter_eq_self.2 fun x hx => by simpa using h x hx
theorem era_perm {L : List Pn} (h : So L) {s y : Pn} (hy : y ∈ L) (k : Ke y s) : L.Perm (y :: era L s) := by
  induction L with
  | nil => cases hy
  | cons x L ih =>
    have h1 := List.pairwise_cons.1 h
    rcases List.mem_cons.1 hy with rfl | hy
    · have e : era (y :: L) s = L := by
        have : era L s = L := era_out fun z hz hk => (h1.1 z hz).not (k.trans hk.symm)
        unfold era at *
        rw [List.filter_cons, if_neg (by simp [k]), this]
      rw [e]
    · have hx : ¬ Ke x s := fun e => (h1.1 y hy).not (e.trans k.symm)
      have e : era (x :: L) s = x :: era L s := by
        unfold era
        rw [List.filter_cons, if_pos (by simp [hx])]
      rw [e]
      exact ((ih h1.2 hy).cons x).trans (List.Perm.swap ..)
theorem put_new {L : List Pn} {s : Pn} (h : ∀ x ∈ L, ¬ Ke x s) : (put L s).length = L.length + 1 ∧ held (put L s) = held L + sz s := by
  have p := put_perm L s
  rw [era_out h] at p
  exact ⟨by simpa using p.length_eq, by rw [held_perm p]; simp [held]; omega⟩
theorem put_old {L : List Pn} (h : So L) {s y : Pn} (hy : y ∈ L) (k : Ke y s) : (put L s).length = L.length ∧ held (put L s) + sz y = held L + sz s := by
  have p := put_perm L s
  have q := era_perm h hy k
  have l1 := p.length_eq
  have l2 := q.length_eq
  have h1 := held_perm p
  have h2 := held_perm q
  simp only [List.length_cons, held] at *
  omega

/-- a trace's spans; the others -/
def tn (x : Pn) : Nat := x.1.T.toNat
def idn (x : Pn) : Nat := x.1.I.toNat
def en (x : Pn) : Nat := x.1.t1.toNat
def trace (L : List Pn) (t : Nat) : List Pn := L.filter fun x => decide (tn x = t)
def rest (L : List Pn) (t : Nat) : List Pn := L.filter fun x => !decide (tn x = t)
theorem mem_trace {L : List Pn} {t : Nat} {x : Pn} : x ∈ trace L t ↔ x ∈ L ∧ tn x = t := by simp [trace]
theorem mem_rest {L : List Pn} {t : Nat} {x : Pn} : x ∈ rest L t ↔ x ∈ L ∧ tn x ≠ t := by simp [rest]
theorem part (L : List Pn) (t : Nat) : L.Perm (trace L t ++ rest L t) := filter_perm _ L
theorem part_len (L : List Pn) (t : Nat) : (trace L t).length + (rest L t).length = L.length := by simpa using (part L t).length_eq.symm
theorem part_held (L : List Pn) (t : Nat) : held (trace L t) + held (rest L t) = held L := by rw [held_perm (part L t), held_app]
theorem trace_so {L : List Pn} (h : So L) (t : Nat) : So (trace L t) := h.filter _
theorem rest_so {L : List Pn} (h : So L) (t : Nat) : So (rest L t) := h.filter _
/-- numbers that rise -/
def insr (t : Nat) : List Nat → List Nat
  | [] => [t]
  | u :: l => if t < u then t :: u :: l else if t = u then u :: l else u :: insr t l
theorem mem_insr {t u : Nat} {l : List Nat} : u ∈ insr t l ↔ u = t ∨ u ∈ l := by
  induction l with
  | nil => simp [insr]
  | cons v l ih =>
    unfold insr
    split
    · simp
    · split
      · rename_i h; subst h; simp
      · rw [List.mem_cons, ih, List.mem_cons]
        constructor
        · rintro (a | a | a)
          · exact .inr (.inl a)
          · exact .inl a
          · exact .inr (.inr a)
        · rintro (a | a | a)
          · exact .inr (.inl a)
          · exact .inl a
          · exact .inr (.inr a)
theorem insr_rise {t : Nat} {l : List Nat} (h : l.Pairwise (· < ·)) : (insr t l).Pairwise (· < ·) := by
  induction l with
  | nil => simp [insr]
  | cons v l ih =>
    have h1 := List.pairwise_cons.1 h
    unfold insr
    split
    · rename_i hv
      refine List.pairwise_cons.2 ⟨fun z hz => ?_, h⟩
      rcases List.mem_cons.1 hz with rfl | hz
      · exact hv
      · have := h1.1 z hz; omega
    · split
      · exact h
      · rename_i a b
        refine List.pairwise_cons.2 ⟨fun z hz => ?_, ih h1.2⟩
        rcases mem_insr.1 hz with rfl | hz
        · omega
        · exact h1.1 z hz
theorem rise_one : ∀ {l m : List Nat}, l.Pairwise (· < ·) → m.Pairwise (· < ·) → (∀ x, x ∈ l ↔ x ∈ m) → l = m
  | [], [], _, _, _ => rfl
  | [], y :: m, _, _, h => by have := (h y).2 (List.mem_cons_self ..); cases this
  | x :: l, [], _, _, h => by have := (h x).1 (List.mem_cons_self ..); cases this
  | x :: l, y :: m, hl, hm, h => by
    have h1 := List.pairwise_cons.1 hl
    have h2 := List.pairwise_cons.1 hm
    have e : x = y := by
      rcases List.mem_cons.1 ((h x).1 (List.mem_cons_self ..)) with e | e
      · exact e
      · rcases List.mem_cons.1 ((h y).2 (List.mem_cons_self ..)) with f | f
        · exact f.symm
        · have := h1.1 y f; have := h2.1 x e; omega
    subst e
    rw [rise_one h1.2 h2.2 fun z => ?_]
    constructor
    · intro hz
      rcases List.mem_cons.1 ((h z).1 (List.mem_cons_of_mem _ hz)) with e | e
      · subst e; have := h1.1 z hz; omega
      · exact e
    · intro hz
      rcases List.mem_cons.1 ((h z).2 (List.mem_cons_of_mem _ hz)) with e | e
      · subst e; have := h2.1 z hz; omega
      · exact e
/-- the traces, rising -/
def trs : List Pn → List Nat
  | [] => []
  | x :: L => insr (tn x) (trs L)
theorem mem_trs {L : List Pn} {t : Nat} : t ∈ trs L ↔ ∃ x ∈ L, tn x = t := by
  induction L with
  | nil => simp [trs]
  | cons x L ih =>
    rw [trs, mem_insr, ih]
    constructor
    · rintro (rfl | ⟨y, h1, h2⟩)
      · exact ⟨x, List.mem_cons_self .., rfl⟩
      · exact ⟨y, List.mem_cons_of_mem _ h1, h2⟩
    · rintro ⟨y, h1, h2⟩
      rcases List.mem_cons.1 h1 with rfl | h1
      · exact .inl h2.symm
      · exact .inr ⟨y, h1, h2⟩
theorem trs_rise (L : List Pn) : (trs L).Pairwise (· < ·) := by
  induction L with
  | nil => exact List.Pairwise.nil
  | cons x L ih => exact insr_rise ih
theorem trs_trace {L : List Pn} {t : Nat} : t ∈ trs L ↔ trace L t ≠ [] := by
  rw [mem_trs]
  constructor
  · rintro ⟨x, h1, h2⟩ e
    have := mem_trace.2 ⟨h1, h2⟩
    rw [e] at this
    cases this
  · intro h
    obtain ⟨x, hx⟩ := List.exists_mem_of_ne_nil _ h
    exact ⟨x, mem_trace.1 hx⟩
theorem insr_len (t : Nat) (l : List Nat) : (insr t l).length ≤ l.length + 1 := by
  induction l with
  | nil => simp [insr]
  | cons v l ih =>
    unfold insr
    split
    · simp
    · split <;> simp <;> omega
theorem trs_len (L : List Pn) : (trs L).length ≤ L.length := by
  induction L with
  | nil => simp [trs]
  | cons x L ih =>
    have := insr_len (tn x) (trs L)
    rw [trs, List.length_cons]
    omega
theorem trs_none {L : List Pn} (h : L ≠ []) : trs L ≠ [] := by
  obtain ⟨x, hx⟩ := List.exists_mem_of_ne_nil _ h
  exact List.ne_nil_of_mem (mem_trs.2 ⟨x, hx, rfl⟩)

/-- the greatest End -/
def mx : List Pn → Nat
  | [] => 0
  | x :: L => max (en x) (mx L)
theorem mx_ge {L : List Pn} {x : Pn} (h : x ∈ L) : en x ≤ mx L := by
  induction L with
  | nil => cases h
  | cons y L ih =>
    rw [mx]
    rcases List.mem_cons.1 h with rfl | h
    · omega
    · have := ih h; omega
theorem mx_in {L : List Pn} (h : L ≠ []) : ∃ x ∈ L, en x = mx L := by
  induction L with
  | nil => exact absurd rfl h
  | cons y L ih =>
    rw [mx]
    by_cases e : L = []
    · subst e
      exact ⟨y, List.mem_cons_self .., by simp [mx]⟩
    · obtain ⟨x, h1, h2⟩ := ih e
      by_cases c : en y ≤ mx L
      · exact ⟨x, List.mem_cons_of_mem _ h1, by omega⟩
      · exact ⟨y, List.mem_cons_self .., by omega⟩
theorem mx_of {L : List Pn} {n : Nat} (h : ∀ x ∈ L, en x ≤ n) (k : ∃ x ∈ L, en x = n) : mx L = n := by
  obtain ⟨x, h1, h2⟩ := k
  have := mx_ge h1
  obtain ⟨y, h3, h4⟩ := mx_in (List.ne_nil_of_mem h1)
  have := h y h3
  omega
theorem mx_app (L M : List Pn) : mx (L ++ M) = max (mx L) (mx M) := by
  induction L with
  | nil => simp [mx]
  | cons y L ih => rw [List.cons_append, mx, ih, mx]; omega
/-- a trace's deadline -/
def dl (G : Nat) (L : List Pn) (t : Nat) : Nat := mx (trace L t) + G
/-- the traces by their deadlines -/
def dqs (G : Nat) (L : List Pn) : List It := (trs L).foldr (fun t m => insm m (t, dl G L t)) []
theorem foldr_mem (f : Nat → Nat) (l : List Nat) (y : It) : y ∈ l.foldr (fun t m => insm m (t, f t)) [] ↔ ∃ t ∈ l, y = (t, f t) := by
  induction l with
  | nil => simp
  | cons t l ih =>
    rw [List.foldr_cons, (U12.insm_perm _ _).mem_iff, List.mem_cons, ih]
    constructor
    · rintro (rfl | ⟨u, h1, h2⟩)
      · exact ⟨t, List.mem_cons_self .., rfl⟩
      · exact ⟨u, List.mem_cons_of_mem _ h1, h2⟩
    · rintro ⟨u, h1, h2⟩
      rcases List.mem_cons.1 h1 with rfl | h1
      · exact .inl h2
      · exact .inr ⟨u, h1, h2⟩
theorem foldr_sorted (f : Nat → Nat) (l : List Nat) (h : l.Nodup) : (l.foldr (fun t m => insm m (t, f t)) []).Pairwise Lt := by
  induction l with
  | nil => exact List.Pairwise.nil
  | cons t l ih =>
    have h1 := List.nodup_cons.1 h
    refine U12.insm_sorted (ih h1.2) fun y hy e => h1.1 ?_
    obtain ⟨u, h2, rfl⟩ := (foldr_mem f l y).1 hy
    dsimp only at e
    rw [← e]
    exact h2
theorem foldr_perm (f : Nat → Nat) (l : List Nat) : (l.foldr (fun t m => insm m (t, f t)) []).Perm (l.map fun t => (t, f t)) := by
  induction l with
  | nil => exact List.Perm.refl _
  | cons t l ih => exact (U12.insm_perm _ _).trans (ih.cons _)
theorem mem_dqs {G : Nat} {L : List Pn} {y : It} : y ∈ dqs G L ↔ ∃ t ∈ trs L, y = (t, dl G L t) := foldr_mem _ _ _
theorem dqs_sorted (G : Nat) (L : List Pn) : (dqs G L).Pairwise Lt := foldr_sorted _ _ ((trs_rise L).imp fun {a b} h => by omega)
theorem dqs_perm (G : Nat) (L : List Pn) : (dqs G L).Perm ((trs L).map fun t => (t, dl G L t)) := foldr_perm _ _
theorem dqs_nodup (G : Nat) (L : List Pn) : ((dqs G L).map (·.1)).Nodup := by
  refine (((dqs_perm G L).map (·.1)).nodup_iff).2 ?_
  rw [List.map_map]
  have e : ((fun x : It => x.1) ∘ fun t => (t, dl G L t)) = id := rfl
  rw [e, List.map_id]
  exact (trs_rise L).imp fun {a b} h => by omega
theorem dqs_len (G : Nat) (L : List Pn) : (dqs G L).length = (trs L).length := by simpa using (dqs_perm G L).length_eq
/-- two lists in order with the same ones are one -/
theorem lt_one : ∀ {l m : List It}, l.Pairwise Lt → m.Pairwise Lt → (∀ x, x ∈ l ↔ x ∈ m) → l = m
  | [], [], _, _, _ => rfl
  | [], y :: m, _, _, h => by have := (h y).2 (List.mem_cons_self ..); cases this
  | x :: l, [], _, _, h => by have := (h x).1 (List.mem_cons_self ..); cases this
  | x :: l, y :: m, hl, hm, h => by
    have h1 := List.pairwise_cons.1 hl
    have h2 := List.pairwise_cons.1 hm
    have e : x = y := by
      rcases List.mem_cons.1 ((h x).1 (List.mem_cons_self ..)) with e | e
      · exact e
      · rcases List.mem_cons.1 ((h y).2 (List.mem_cons_self ..)) with f | f
        · exact f.symm
        · exact absurd ((h1.1 y f).trans (h2.1 x e)) (U12.Lt.irrefl x)
    subst e
    rw [lt_one h1.2 h2.2 fun z => ?_]
    constructor
    · intro hz
      rcases List.mem_cons.1 ((h z).1 (List.mem_cons_of_mem _ hz)) with e | e
      · subst e; exact absurd (h1.1 z hz) (U12.Lt.irrefl z)
      · exact e
    · intro hz
      rcases List.mem_cons.1 ((h z).2 (List.mem_cons_of_mem _ hz)) with e | e
      · subst e; exact absurd (h2.1 z hz) (U12.Lt.irrefl z)
      · exact e
/-- who goes first -/
def first (G : Nat) (L : List Pn) : Nat := ((dqs G L).head?.map (·.1)).getD 0
theorem first_in {G : Nat} {L : List Pn} (h : L ≠ []) : first G L ∈ trs L ∧ ∃ m, dqs G L = (first G L, dl G L (first G L)) :: m := by
  unfold first
  cases e : dqs G L with
  | nil =>
    have := dqs_len G L
    rw [e] at this
    exact absurd (List.eq_nil_of_length_eq_zero this.symm) (trs_none h)
  | cons y m =>
    obtain ⟨t, h1, h2⟩ := mem_dqs.1 (by rw [e]; exact List.mem_cons_self .. : y ∈ dqs G L)
    subst h2
    exact ⟨h1, m, rfl⟩
theorem rest_less {L : List Pn} {t : Nat} (h : t ∈ trs L) : (rest L t).length < L.length := by
  have h1 := part_len L t
  have h2 := List.length_pos_iff.2 (trs_trace.1 h)
  omega
/-- is it more than may be? -/
def big (S B : Nat) (L : List Pn) : Bool := decide (S < L.length) || decide (B < held L)
/-- what stays and what goes -/
def shr (G S B : Nat) : Nat → List Pn → List Pn × List Pn
  | 0, L => (L, [])
  | f + 1, L => if big S B L then ((shr G S B f (rest L (first G L))).1, trace L (first G L) ++ (shr G S B f (rest L (first G L))).2) else (L, [])
theorem big_nil (S B : Nat) : big S B [] = false := by simp [big, held]
theorem shr_more (G S B : Nat) : ∀ (f g : Nat) (L : List Pn), L.length ≤ f → L.length ≤ g → shr G S B f L = shr G S B g L
  | 0, 0, L, _, _ => rfl
  | 0, g + 1, L, h, _ => by
    have : L = [] := List.eq_nil_of_length_eq_zero (by omega)
    subst this
    simp [shr, big_nil]
  | f + 1, 0, L, _, h => by
    have : L = [] := List.eq_nil_of_length_eq_zero (by omega)
    subst this
    simp [shr, big_nil]
  | f + 1, g + 1, L, hf, hg => by
    by_cases c : big S B L
    · have hn : L ≠ [] := fun e => by subst e; rw [big_nil] at c; cases c
      have := rest_less (first_in (G := G) hn).1
      rw [shr, shr, shr_more G S B f g _ (by omega) (by omega)]
    · rw [shr, shr, if_neg c, if_neg c]
def shrink (G S B : Nat) (L : List Pn) : List Pn × List Pn := shr G S B L.length L
theorem shrink_no {G S B : Nat} {L : List Pn} (h : big S B L = false) : shrink G S B L = (L, []) := by
  unfold shrink
  cases e : L.length with
  | zero => rfl
  | succ f => rw [shr, h]; rfl
theorem shrink_go {G S B : Nat} {L : List Pn} (h : big S B L = true) : shrink G S B L = ((shrink G S B (rest L (first G L))).1, trace L (first G L) ++ (shrink G S B (rest L (first G L))).2) := by
  have hn : L ≠ [] := fun e => by subst e; rw [big_nil] at h; cases h
  have hl := rest_less (first_in (G := G) hn).1
  unfold shrink
  obtain ⟨f, e⟩ : ∃ f, L.length = f + 1 := ⟨L.length - 1, by omega⟩
  rw [e, shr, h, if_pos rfl, shr_more G S B f (rest L (first G L)).length _ (by omega) (Nat.le_refl _)]
theorem shrink_rec {p : List Pn → Prop} {G S B : Nat} (h0 : ∀ L, big S B L = false → p L) (h1 : ∀ L, big S B L = true → p (rest L (first G L)) → p L) (L : List Pn) : p L := by
  obtain ⟨n, hn⟩ : ∃ n, L.length ≤ n := ⟨_, Nat.le_refl _⟩
  induction n generalizing L with
  | zero =>
    have : L = [] := List.eq_nil_of_length_eq_zero (by omega)
    subst this
    exact h0 [] (big_nil S B)
  | succ n ih =>
    cases c : big S B L
    · exact h0 L c
    · have hne : L ≠ [] := fun e => by subst e; rw [big_nil] at c; cases c
      have hl := rest_less (first_in (G := G) hne).1
      exact h1 L c (ih _ (by omega))
theorem shrink_ok (G S B : Nat) (L : List Pn) : big S B (shrink G S B L).1 = false := by
  refine shrink_rec (G := G) (S := S) (B := B) (p := fun L => big S B (shrink G S B L).1 = false) (fun L h => ?_) (fun L h k => ?_) L
  · rw [shrink_no h]; exact h
  · rw [shrink_go h]; exact k
theorem shrink_so {G S B : Nat} {L : List Pn} : So L → So (shrink G S B L).1 := by
  refine shrink_rec (G := G) (S := S) (B := B) (p := fun L => So L → So (shrink G S B L).1) (fun L h => ?_) (fun L h k => ?_) L
  · rw [shrink_no h]; exact id
  · rw [shrink_go h]; exact fun hs => k (rest_so hs _)
theorem shrink_sub {G S B : Nat} {L : List Pn} : ∀ x, x ∈ (shrink G S B L).1 → x ∈ L := by
  refine shrink_rec (G := G) (S := S) (B := B) (p := fun L => ∀ x, x ∈ (shrink G S B L).1 → x ∈ L) (fun L h => ?_) (fun L h k => ?_) L
  · rw [shrink_no h]; exact fun _ => id
  · rw [shrink_go h]; exact fun x hx => (mem_rest.1 (k x hx)).1
theorem shrink_gone {G S B : Nat} {L : List Pn} : ∀ x, x ∈ (shrink G S B L).2 → x ∈ L := by
  refine shrink_rec (G := G) (S := S) (B := B) (p := fun L => ∀ x, x ∈ (shrink G S B L).2 → x ∈ L) (fun L h => ?_) (fun L h k => ?_) L
  · rw [shrink_no h]; exact fun x hx => by cases hx
  · rw [shrink_go h]
    intro x hx
    rcases List.mem_append.1 hx with hx | hx
    · exact (mem_trace.1 hx).1
    · exact (mem_rest.1 (k x hx)).1
theorem shrink_len {G S B : Nat} (L : List Pn) : (shrink G S B L).1.length + (shrink G S B L).2.length = L.length := by
  refine shrink_rec (G := G) (S := S) (B := B) (p := fun L => (shrink G S B L).1.length + (shrink G S B L).2.length = L.length) (fun L h => ?_) (fun L h k => ?_) L
  · rw [shrink_no h]; rfl
  · rw [shrink_go h]
    have := part_len L (first G L)
    simp only [List.length_append]
    omega
/-- one more: what stays, what is twice, what is gone -/
def add (G S B : Nat) (L : List Pn) (s : Pn) : List Pn × List Pn × List Pn :=
  match fnd L s with
  | some y => if cp y s ≤ 0 then (L, [s], []) else ((shrink G S B (put L s)).1, [y], (shrink G S B (put L s)).2)
  | none => ((shrink G S B (put L s)).1, [], (shrink G S B (put L s)).2)
/-- which are due -/
def due (G : Nat) (L : List Pn) (m : Nat) : List Nat := (U12.due (dqs G L) m).map (·.1)
end Go.Proofs.YtdmibolbpgondaaGreat.X15
