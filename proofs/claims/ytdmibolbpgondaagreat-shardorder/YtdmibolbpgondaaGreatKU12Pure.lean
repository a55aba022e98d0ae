/-
  The queue in plain words: the order, a heap's row as a function, what up and down do to it.
-/
import Derived.Test.YtdmibolbpgondaaGreatRows
set_option linter.unusedSimpArgs false
set_option linter.unusedVariables false
namespace Go.Proofs.YtdmibolbpgondaaGreat.U12

/-- an id with its time -/
abbrev It := Nat × Nat
def Lt (a b : It) : Prop := a.2 < b.2 ∨ (a.2 = b.2 ∧ a.1 < b.1)
def Le (a b : It) : Prop := a.2 < b.2 ∨ (a.2 = b.2 ∧ a.1 ≤ b.1)
instance (a b : It) : Decidable (Lt a b) := by unfold Lt; infer_instance
theorem Le.refl (a : It) : Le a a := .inr ⟨rfl, Nat.le_refl _⟩
theorem Le.trans {a b c : It} (h : Le a b) (k : Le b c) : Le a c := by unfold Le at *; omega
theorem Lt.le {a b : It} (h : Lt a b) : Le a b := by unfold Lt at h; unfold Le; omega
theorem not_lt {a b : It} (h : ¬ Lt b a) : Le a b := by unfold Lt at h; unfold Le; omega
theorem Le.not {a b : It} (h : Le a b) : ¬ Lt b a := by unfold Le at h; unfold Lt; omega
theorem Le.anti {a b : It} (h : Le a b) (k : Le b a) : a = b := by
  unfold Le at *
  refine Prod.ext ?_ ?_ <;> omega
theorem Lt.trans {a b c : It} (h : Lt a b) (k : Lt b c) : Lt a c := by unfold Lt at *; omega
theorem Lt.irrefl (a : It) : ¬ Lt a a := by unfold Lt; omega
theorem Lt.ne {a b : It} (h : Lt a b) : a ≠ b := fun e => by subst e; exact Lt.irrefl _ h
theorem Le.lt {a b : It} (h : Le a b) (k : a ≠ b) : Lt a b := by
  by_cases hl : Lt a b
  · exact hl
  · exact absurd (h.anti (not_lt hl)) k
theorem Lt.of_ids {a b : It} (h : Le a b) (k : a.1 ≠ b.1) : Lt a b := h.lt fun e => k (by rw [e])

/-- two places changed for one another -/
def tr (i j k : Nat) : Nat := if k = i then j else if k = j then i else k
theorem tr_lt {i j k N : Nat} (hi : i < N) (hj : j < N) (hk : k < N) : tr i j k < N := by unfold tr; split <;> (try split) <;> omega
theorem tr_inv (i j k : Nat) : tr i j (tr i j k) = k := by
  unfold tr
  by_cases h1 : k = i
  · subst h1
    by_cases h2 : j = k <;> simp [h2]
  · by_cases h2 : k = j
    · subst h2
      simp [h1]
    · simp [h1, h2]
theorem tr_inj {i j a b : Nat} (h : tr i j a = tr i j b) : a = b := by rw [← tr_inv i j a, h, tr_inv]
def sw (K : Nat → It) (i j : Nat) : Nat → It := fun k => K (tr i j k)
theorem sw_i (K : Nat → It) (i j : Nat) : sw K i j i = K j := by unfold sw tr; rw [if_pos rfl]
theorem sw_j (K : Nat → It) (i j : Nat) : sw K i j j = K i := by
  unfold sw tr
  by_cases h : j = i
  · rw [if_pos h, h]
  · rw [if_neg h, if_pos rfl]
theorem sw_o (K : Nat → It) {i j k : Nat} (h1 : k ≠ i) (h2 : k ≠ j) : sw K i j k = K k := by unfold sw tr; rw [if_neg h1, if_neg h2]

def par (k : Nat) : Nat := (k - 1) / 2
theorem par_lt {k : Nat} (h : 0 < k) : par k < k := by unfold par; omega
theorem kids {k i : Nat} (h : 0 < k) : par k = i ↔ k = 2 * i + 1 ∨ k = 2 * i + 2 := by unfold par; omega
/-- the heap's order -/
def Hp (K : Nat → It) (N : Nat) : Prop := ∀ k, 0 < k → k < N → Le (K (par k)) (K k)
/-- but for the one at j, which may be too great a way down -/
structure UpI (K : Nat → It) (N j : Nat) : Prop where
  rest : ∀ k, 0 < k → k < N → k ≠ j → Le (K (par k)) (K k)
  over : ∀ k, 0 < k → k < N → par k = j → 0 < j → Le (K (par j)) (K k)
/-- but for the one at i, which may be to go up or down -/
structure DnI (K : Nat → It) (N i : Nat) : Prop where
  rest : ∀ k, 0 < k → k < N → k ≠ i → par k ≠ i → Le (K (par k)) (K k)
  over : ∀ k, 0 < k → k < N → par k = i → 0 < i → Le (K (par i)) (K k)
/-- but for the one at i, which may be to go down -/
structure Dn2 (K : Nat → It) (N i : Nat) : Prop where
  rest : ∀ k, 0 < k → k < N → par k ≠ i → Le (K (par k)) (K k)
  over : ∀ k, 0 < k → k < N → par k = i → 0 < i → Le (K (par i)) (K k)
variable {K : Nat → It} {N i j c : Nat}
theorem Dn2.dn (h : Dn2 K N i) : DnI K N i := ⟨fun k h0 h1 _ h2 => h.rest k h0 h1 h2, h.over⟩
theorem UpI.top (h : UpI K N 0) : Hp K N := fun k h0 h1 => h.rest k h0 h1 (by omega)
theorem UpI.done (h : UpI K N j) (hl : Le (K (par j)) (K j)) : Hp K N := fun k h0 h1 => by
  by_cases e : k = j
  · subst e; exact hl
  · exact h.rest k h0 h1 e
theorem UpI.step (h : UpI K N j) (hj : j < N) (h0 : 0 < j) (hl : Lt (K j) (K (par j))) : UpI (sw K (par j) j) N (par j) := by
  have hp := par_lt h0
  refine ⟨fun k k0 k1 kn => ?_, fun k k0 k1 kp p0 => ?_⟩
  · by_cases e1 : k = j
    · subst e1
      rw [sw_i, sw_j]
      exact hl.le
    · rw [sw_o K kn e1]
      by_cases e2 : par k = par j
      · rw [e2, sw_i]
        exact hl.le.trans (e2 ▸ h.rest k k0 k1 e1)
      · by_cases e3 : par k = j
        · rw [e3, sw_j]
          exact h.over k k0 k1 e3 h0
        · rw [sw_o K e2 e3]
          exact h.rest k k0 k1 e1
  · have hpp := par_lt p0
    rw [sw_o K (by omega) (by omega)]
    have h2 := h.rest (par j) p0 (by omega) (by omega)
    by_cases e1 : k = j
    · subst e1
      rw [sw_j]
      exact h2
    · have := par_lt k0
      rw [sw_o K (by omega) e1]
      exact h2.trans (kp ▸ h.rest k k0 k1 e1)
theorem DnI.step (h : DnI K N i) (c0 : 0 < c) (hc : c < N) (hp : par c = i) (hleast : ∀ k, 0 < k → k < N → par k = i → Le (K c) (K k)) (hl : Lt (K c) (K i)) : Dn2 (sw K i c) N c := by
  have hlt := par_lt c0
  refine ⟨fun k k0 k1 kn => ?_, fun k k0 k1 kp _ => ?_⟩
  · by_cases e1 : k = c
    · subst e1
      rw [hp, sw_i, sw_j]
      exact hl.le
    · by_cases e2 : k = i
      · subst e2
        have := par_lt k0
        rw [sw_i, sw_o K (by omega) kn]
        exact h.over c c0 hc hp k0
      · rw [sw_o K e2 e1]
        by_cases e3 : par k = i
        · rw [e3, sw_i]
          exact hleast k k0 k1 e3
        · rw [sw_o K e3 kn]
          exact h.rest k k0 k1 e2 e3
  · have := par_lt k0
    rw [hp, sw_i, sw_o K (by omega) (by omega)]
    exact kp ▸ h.rest k k0 k1 (by omega) (by omega)
theorem DnI.up (h : DnI K N i) (hk : ∀ k, 0 < k → k < N → par k = i → Le (K i) (K k)) : UpI K N i := ⟨fun k k0 k1 kn => by
  by_cases e : par k = i
  · exact e ▸ hk k k0 k1 e
  · exact h.rest k k0 k1 kn e, h.over⟩
theorem Dn2.done (h : Dn2 K N i) (hk : ∀ k, 0 < k → k < N → par k = i → Le (K i) (K k)) : Hp K N := fun k k0 k1 => by
  by_cases e : par k = i
  · exact e ▸ hk k k0 k1 e
  · exact h.rest k k0 k1 e
/-- one of a heap changed, the last ones perhaps cut off -/
theorem Hp.dn {K' : Nat → It} {M : Nat} (h : Hp K N) (hM : M ≤ N) (hi : i < N) (hk : ∀ k, k < M → k ≠ i → K' k = K k) : DnI K' M i :=
  ⟨fun k k0 k1 kn kp => by
    have := par_lt k0
    rw [hk k k1 kn, hk _ (by omega) kp]
    exact h k k0 (by omega), fun k k0 k1 kp i0 => by
    have := par_lt k0
    have := par_lt i0
    rw [hk k k1 (by omega), hk (par i) (by omega) (by omega)]
    exact (h i i0 hi).trans (kp ▸ h k k0 (by omega))⟩
/-- one more at the end -/
theorem Hp.up {K' : Nat → It} (h : Hp K N) (hk : ∀ k, k < N → K' k = K k) : UpI K' (N + 1) N :=
  ⟨fun k k0 k1 kn => by
    have := par_lt k0
    rw [hk k (by omega), hk _ (by omega)]
    exact h k k0 (by omega), fun k k0 k1 kp i0 => by have := par_lt k0; omega⟩
theorem Hp.cut {M : Nat} (h : Hp K N) (hM : M ≤ N) : Hp K M := fun k k0 k1 => h k k0 (by omega)
theorem Hp.least (h : Hp K N) : ∀ k, k < N → Le (K 0) (K k) := fun k => by
  induction k using Nat.strongRecOn with
  | _ k ih =>
    intro hk
    by_cases k0 : k = 0
    · subst k0; exact Le.refl _
    · have := par_lt (k := k) (by omega)
      exact (ih (par k) this (by omega)).trans (h k (by omega) hk)

/-- the row as a list -/
def row (K : Nat → It) (N : Nat) : List It := (List.range N).map K
theorem row_len (K : Nat → It) (N : Nat) : (row K N).length = N := by simp [row]
theorem row_get (K : Nat → It) (N i : Nat) (h : i < (row K N).length) : (row K N)[i] = K i := by simp [row]
theorem row_get? (K : Nat → It) {N i : Nat} (h : i < N) : (row K N)[i]? = some (K i) := by simp [row, h]
theorem mem_row {x : It} : x ∈ row K N ↔ ∃ i, i < N ∧ K i = x := by simp [row]
theorem row_congr {K' : Nat → It} (h : ∀ i, i < N → K i = K' i) : row K N = row K' N := List.map_congr_left fun i hi => h i (by simpa using hi)
theorem row_succ (K : Nat → It) (N : Nat) : row K (N + 1) = row K N ++ [K N] := by simp [row, List.range_succ]
def up1 (K : Nat → It) (i : Nat) (x : It) : Nat → It := fun k => if k = i then x else K k
theorem up1_same (K : Nat → It) (i : Nat) (x : It) : up1 K i x i = x := if_pos rfl
theorem up1_other (K : Nat → It) {i k : Nat} (x : It) (h : k ≠ i) : up1 K i x k = K k := if_neg h
theorem row_up1 (K : Nat → It) (N : Nat) (x : It) : row (up1 K N x) (N + 1) = row K N ++ [x] := by
  rw [row_succ, up1_same]
  congr 1
  exact row_congr fun i hi => up1_other K x (by omega)
theorem row_set (K : Nat → It) (N i : Nat) (x : It) : (row K N).set i x = row (up1 K i x) N := by
  refine List.ext_getElem (by simp [row]) fun k h1 h2 => ?_
  simp only [List.getElem_set, row_get]
  by_cases e : i = k
  · rw [if_pos e, ← e, up1_same]
  · rw [if_neg e, up1_other _ _ (Ne.symm e)]
theorem sw_up1 (K : Nat → It) {i j : Nat} (h : i ≠ j) : up1 (up1 K i (K j)) j (K i) = sw K i j := by
  funext k
  unfold up1
  by_cases e1 : k = j
  · rw [if_pos e1, e1, sw_j]
  · rw [if_neg e1]
    by_cases e2 : k = i
    · rw [if_pos e2, e2, sw_i]
    · rw [if_neg e2, sw_o K e2 e1]
theorem range_tr {i j N : Nat} (hi : i < N) (hj : j < N) : ((List.range N).map (tr i j)).Perm (List.range N) := by
  refine (List.perm_ext_iff_of_nodup ?_ List.nodup_range).2 fun x => ?_
  · exact List.pairwise_map.2 (List.Pairwise.imp (fun {a b} hn e => hn (tr_inj e)) List.nodup_range)
  · simp only [List.mem_map, List.mem_range]
    exact ⟨fun ⟨a, ha, he⟩ => he ▸ tr_lt hi hj ha, fun hx => ⟨tr i j x, tr_lt hi hj hx, tr_inv i j x⟩⟩
theorem row_sw {i j N : Nat} (K : Nat → It) (hi : i < N) (hj : j < N) : (row (sw K i j) N).Perm (row K N) := by
  have e : row (sw K i j) N = ((List.range N).map (tr i j)).map K := by
    rw [List.map_map]
    rfl
  rw [e]
  exact (range_tr hi hj).map K
/-- ids apart -/
def Nd (K : Nat → It) (N : Nat) : Prop := ∀ i j, i < N → j < N → (K i).1 = (K j).1 → i = j
theorem Nd.sw {i j : Nat} (h : Nd K N) (hi : i < N) (hj : j < N) : Nd (sw K i j) N := fun a b ha hb e => tr_inj (h _ _ (tr_lt hi hj ha) (tr_lt hi hj hb) e)
theorem nd_iff : Nd K N ↔ ((row K N).map (·.1)).Nodup := by
  unfold List.Nodup
  rw [List.pairwise_iff_getElem]
  simp only [List.length_map, row_len, List.getElem_map, row_get]
  exact ⟨fun h i j hi hj hl e => by have := h i j hi hj e; omega, fun h i j hi hj e => by
    rcases Nat.lt_trichotomy i j with hl | hl | hl
    · exact absurd e (h i j hi hj hl)
    · exact hl
    · exact absurd e.symm (h j i hj hi hl)⟩
theorem Nd.perm {K' : Nat → It} {M : Nat} (h : Nd K N) (hp : (row K' M).Perm (row K N)) : Nd K' M := nd_iff.2 ((hp.map _).nodup_iff.2 (nd_iff.1 h))

/-- the queue's content, in order: m -/
structure Has (K : Nat → It) (N : Nat) (m : List It) : Prop where
  perm : (row K N).Perm m
  sorted : m.Pairwise Lt
  nodup : (m.map (·.1)).Nodup
variable {m : List It}
theorem Has.len (h : Has K N m) : m.length = N := by rw [← h.perm.length_eq, row_len]
theorem Has.nd (h : Has K N m) : Nd K N := nd_iff.2 ((h.perm.map _).nodup_iff.2 h.nodup)
theorem Has.mem (h : Has K N m) {x : It} : x ∈ m ↔ ∃ i, i < N ∧ K i = x := by rw [← h.perm.mem_iff, mem_row]
theorem Has.of {K' : Nat → It} {M : Nat} (h : Has K N m) (hp : (row K' M).Perm (row K N)) : Has K' M m := ⟨hp.trans h.perm, h.sorted, h.nodup⟩
theorem Has.nil (K : Nat → It) : Has K 0 [] := ⟨by simp [row], List.Pairwise.nil, by simp⟩
/-- the first -/
theorem Has.first {x : It} (h : Has K N (x :: m)) (hp : Hp K N) : 0 < N ∧ K 0 = x := by
  have hN : 0 < N := by have := h.len; simp at this; omega
  refine ⟨hN, ?_⟩
  obtain ⟨i, hi, he⟩ := h.mem.1 (List.mem_cons_self (a := x) (l := m))
  have h1 := hp.least i hi
  rw [he] at h1
  have h2 := h.mem.2 ⟨0, hN, rfl⟩
  rcases List.mem_cons.1 h2 with h3 | h3
  · exact h3
  · exact h1.anti ((List.pairwise_cons.1 h.sorted).1 _ h3).le

/-- in a list: what is put, what is dropped, what is found -/
def dropm (m : List It) (id : Nat) : List It := m.filter fun x => decide (x.1 ≠ id)
def insm (m : List It) (x : It) : List It := m.takeWhile (fun y => decide (Lt y x)) ++ x :: m.dropWhile (fun y => decide (Lt y x))
def putm (m : List It) (x : It) : List It := insm (dropm m x.1) x
theorem insm_perm (m : List It) (x : It) : (insm m x).Perm (x :: m) := by
  unfold insm
  refine List.perm_middle.trans ?_
  rw [List.takeWhile_append_dropWhile]
theorem insm_sorted {x : It} (h : m.Pairwise Lt) (hx : ∀ y ∈ m, y.1 ≠ x.1) : (insm m x).Pairwise Lt := by
  induction m with
  | nil => simp [insm]
  | cons y m ih =>
    have h1 := List.pairwise_cons.1 h
    have ih := ih h1.2 (fun z hz => hx z (List.mem_cons_of_mem _ hz))
    by_cases hl : Lt y x
    · have e : insm (y :: m) x = y :: insm m x := by simp [insm, hl]
      rw [e]
      refine List.pairwise_cons.2 ⟨fun z hz => ?_, ih⟩
      rcases List.mem_cons.1 ((insm_perm m x).mem_iff.1 hz) with rfl | h2
      · exact hl
      · exact h1.1 z h2
    · have e : insm (y :: m) x = x :: y :: m := by simp [insm, hl]
      rw [e]
      have hxy : Lt x y := Lt.of_ids (not_lt hl) fun e => hx y (List.mem_cons_self ..) e.symm
      refine List.pairwise_cons.2 ⟨fun z hz => ?_, h⟩
      rcases List.mem_cons.1 hz with rfl | h2
      · exact hxy
      · exact hxy.trans (h1.1 z h2)
theorem mem_dropm {id : Nat} {x : It} : x ∈ dropm m id ↔ x ∈ m ∧ x.1 ≠ id := by simp [dropm]
theorem dropm_sorted (h : m.Pairwise Lt) (id : Nat) : (dropm m id).Pairwise Lt := h.filter _
theorem dropm_nodup (h : (m.map (·.1)).Nodup) (id : Nat) : ((dropm m id).map (·.1)).Nodup := (List.filter_sublist.map (f := fun x : It => x.1)).nodup h
theorem dropm_out {id : Nat} (h : ∀ x ∈ m, x.1 ≠ id) : dropm m id = m := List.filter_eq_self.2 fun x hx => by simpa using h x hx
theorem nodup_ids {x y : It} (h : (m.map (·.1)).Nodup) (hx : x ∈ m) (hy : y ∈ m) (e : x.1 = y.1) : x = y := by
  obtain ⟨i, hi, rfl⟩ := List.getElem_of_mem hx
  obtain ⟨j, hj, rfl⟩ := List.getElem_of_mem hy
  have h2 := List.pairwise_iff_getElem.1 h
  simp only [List.length_map, List.getElem_map] at h2
  rcases Nat.lt_trichotomy i j with hl | hl | hl
  · exact absurd e (h2 i j hi hj hl)
  · subst hl; rfl
  · exact absurd e.symm (h2 j i hj hi hl)
theorem dropm_perm (h : (m.map (·.1)).Nodup) {x : It} (hx : x ∈ m) : m.Perm (x :: dropm m x.1) := by
  induction m with
  | nil => cases hx
  | cons y m ih =>
    have hn := List.nodup_cons.1 (show ((y.1) :: m.map (·.1)).Nodup from h)
    by_cases e : y = x
    · subst e
      have e2 : dropm (y :: m) y.1 = m := by
        have := dropm_out (m := m) (id := y.1) fun z hz e => hn.1 (e ▸ List.mem_map_of_mem hz)
        simpa [dropm] using this
      rw [e2]
    · have hm : x ∈ m := (List.mem_cons.1 hx).resolve_left (Ne.symm e)
      have e2 : dropm (y :: m) x.1 = y :: dropm m x.1 := by
        have : y.1 ≠ x.1 := fun e => hn.1 (e ▸ List.mem_map_of_mem hm)
        simp [dropm, this]
      rw [e2]
      exact ((ih hn.2 hm).cons y).trans (List.Perm.swap _ _ _)
theorem putm_perm (m : List It) (x : It) : (putm m x).Perm (x :: dropm m x.1) := insm_perm _ _
theorem putm_sorted (h : m.Pairwise Lt) (x : It) : (putm m x).Pairwise Lt := insm_sorted (dropm_sorted h _) fun y hy => (mem_dropm.1 hy).2
theorem putm_nodup (h : (m.map (·.1)).Nodup) (x : It) : ((putm m x).map (·.1)).Nodup := by
  rw [((putm_perm m x).map _).nodup_iff]
  refine List.nodup_cons.2 ⟨fun hm => ?_, dropm_nodup h _⟩
  obtain ⟨y, hy, e⟩ := List.mem_map.1 hm
  exact (mem_dropm.1 hy).2 e
/-- another time for one that is there, or one more at the end -/
theorem Has.set {x : It} {K' : Nat → It} (h : Has K N m) (hi : i < N) (hx : (K i).1 = x.1) (hp : (row K' N).Perm (row (up1 K i x) N)) : Has K' N (putm m x) := by
  refine ⟨?_, putm_sorted h.sorted x, putm_nodup h.nodup x⟩
  refine hp.trans ((?_ : (row (up1 K i x) N).Perm (x :: dropm m x.1)).trans (putm_perm m x).symm)
  have hm : K i ∈ m := h.mem.2 ⟨i, hi, rfl⟩
  have h1 : (row K N).Perm (K i :: dropm m x.1) := h.perm.trans (hx ▸ dropm_perm h.nodup hm)
  have hl : i < (row K N).length := by rw [row_len]; exact hi
  rw [← row_set]
  have e1 : (row K N).set i x = (row K N).take i ++ x :: (row K N).drop (i + 1) := List.set_eq_take_append_cons_drop .. |>.trans (if_pos hl)
  have e2 : row K N = (row K N).take i ++ K i :: (row K N).drop (i + 1) := by
    conv => lhs; rw [← List.take_append_drop i (row K N), List.drop_eq_getElem_cons hl, row_get]
  rw [e1]
  refine List.perm_middle.trans (List.Perm.cons x ?_)
  rw [e2] at h1
  exact (List.perm_middle.symm.trans h1).cons_inv
theorem Has.push {x : It} {K' : Nat → It} (h : Has K N m) (hx : ∀ i, i < N → (K i).1 ≠ x.1) (hp : (row K' (N + 1)).Perm (row (up1 K N x) (N + 1))) : Has K' (N + 1) (putm m x) := by
  refine ⟨?_, putm_sorted h.sorted x, putm_nodup h.nodup x⟩
  rw [row_up1] at hp
  refine hp.trans (List.perm_append_singleton .. |>.trans (((h.perm.cons x)).trans ?_))
  have := putm_perm m x
  rw [dropm_out fun y hy => by obtain ⟨i, hi, rfl⟩ := h.mem.1 hy; exact hx i hi] at this
  exact this.symm
/-- one less: the last of a row that has the same ones -/
theorem Has.pop {K' : Nat → It} (h : Has K N m) (hi : i < N) {M : Nat} (hM : M + 1 = N) (hp : (row K' N).Perm (row K N)) (hl : K' M = K i) : Has K' M (dropm m (K i).1) := by
  refine ⟨?_, dropm_sorted h.sorted _, dropm_nodup h.nodup _⟩
  subst hM
  have hm : K i ∈ m := h.mem.2 ⟨i, hi, rfl⟩
  have h1 := hp.trans (h.perm.trans (dropm_perm h.nodup hm))
  rw [row_succ, hl] at h1
  exact ((List.perm_append_singleton ..).symm.trans h1).cons_inv
end Go.Proofs.YtdmibolbpgondaaGreat.U12
