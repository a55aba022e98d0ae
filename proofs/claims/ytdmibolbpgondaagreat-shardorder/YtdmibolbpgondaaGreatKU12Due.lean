/-
  Until in plain words: what is gone through, and what the document's list has.
  The heap's items in memory: the struct, its row, its map of places; what keeps them.
-/
import Derived.Test.YtdmibolbpgondaaGreatKU12Pure
import Derived.Test.YtdmibolbpgondaaGreatKFrs
import Derived.OneCell
import Derived.WalkKit
import Derived.WalkSpells
section
set_option linter.unusedSimpArgs false
set_option linter.unusedVariables false
namespace Go.Proofs.YtdmibolbpgondaaGreat.U12

variable {K : Nat → It} {N t : Nat}
/-- the places gone through from i on, with fuel -/
def ui (K : Nat → It) (N t : Nat) : Nat → Nat → List Nat
  | 0, _ => []
  | f + 1, i => if N ≤ i ∨ t < (K i).2 then [] else i :: (ui K N t f (2 * i + 1) ++ ui K N t f (2 * i + 2))
theorem ui_out {f i : Nat} (h : N ≤ i ∨ t < (K i).2) : ui K N t f i = [] := by
  cases f with
  | zero => rfl
  | succ f => unfold ui; rw [if_pos h]
theorem ui_in {f i : Nat} (h : ¬ (N ≤ i ∨ t < (K i).2)) : ui K N t (f + 1) i = i :: (ui K N t f (2 * i + 1) ++ ui K N t f (2 * i + 2)) := by
  rw [ui, if_neg h]
theorem ui_mem : ∀ (f i k : Nat), k ∈ ui K N t f i → k < N ∧ (K k).2 ≤ t
  | 0, _, _, h => by cases h
  | f + 1, i, k, h => by
    by_cases c : N ≤ i ∨ t < (K i).2
    · rw [ui_out c] at h; cases h
    · rw [ui_in c] at h
      rcases List.mem_cons.1 h with rfl | h
      · omega
      · rcases List.mem_append.1 h with h | h
        · exact ui_mem f _ k h
        · exact ui_mem f _ k h
theorem ui_kid : ∀ (f i j k : Nat), N - i ≤ f → j ∈ ui K N t f i → 0 < k → par k = j → k < N → (K k).2 ≤ t → k ∈ ui K N t f i
  | 0, _, _, _, _, h, _, _, _, _ => by cases h
  | f + 1, i, j, k, hf, h, k0, kp, kN, kt => by
    by_cases c : N ≤ i ∨ t < (K i).2
    · rw [ui_out c] at h; cases h
    · rw [ui_in c] at h ⊢
      refine List.mem_cons_of_mem _ (List.mem_append.2 ?_)
      rcases List.mem_cons.1 h with rfl | h
      · have hc : ¬ (N ≤ k ∨ t < (K k).2) := by omega
        rcases (kids k0).1 kp with e | e
        · left
          obtain ⟨g, rfl⟩ : ∃ g, f = g + 1 := ⟨f - 1, by omega⟩
          rw [← e, ui_in hc]
          exact List.mem_cons_self ..
        · right
          obtain ⟨g, rfl⟩ : ∃ g, f = g + 1 := ⟨f - 1, by omega⟩
          rw [← e, ui_in hc]
          exact List.mem_cons_self ..
      · rcases List.mem_append.1 h with h | h
        · exact .inl (ui_kid f _ j k (by omega) h k0 kp kN kt)
        · exact .inr (ui_kid f _ j k (by omega) h k0 kp kN kt)
theorem ui_all (h : Hp K N) {f : Nat} (hf : N ≤ f) : ∀ k, k < N → (K k).2 ≤ t → k ∈ ui K N t f 0 := fun k => by
  induction k using Nat.strongRecOn with
  | _ k ih =>
    intro kN kt
    by_cases k0 : k = 0
    · subst k0
      obtain ⟨g, rfl⟩ : ∃ g, f = g + 1 := ⟨f - 1, by omega⟩
      rw [ui_in (by omega)]
      exact List.mem_cons_self ..
    · have hp := par_lt (k := k) (by omega)
      have hl := h k (by omega) kN
      exact ui_kid f 0 (par k) k (by omega) (ih _ hp (by omega) (by unfold Le at hl; omega)) (by omega) rfl kN kt
/-- k lies at i or below it -/
inductive Anc (i : Nat) : Nat → Prop
  | self : Anc i i
  | step (k : Nat) : 0 < k → Anc i (par k) → Anc i k
theorem Anc.le {i k : Nat} (h : Anc i k) : i ≤ k := by
  induction h with
  | self => exact Nat.le_refl _
  | step k k0 _ ih => have := par_lt k0; omega
theorem Anc.over {i a k : Nat} (a0 : 0 < a) (hp : par a = i) (h : Anc a k) : Anc i k := by
  induction h with
  | self => exact .step a a0 (hp ▸ .self)
  | step k k0 _ ih => exact .step k k0 ih
theorem ui_anc : ∀ (f i k : Nat), k ∈ ui K N t f i → Anc i k
  | 0, _, _, h => by cases h
  | f + 1, i, k, h => by
    by_cases c : N ≤ i ∨ t < (K i).2
    · rw [ui_out c] at h; cases h
    · rw [ui_in c] at h
      rcases List.mem_cons.1 h with rfl | h
      · exact .self
      · rcases List.mem_append.1 h with h | h
        · exact (ui_anc f _ k h).over (by omega) ((kids (by omega)).2 (.inl rfl))
        · exact (ui_anc f _ k h).over (by omega) ((kids (by omega)).2 (.inr rfl))
theorem anc_apart {a b : Nat} (a0 : 0 < a) (b0 : 0 < b) (hp : par a = par b) (hn : a ≠ b) : ∀ k, Anc a k → Anc b k → False := fun k => by
  induction k using Nat.strongRecOn with
  | _ k ih =>
    intro h1 h2
    cases h1 with
    | self => cases h2 with
      | self => exact hn rfl
      | step _ _ h2 => have := h2.le; have := par_lt b0; omega
    | step _ k0 h1 => cases h2 with
      | self => have := h1.le; have := par_lt a0; omega
      | step _ _ h2 => exact ih _ (par_lt k0) h1 h2
theorem ui_nodup : ∀ (f i : Nat), (ui K N t f i).Nodup
  | 0, _ => List.nodup_nil
  | f + 1, i => by
    by_cases c : N ≤ i ∨ t < (K i).2
    · rw [ui_out c]; exact List.nodup_nil
    · rw [ui_in c]
      refine List.nodup_cons.2 ⟨fun h => ?_, List.nodup_append.2 ⟨ui_nodup f _, ui_nodup f _, fun a ha b hb e => ?_⟩⟩
      · rcases List.mem_append.1 h with h | h
        · have := (ui_anc f _ _ h).le; omega
        · have := (ui_anc f _ _ h).le; omega
      · subst e
        have p1 := (kids (k := 2 * i + 1) (i := i) (by omega)).2 (.inl rfl)
        have p2 := (kids (k := 2 * i + 2) (i := i) (by omega)).2 (.inr rfl)
        exact anc_apart (a := 2 * i + 1) (b := 2 * i + 2) (by omega) (by omega) (p1.trans p2.symm) (by omega) a (ui_anc f _ _ ha) (ui_anc f _ _ hb)
theorem ui_perm (h : Hp K N) {f : Nat} (hf : N ≤ f) : (ui K N t f 0).Perm ((List.range N).filter fun k => decide ((K k).2 ≤ t)) := by
  refine (List.perm_ext_iff_of_nodup (ui_nodup _ _) (List.nodup_range.filter _)).2 fun k => ?_
  simp only [List.mem_filter, List.mem_range, decide_eq_true_eq]
  exact ⟨ui_mem f 0 k, fun hk => ui_all h hf k hk.1 hk.2⟩
/-- the ones gone through -/
def ul (K : Nat → It) (N t f i : Nat) : List It := (ui K N t f i).map K
theorem ul_out {f i : Nat} (h : N ≤ i ∨ t < (K i).2) : ul K N t f i = [] := by unfold ul; rw [ui_out h]; rfl
theorem ul_in {f i : Nat} (h : ¬ (N ≤ i ∨ t < (K i).2)) : ul K N t (f + 1) i = K i :: (ul K N t f (2 * i + 1) ++ ul K N t f (2 * i + 2)) := by unfold ul; rw [ui_in h]; simp
/-- those of a list up to a time -/
def due (m : List It) (t : Nat) : List It := m.filter fun x => decide (x.2 ≤ t)
theorem ul_perm {m : List It} (hm : Has K N m) (h : Hp K N) {f : Nat} (hf : N ≤ f) : (ul K N t f 0).Perm (due m t) := by
  unfold ul due
  refine ((ui_perm h hf).map K).trans (List.Perm.trans ?_ (hm.perm.filter _))
  unfold row
  rw [List.filter_map]
  exact List.Perm.refl _
theorem ul_len {m : List It} (hm : Has K N m) (h : Hp K N) {f : Nat} (hf : N ≤ f) : (ul K N t f 0).length ≤ N := by
  rw [(ul_perm (t := t) hm h hf).length_eq, ← hm.len]
  exact List.length_filter_le _ _
theorem due_sorted {m : List It} (h : m.Pairwise Lt) (t : Nat) : (due m t).Pairwise Lt := h.filter _
/-- two lists in order with the same ones are one -/
theorem sorted_one : ∀ (l m : List It), l.Perm m → l.Pairwise Le → m.Pairwise Lt → l = m
  | [], m, h, _, _ => by rw [List.nil_perm.1 h]
  | x :: l, [], h, _, _ => by simp at h
  | x :: l, y :: m, h, hl, hm => by
    have h1 := List.pairwise_cons.1 hl
    have h2 := List.pairwise_cons.1 hm
    have e : x = y := by
      have hx : x ∈ y :: m := h.mem_iff.1 (List.mem_cons_self ..)
      have hy : y ∈ x :: l := h.mem_iff.2 (List.mem_cons_self ..)
      rcases List.mem_cons.1 hx with e | hx
      · exact e
      · rcases List.mem_cons.1 hy with e | hy
        · exact e.symm
        · exact (h1.1 y hy).anti (h2.1 x hx).le
    subst e
    rw [sorted_one l m h.cons_inv h1.2 h2.2]
theorem due_take {m : List It} (h : m.Pairwise Lt) (t : Nat) : due m t = m.takeWhile fun x => decide (x.2 ≤ t) := by
  induction m with
  | nil => rfl
  | cons x m ih =>
    have h1 := List.pairwise_cons.1 h
    by_cases hx : x.2 ≤ t
    · have := ih h1.2
      unfold due at this ⊢
      simp [hx, this]
    · have e : due m t = [] := List.filter_eq_nil_iff.2 fun y hy => by
        have := h1.1 y hy
        unfold Lt at this
        simp only [decide_eq_true_eq]
        omega
      unfold due at e ⊢
      simp [hx, e]
end Go.Proofs.YtdmibolbpgondaaGreat.U12
end

section
set_option linter.unusedSimpArgs false
set_option linter.unusedVariables false
namespace Go.Proofs.YtdmibolbpgondaaGreat.U12
open Go.RowKit Go.Lib Go.Maps Go.Proofs.YtdmibolbpgondaaGreat.Wd

/-- an item's cells -/
def ic (x : It) : List Value := [.int .u64 (x.1 : Int), .int .u64 (x.2 : Int)]
def irow (l : List It) : List Value := l.flatMap ic
theorem irow_len (l : List It) : (irow l).length = l.length * 2 := by
  induction l with
  | nil => rfl
  | cons a l ih => simp only [irow, List.flatMap_cons, List.length_append, List.length_cons] at *; rw [ih]; simp [ic]; omega
theorem irow_app (a b : List It) : irow (a ++ b) = irow a ++ irow b := List.flatMap_append
theorem irow_one (l : List It) : ∀ u ∈ irow l, u.oneCell' = true := by
  intro u hu
  obtain ⟨S, _, hS⟩ := List.mem_flatMap.1 hu
  simp only [ic, List.mem_cons, List.not_mem_nil, or_false] at hS
  rcases hS with rfl | rfl <;> rfl
theorem irow_get : ∀ (l : List It) (i : Nat) (h : i < l.length), (irow l)[2 * i]? = some (.int .u64 (l[i].1 : Int)) ∧ (irow l)[2 * i + 1]? = some (.int .u64 (l[i].2 : Int))
  | a :: l, 0, h => ⟨rfl, rfl⟩
  | a :: l, i + 1, h => by
    have ih := irow_get l i (by simpa using h)
    simp only [irow, List.flatMap_cons, List.getElem_cons_succ] at *
    have e1 : 2 * (i + 1) = 2 + 2 * i := by omega
    rw [e1, show 2 + 2 * i + 1 = 2 + (2 * i + 1) by omega]
    constructor
    · rw [List.getElem?_append_right (by simp [ic])]
      simpa [ic] using ih.1
    · rw [List.getElem?_append_right (by simp [ic])]
      simpa [ic] using ih.2
theorem irow_set : ∀ (l : List It) (i : Nat) (x : It), i < l.length → ((irow l).set (2 * i) (.int .u64 (x.1 : Int))).set (2 * i + 1) (.int .u64 (x.2 : Int)) = irow (l.set i x)
  | a :: l, 0, x, _ => rfl
  | a :: l, i + 1, x, h => by
    have ih := irow_set l i x (by simpa using h)
    have e1 : 2 * (i + 1) = 2 * i + 1 + 1 := by omega
    have e : irow (a :: l) = .int .u64 (a.1 : Int) :: .int .u64 (a.2 : Int) :: irow l := rfl
    have e' : irow ((a :: l).set (i + 1) x) = .int .u64 (a.1 : Int) :: .int .u64 (a.2 : Int) :: irow (l.set i x) := rfl
    rw [e, e', e1, ← ih]
    rfl

/-- an id as a key -/
def ik (x : Nat) : Lit := .int .u64 (x : Int)
theorem ik_inj {x y : Nat} (h : ik x = ik y) : x = y := by
  unfold ik at h
  injection h with _ h
  omega
theorem ik_key (x : Nat) : WideAt.IsKeyLit (ik x) := by simp [ik, WideAt.IsKeyLit]
def num (i : Nat) : DataW Unit := .lit (.int .i64 (i : Int))
abbrev Own (w : World) (b n : Nat) (D : DataW Unit) : Prop := w.ownsMap Tryz.prog 22 (plainElem Tryz.prog 3) b n D
theorem law : Keyed Tryz.prog 22 := int_keyed Tryz.underlying22
theorem key_ok {x : Nat} (h : (x : Int) ≤ 18446744073709551615) : keyOf Tryz.prog 22 (.int .u64 (x : Int)) = some (ik x) := keyOf_int_mk Tryz.underlying22 (WalkArith.wf_u64 (by omega))
theorem zero_int (w : World) : (zeroValue 3).run Tryz.prog w = .ok (.int .i64 0) w := by kernel_rfl
theorem num_ok {i : Nat} (h : i ≤ 100000) : plainElem (H := Unit) Tryz.prog 3 (.int .i64 (i : Int)) = some (num i, []) := plainElem_int Tryz.underlying3 (WalkArith.wf_i64 (by omega))
/-- the map tells each one's place -/
structure Pl (D : DataW Unit) (K : Nat → It) (N : Nat) : Prop where
  tidy : Tidy D
  size : Maps.size D = N
  has : ∀ x, Maps.has D (ik x) = true ↔ ∃ i, i < N ∧ (K i).1 = x
  at_ : ∀ i, i < N → D.atKey (ik (K i).1) (num 0) = num i
variable {D : DataW Unit} {K : Nat → It} {N : Nat}
theorem Pl.empty (K : Nat → It) : Pl (.map []) K 0 := ⟨tidy_empty, rfl, fun x => by simp [Maps.has], fun i h => by omega⟩
theorem has_put {x y : Nat} {d : DataW Unit} (h : Tidy D) : Maps.has (D.put (ik x) d) (ik y) = true ↔ y = x ∨ Maps.has D (ik y) = true := by
  by_cases e : y = x
  · subst e
    rw [has_put_same h.isMap (ik_key y)]
    simp
  · rw [has_put_other (fun e' => e (ik_inj e'))]
    simp [e]
theorem Pl.sw {i j : Nat} (h : Pl D K N) (hn : Nd K N) (hi : i < N) (hj : j < N) (hij : i ≠ j) : Pl ((D.put (ik (K j).1) (num i)).put (ik (K i).1) (num j)) (sw K i j) N := by
  have t1 := h.tidy.put (ik_key (K j).1) (num i)
  have hx : (K i).1 ≠ (K j).1 := fun e => hij (hn i j hi hj e)
  have h1 : Maps.has D (ik (K i).1) = true := (h.has _).2 ⟨i, hi, rfl⟩
  have h2 : Maps.has D (ik (K j).1) = true := (h.has _).2 ⟨j, hj, rfl⟩
  refine ⟨t1.put (ik_key _) _, ?_, fun x => ?_, fun k hk => ?_⟩
  · rw [size_put t1, (has_put h.tidy).2 (.inr h1), if_pos rfl, size_put h.tidy, h2, if_pos rfl, h.size]
  · rw [has_put t1, has_put h.tidy, h.has]
    constructor
    · rintro (rfl | rfl | ⟨k, hk, rfl⟩)
      · exact ⟨j, hj, by rw [sw_j]⟩
      · exact ⟨i, hi, by rw [sw_i]⟩
      · exact ⟨tr i j k, tr_lt hi hj hk, by unfold U12.sw; rw [tr_inv]⟩
    · rintro ⟨k, hk, rfl⟩
      exact .inr (.inr ⟨tr i j k, tr_lt hi hj hk, rfl⟩)
  · by_cases e1 : k = j
    · subst e1
      rw [sw_j, atKey_put_same t1.isMap (ik_key _)]
    · by_cases e2 : k = i
      · subst e2
        rw [sw_i, atKey_put_other (fun e => hx (ik_inj e).symm), atKey_put_same h.tidy.isMap (ik_key _)]
      · rw [sw_o K e2 e1, atKey_put_other (fun e => e2 (hn k i hk hi (ik_inj e))), atKey_put_other (fun e => e1 (hn k j hk hj (ik_inj e)))]
        exact h.at_ k hk
theorem Pl.push (h : Pl D K N) (x : It) (hx : ∀ i, i < N → (K i).1 ≠ x.1) : Pl (D.put (ik x.1) (num N)) (up1 K N x) (N + 1) := by
  have h1 : Maps.has D (ik x.1) = false := by
    cases hb : Maps.has D (ik x.1)
    · rfl
    · obtain ⟨i, hi, e⟩ := (h.has _).1 hb
      exact absurd e (hx i hi)
  refine ⟨h.tidy.put (ik_key _) _, ?_, fun y => ?_, fun k hk => ?_⟩
  · rw [size_put h.tidy, h1, h.size]; rfl
  · rw [has_put h.tidy, h.has]
    constructor
    · rintro (rfl | ⟨k, hk, rfl⟩)
      · exact ⟨N, by omega, by rw [up1_same]⟩
      · exact ⟨k, by omega, by rw [up1_other K x (by omega)]⟩
    · rintro ⟨k, hk, rfl⟩
      by_cases e : k = N
      · subst e
        exact .inl (by rw [up1_same])
      · exact .inr ⟨k, by omega, by rw [up1_other K x e]⟩
  · by_cases e : k = N
    · subst e
      rw [up1_same, atKey_put_same h.tidy.isMap (ik_key _)]
    · rw [up1_other K x e, atKey_put_other (fun e' => hx k (by omega) (ik_inj e'))]
      exact h.at_ k (by omega)
theorem Pl.set (h : Pl D K N) {i : Nat} {x : It} (hi : i < N) (hx : (K i).1 = x.1) : Pl D (up1 K i x) N := by
  have hk : ∀ k, (up1 K i x k).1 = (K k).1 := fun k => by
    by_cases e : k = i
    · subst e
      rw [up1_same, hx]
    · rw [up1_other K x e]
  exact ⟨h.tidy, h.size, fun y => by rw [h.has]; simp only [hk], fun k hk' => by rw [hk]; exact h.at_ k hk'⟩
theorem Pl.pop {M : Nat} (h : Pl D K (M + 1)) (hn : Nd K (M + 1)) : Pl (D.del (ik (K M).1)) K M := by
  have h1 : Maps.has D (ik (K M).1) = true := (h.has _).2 ⟨M, by omega, rfl⟩
  refine ⟨h.tidy.del _, ?_, fun y => ?_, fun k hk => ?_⟩
  · have := size_del (k := ik (K M).1) h.tidy
    rw [h1, if_pos rfl, h.size] at this
    omega
  · by_cases e : y = (K M).1
    · subst e
      rw [has_del_same]
      constructor
      · intro h; cases h
      · rintro ⟨k, hk, e⟩
        exact absurd (hn k M (by omega) (by omega) e) (by omega)
    · rw [has_del_other (fun e' => e (ik_inj e')), h.has]
      constructor
      · rintro ⟨k, hk, rfl⟩
        have : k ≠ M := fun e' => e (by rw [e'])
        exact ⟨k, by omega, rfl⟩
      · rintro ⟨k, hk, rfl⟩
        exact ⟨k, by omega, rfl⟩
  · rw [atKey_del_other (fun e => by have := hn k M (by omega) (by omega) (ik_inj e); omega)]
    exact h.at_ k (by omega)

/-- block p is a struct with the row A of N items K and the map b that reads as D -/
structure Im (w : World) (p : Nat) (A : Option Addr) (c b N : Nat) (K : Nat → It) (D : DataW Unit) : Prop where
  c0 : w.cell? ⟨p, 0, none⟩ = some (.slice A N c)
  c1 : w.cell? ⟨p, 1, none⟩ = some (.map (some b))
  f0 : w.frozen? ⟨p, 0, none⟩ = false
  row : w.ownsRow 0 132 2 (.slice A N c) N (irow (row K N))
  map : Own w b (Maps.size D) D
  ap : ∀ a, A = some a → a.block ≠ p ∧ a.block ≠ b
  pb : p ≠ b
  few : N ≤ 1000
  num : ∀ i, i < N → ((K i).1 : Int) ≤ 18446744073709551615 ∧ ((K i).2 : Int) ≤ 18446744073709551615
variable {w w' : World} {p c b : Nat} {A : Option Addr}
def own (p : Nat) (A : Option Addr) (b : Nat) : List Nat := p :: b :: (A.map (·.block)).toList
theorem mem_own {x : Nat} : x ∈ own p A b ↔ x = p ∨ x = b ∨ ∃ a, A = some a ∧ x = a.block := by
  cases A <;> simp [own]
theorem Im.lt (h : Im w p A c b N K D) : ∀ x ∈ own p A b, x < w.heap.size := by
  intro x hx
  rcases mem_own.1 hx with rfl | rfl | ⟨a, rfl, rfl⟩
  · exact World.block_lt_of_cell? _ _ h.c0
  · exact h.map.lt
  · exact (h.row.lt _ rfl).2
theorem Im.same (h : Im w p A c b N K D) (hk : ∀ x ∈ own p A b, w'.heap[x]? = w.heap[x]?) : Im w' p A c b N K D := by
  have hp := hk p (mem_own.2 (.inl rfl))
  refine ⟨(World.cell?_of_block (a := ⟨p, 0, none⟩) hp).trans h.c0, (World.cell?_of_block (a := ⟨p, 1, none⟩) hp).trans h.c1, (World.frozen?_of_block (a := ⟨p, 0, none⟩) hp).trans h.f0,
    row_kept h.row (fun k hv => ?_), map_kept h.map (hk b (mem_own.2 (.inr (.inl rfl)))), h.ap, h.pb, h.few, h.num⟩
  cases A with
  | none => cases hv
  | some a =>
    injection hv with hv
    subst hv
    exact hk _ (mem_own.2 (.inr (.inr ⟨a, rfl, rfl⟩)))
theorem Im.below (h : Im w p A c b N K D) (hb : Below w.heap.size w w') : Im w' p A c b N K D := h.same fun x hx => hb.block x (h.lt x hx)
theorem Im.fr {o : List Nat} (h : Im w p A c b N K D) (hb : Fr o w w') (ho : ∀ x ∈ own p A b, x ∉ o) : Im w' p A c b N K D := h.same fun x hx => hb.block x (h.lt x hx) (ho x hx)
/-- where an item is -/
theorem Im.get (h : Im w p A c b N K D) {i : Nat} (hi : i < N) : ∃ g, A = some ⟨g, 0, none⟩ ∧ w.cell? ⟨g, i * 2, none⟩ = some (.int .u64 ((K i).1 : Int)) ∧ w.cell? ⟨g, i * 2 + 1, none⟩ = some (.int .u64 ((K i).2 : Int)) ∧
    (∀ j, w.frozen? ⟨g, j, none⟩ = false) ∧ N ≤ c ∧ c ≤ maxLen := by
  have hr := h.row
  rcases hr.2 with ⟨hv, h0⟩ | ⟨g, cap, cur, hv, hb, hg, hnc, hm, _⟩
  · omega
  · injection hv with h1 h2 h3
    subst h1; subst h3
    have hl : i < (U12.row K N).length := by rw [row_len]; exact hi
    obtain ⟨g0, g1⟩ := irow_get _ i hl
    rw [row_get] at g0 g1
    rw [Nat.mul_comm] at g0 g1
    exact ⟨g, rfl, (hr.cellAt (i * 2) (by omega)).trans g0, (hr.cellAt (i * 2 + 1) (by omega)).trans g1, fun j => hr.frozenAt j, hnc, hm⟩
/-- an item stored -/
def iput (w : World) (g i : Nat) (x : It) : World := (w.setCell ⟨g, i * 2, none⟩ (.int .u64 (x.1 : Int))).setCell ⟨g, i * 2 + 1, none⟩ (.int .u64 (x.2 : Int))
theorem heap_iput (w : World) (g i : Nat) (x : It) (k : Nat) (h : k ≠ g) : (iput w g i x).heap[k]? = w.heap[k]? := by
  unfold iput
  rw [heap_setCell_other _ _ _ _ h, heap_setCell_other _ _ _ _ h]
theorem size_iput (w : World) (g i : Nat) (x : It) : (iput w g i x).heap.size = w.heap.size := by unfold iput; simp
theorem Im.set {g i : Nat} {x : It} (h : Im w p (some ⟨g, 0, none⟩) c b N K D) (hi : i < N) (hx : (x.1 : Int) ≤ 18446744073709551615 ∧ (x.2 : Int) ≤ 18446744073709551615) :
    Im (iput w g i x) p (some ⟨g, 0, none⟩) c b N (up1 K i x) D ∧ Fr (own p (some ⟨g, 0, none⟩) b) w (iput w g i x) := by
  have hap := h.ap _ rfl
  have hp := heap_iput w g i x p (Ne.symm hap.1)
  have hl : i < (U12.row K N).length := by rw [row_len]; exact hi
  have h1 := (h.row.stored (i * 2) (.int .u64 (x.1 : Int))).1
  have h2 := (h1.stored (i * 2 + 1) (.int .u64 (x.2 : Int))).1
  rw [Nat.mul_comm i 2, irow_set _ _ _ hl, row_set, ← Nat.mul_comm i 2] at h2
  refine ⟨⟨(World.cell?_of_block (a := ⟨p, 0, none⟩) hp).trans h.c0, (World.cell?_of_block (a := ⟨p, 1, none⟩) hp).trans h.c1, (World.frozen?_of_block (a := ⟨p, 0, none⟩) hp).trans h.f0, h2,
    map_kept h.map (heap_iput w g i x b (Ne.symm hap.2)), h.ap, h.pb, h.few, fun k hk => ?_⟩, ⟨rfl, rfl, rfl, by rw [size_iput]; exact Nat.le_refl _, fun k _ hn => heap_iput w g i x k (fun e => hn (by subst e; exact mem_own.2 (.inr (.inr ⟨_, rfl, rfl⟩))))⟩⟩
  by_cases e : k = i
  · subst e
    rw [up1_same]; exact hx
  · rw [up1_other K x e]
    exact h.num k hk
/-- the map turned -/
theorem Im.turn {D' : DataW Unit} {n : Nat} (h : Im w p A c b N K D) (hm : Own w' b n D') (hg : w.grownBy w' (some b)) : Im w' p A c b N K D' ∧ Fr (own p A b) w w' := by
  have hlt := h.lt
  have hk : ∀ x ∈ own p A b, x ≠ b → w'.heap[x]? = w.heap[x]? := fun x hx hn => hg.block x (hlt x hx) (fun e => hn (by injection e))
  have hp := hk p (mem_own.2 (.inl rfl)) h.pb
  refine ⟨⟨(World.cell?_of_block (a := ⟨p, 0, none⟩) hp).trans h.c0, (World.cell?_of_block (a := ⟨p, 1, none⟩) hp).trans h.c1, (World.frozen?_of_block (a := ⟨p, 0, none⟩) hp).trans h.f0,
    row_kept h.row (fun k hv => ?_), map_size hm, h.ap, h.pb, h.few, h.num⟩, Fr.of_grown hg (fun k hk' => ?_)⟩
  · cases A with
    | none => cases hv
    | some a =>
      injection hv with hv
      subst hv
      exact hk _ (mem_own.2 (.inr (.inr ⟨a, rfl, rfl⟩))) (h.ap a rfl).2
  · injection hk' with hk'
    subst hk'
    exact mem_own.2 (.inr (.inl rfl))
end Go.Proofs.YtdmibolbpgondaaGreat.U12
end
