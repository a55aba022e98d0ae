/-
  Three clocks; what they know behind any acts in one order or another.
-/
import Derived.Test.YtmonjlnmkkdnfaaW13Min
import Derived.Test.YtmonjlnmkkdnfaaW13Open
set_option linter.unusedSimpArgs false
set_option linter.unusedVariables false
namespace Go.Proofs.Ytmonjlnmkkdnfaa.W13
open Go.RowKit Go.Lib Go.Proofs.Ytmonjlnmkkdnfaa.Wd

/-- the greatest ends behind an act -/
def sayA (n : Nat) (M : Nat → Nat) (y : Ac) : Nat → Nat := if y.S < 0 then M else sy M (y.S % (n : Int)).toNat (y.E % 4611686018427387904)
def md (n : Nat) (f : Nat → Ac) : Nat → Nat → Nat
  | 0 => fun _ => 0
  | i + 1 => sayA n (md n f i) (f i)
/-- does an act say something of source s? -/
def hits (n : Nat) (y : Ac) (s : Nat) : Prop := ¬ y.S < 0 ∧ (y.S % (n : Int)).toNat = s
def val (y : Ac) : Nat := y.E % 4611686018427387904
theorem sayA_at (n : Nat) (M : Nat → Nat) (y : Ac) (s : Nat) : (hits n y s → sayA n M y s = max (M s) (val y)) ∧ (¬ hits n y s → sayA n M y s = M s) := by
  unfold sayA hits
  constructor
  · rintro ⟨h, rfl⟩
    rw [if_neg h]
    unfold sy
    rw [upn_same]
    rfl
  · intro h
    by_cases h1 : y.S < 0
    · rw [if_pos h1]
    · rw [if_neg h1]
      unfold sy
      rw [upn_other _ _ (fun e => h ⟨h1, e.symm⟩)]
theorem md_up (n : Nat) (f : Nat → Ac) (s : Nat) : ∀ i j, j < i → hits n (f j) s → val (f j) ≤ md n f i s
  | i + 1, j, hj, h => by
    obtain ⟨h1, h2⟩ := sayA_at n (md n f i) (f i) s
    show _ ≤ sayA n (md n f i) (f i) s
    by_cases e : j = i
    · subst e
      rw [h1 h]
      omega
    · have ih := md_up n f s i j (by omega) h
      by_cases hh : hits n (f i) s
      · rw [h1 hh]; omega
      · rw [h2 hh]; exact ih
theorem md_low (n : Nat) (f : Nat → Ac) (s : Nat) : ∀ i, md n f i s = 0 ∨ ∃ j, j < i ∧ hits n (f j) s ∧ val (f j) = md n f i s
  | 0 => .inl rfl
  | i + 1 => by
    obtain ⟨h1, h2⟩ := sayA_at n (md n f i) (f i) s
    show sayA n (md n f i) (f i) s = 0 ∨ ∃ j, j < i + 1 ∧ hits n (f j) s ∧ val (f j) = sayA n (md n f i) (f i) s
    by_cases hh : hits n (f i) s
    · rw [h1 hh]
      by_cases hc : md n f i s ≤ val (f i)
      · exact .inr ⟨i, by omega, hh, by omega⟩
      · rcases md_low n f s i with h0 | ⟨j, hj, h3, h4⟩
        · omega
        · exact .inr ⟨j, by omega, h3, by omega⟩
    · rw [h2 hh]
      rcases md_low n f s i with h0 | ⟨j, hj, h3, h4⟩
      · exact .inl h0
      · exact .inr ⟨j, by omega, h3, h4⟩
theorem md_le {n : Nat} {f g : Nat → Ac} {N : Nat} (h : ∀ j, j < N → ∃ k, k < N ∧ g k = f j) (s : Nat) : md n f N s ≤ md n g N s := by
  rcases md_low n f s N with h0 | ⟨j, hj, h3, h4⟩
  · omega
  · obtain ⟨k, hk, e⟩ := h j hj
    rw [← h4, ← e]
    exact md_up n g s N k hk (by rw [e]; exact h3)
theorem way_lt (n k y : Nat) (h : 0 < n) : (n - 1 - k + y) % n < n := Nat.mod_lt _ h
theorem way_back {N k : Nat} (y : Nat) (hk : k < N) : ∃ j, j < N ∧ (N - 1 - j + y) % N = k := by
  refine ⟨(N - 1 + y - k) % N, Nat.mod_lt _ (by omega), ?_⟩
  have h1 := Nat.div_add_mod (N - 1 + y - k) N
  have h2 := Nat.mod_lt (N - 1 + y - k) (show N > 0 by omega)
  generalize (N - 1 + y - k) % N = r at *
  generalize (N - 1 + y - k) / N = q at *
  obtain ⟨z, hz⟩ : ∃ z, N * q = z := ⟨_, rfl⟩
  have e : N - 1 - r + y = k + N * q := by rw [hz] at h1 ⊢; omega
  rw [e, Nat.add_mul_mod_self_left, Nat.mod_eq_of_lt hk]
/-- the acts in their order, and in the other one -/
def fA (L : List Ac) (j : Nat) : Ac := L.getD j default
def fB (L : List Ac) (y j : Nat) : Ac := L.getD ((L.length - 1 - j + y) % L.length) default
theorem fA_get {L : List Ac} {j : Nat} (h : j < L.length) : fA L j = L[j] := by unfold fA; simp [h]
theorem fB_get {L : List Ac} {y j : Nat} (h : 0 < L.length) : fB L y j = L[(L.length - 1 - j + y) % L.length]'(way_lt _ _ _ h) := by
  unfold fB
  simp [way_lt L.length j y h]
theorem md_same (n : Nat) (L : List Ac) (y s : Nat) : md n (fA L) L.length s = md n (fB L y) L.length s := by
  refine Nat.le_antisymm (md_le (fun j hj => ?_) s) (md_le (fun j hj => ?_) s)
  · obtain ⟨k, hk, e⟩ := way_back y hj
    exact ⟨k, hk, by unfold fA fB; rw [e]⟩
  · exact ⟨_, way_lt _ j y (by omega), rfl⟩
theorem Zn.say {n l : Nat} {c : Cl} {M : Nat → Nat} (h : Zn n l c M) {y : Ac} (h0 : ¬ y.S < 0) {s e : Nat} (hs : y.S % (n : Int) = (s : Int)) (he : (y.E : Int) % 4611686018427387904 = (e : Int)) : Zn n l (c.see s e) (sayA n M y) := by
  have hsn : s < n := by have := Int.emod_lt_of_pos y.S (b := (n : Int)) (by have := h.pos; omega); omega
  have e1 : sayA n M y = sy M s e := by
    unfold sayA
    rw [if_neg h0, hs]
    congr 1
    omega
  rw [e1]
  exact h.see hsn e
theorem sayA_neg {n : Nat} {M : Nat → Nat} {y : Ac} (h0 : y.S < 0) : sayA n M y = M := by unfold sayA; rw [if_pos h0]

theorem Zn.next_neg {n l i : Nat} {c : Cl} {f : Nat → Ac} {x : Ac} (h : Zn n l c (md n f i)) (e : f i = x) (h0 : x.S < 0) : Zn n l c (md n f (i + 1)) := by
  show Zn n l c (sayA n (md n f i) (f i))
  rw [e, sayA_neg h0]
  exact h
theorem Zn.next_say {n l i : Nat} {c : Cl} {f : Nat → Ac} {x : Ac} (h : Zn n l c (md n f i)) (e : f i = x) (h0 : ¬ x.S < 0) {s k : Nat} (hs : x.S % (n : Int) = (s : Int)) (he : (x.E : Int) % 4611686018427387904 = (k : Int)) : Zn n l (c.see s k) (md n f (i + 1)) := by
  show Zn n l (c.see s k) (sayA n (md n f i) (f i))
  rw [e]
  exact h.say h0 hs he
theorem Zn.later {n l m : Nat} {c d : Cl} {M : Nat → Nat} (h : Zn n l c M) (k : Zn n (l + m) d M) : d.mark ≤ c.mark := by
  rw [h.mark, k.mark]
  omega
/-- blocks from H on are as they were -/
def Kp (H : Nat) (w w' : World) : Prop := ∀ b, H ≤ b → b < w.heap.size → w'.heap[b]? = w.heap[b]?
/-- three clocks below H -/
def T3 (w0 w : World) (pa pb pc : Nat) (ca cb cc : Cl) (H : Nat) : Prop :=
  ∃ l1 h1 l2 h2 l3, Ci w pa l1 h1 ca ∧ Ci w pb l2 h2 cb ∧ Ci w pc l3 H cc ∧ w0.heap.size ≤ l1 ∧ h1 ≤ l2 ∧ h2 ≤ l3 ∧ H ≤ w.heap.size ∧ Below w0.heap.size w0 w
/-- an act in a block of the call's own -/
def Bx (w : World) (b : Nat) (y : Ac) : Prop := w.heap[b]? = some (.cells #[.int .i64 y.S, .int .u64 (y.E : Int)] 30)
section
variable {w0 w w' : World} {pa pb pc H b : Nat} {ca cb cc : Cl} {y : Ac}
theorem Bx.lt (h : Bx w b y) : b < w.heap.size := (Array.getElem?_eq_some_iff.1 h).1
theorem Bx.kp (h : Bx w b y) (k : Kp H w w') (hH : H ≤ b) : Bx w' b y := (k b hH h.lt).trans h
theorem Bx.below (h : Bx w b y) (k : Below w.heap.size w w') : Bx w' b y := (k.block b h.lt).trans h
theorem Bx.c0 (h : Bx w b y) : w.cell? ⟨b, 0, none⟩ = some (.int .i64 y.S) := cell_of h rfl
theorem Bx.c1 (h : Bx w b y) : w.cell? ⟨b, 1, none⟩ = some (.int .u64 (y.E : Int)) := cell_of h rfl
theorem Ci.lohi {p lo hi : Nat} {c : Cl} (h : Ci w p lo hi c) : lo < hi := by obtain ⟨g, _, _, h1, h2, _⟩ := h; omega
theorem T3.bel (h : T3 w0 w pa pb pc ca cb cc H) : Below w0.heap.size w0 w := by obtain ⟨_, _, _, _, _, _, _, _, _, _, _, _, b⟩ := h; exact b
theorem T3.hle (h : T3 w0 w pa pb pc ca cb cc H) : H ≤ w.heap.size := by obtain ⟨_, _, _, _, _, _, _, _, _, _, _, b, _⟩ := h; exact b
theorem T3.below (h : T3 w0 w pa pb pc ca cb cc H) (k : Below w.heap.size w w') : T3 w0 w' pa pb pc ca cb cc H := by
  obtain ⟨l1, h1, l2, h2, l3, a, b, c, q1, q2, q3, q4, q5⟩ := h
  exact ⟨l1, h1, l2, h2, l3, a.below k, b.below k, c.below k, q1, q2, q3, Nat.le_trans q4 k.size, q5.trans (k.mono q5.size)⟩
theorem kp_fx {lo hi : Nat} (F : Fx lo hi w w') (h : hi ≤ H) : Kp H w w' := fun b h1 h2 => F.block b h2 (.inr (by omega))
theorem T3.seeA (h : T3 w0 w pa pb pc ca cb cc H) (s e : Nat) (hs : s < ca.N) (he : e ≤ 4611686018427387904) :
    Calls Try.prog 11 #[.pointer (some ⟨pa, 0, none⟩), .int .i64 (s : Int), .int .u64 (e : Int)] w fun e' w' => e' = .returned (.int .i64 0) ∧ T3 w0 w' pa pb pc (ca.see s e) cb cc H ∧ Kp H w w' := by
  obtain ⟨l1, h1, l2, h2, l3, a, b, c, q1, q2, q3, q4, q5⟩ := h
  have i1 := a.lohi
  have i2 := b.lohi
  have i3 := c.lohi
  exact (see_at s e a hs he).mono fun _ _ ⟨e1, k2, F⟩ => ⟨e1, ⟨l1, h1, l2, h2, l3, k2, b.fx F (.inr q2), c.fx F (.inr (by omega)), q1, q2, q3, Nat.le_trans q4 F.size, q5.trans (F.below q1 q5.size)⟩, kp_fx F (by omega)⟩
theorem T3.seeB (h : T3 w0 w pa pb pc ca cb cc H) (s e : Nat) (hs : s < cb.N) (he : e ≤ 4611686018427387904) :
    Calls Try.prog 11 #[.pointer (some ⟨pb, 0, none⟩), .int .i64 (s : Int), .int .u64 (e : Int)] w fun e' w' => e' = .returned (.int .i64 0) ∧ T3 w0 w' pa pb pc ca (cb.see s e) cc H ∧ Kp H w w' := by
  obtain ⟨l1, h1, l2, h2, l3, a, b, c, q1, q2, q3, q4, q5⟩ := h
  have i1 := a.lohi
  have i2 := b.lohi
  have i3 := c.lohi
  exact (see_at s e b hs he).mono fun _ _ ⟨e1, k2, F⟩ => ⟨e1, ⟨l1, h1, l2, h2, l3, a.fx F (.inl q2), k2, c.fx F (.inr q3), q1, q2, q3, Nat.le_trans q4 F.size, q5.trans (F.below (by omega) q5.size)⟩, kp_fx F (by omega)⟩
theorem T3.seeC (h : T3 w0 w pa pb pc ca cb cc H) (s e : Nat) (hs : s < cc.N) (he : e ≤ 4611686018427387904) :
    Calls Try.prog 11 #[.pointer (some ⟨pc, 0, none⟩), .int .i64 (s : Int), .int .u64 (e : Int)] w fun e' w' => e' = .returned (.int .i64 0) ∧ T3 w0 w' pa pb pc ca cb (cc.see s e) H ∧ Kp H w w' := by
  obtain ⟨l1, h1, l2, h2, l3, a, b, c, q1, q2, q3, q4, q5⟩ := h
  have i1 := a.lohi
  have i2 := b.lohi
  have i3 := c.lohi
  exact (see_at s e c hs he).mono fun _ _ ⟨e1, k2, F⟩ => ⟨e1, ⟨l1, h1, l2, h2, l3, a.fx F (.inl (by omega)), b.fx F (.inl q3), k2, q1, q2, q3, Nat.le_trans q4 F.size, q5.trans (F.below (by omega) q5.size)⟩, kp_fx F (Nat.le_refl _)⟩
theorem T3.markA (h : T3 w0 w pa pb pc ca cb cc H) : Calls Try.prog 13 #[.pointer (some ⟨pa, 0, none⟩)] w fun e w' => e = .returned (.int .u64 (ca.mark : Int)) ∧ w = w' := by
  obtain ⟨l1, h1, l2, h2, l3, a, b, c, _⟩ := h
  exact mark_at a
theorem T3.markB (h : T3 w0 w pa pb pc ca cb cc H) : Calls Try.prog 13 #[.pointer (some ⟨pb, 0, none⟩)] w fun e w' => e = .returned (.int .u64 (cb.mark : Int)) ∧ w = w' := by
  obtain ⟨l1, h1, l2, h2, l3, a, b, c, _⟩ := h
  exact mark_at b
theorem T3.markC (h : T3 w0 w pa pb pc ca cb cc H) : Calls Try.prog 13 #[.pointer (some ⟨pc, 0, none⟩)] w fun e w' => e = .returned (.int .u64 (cc.mark : Int)) ∧ w = w' := by
  obtain ⟨l1, h1, l2, h2, l3, a, b, c, _⟩ := h
  exact mark_at c
end
/-- between two rounds: all that is known of the three -/
structure O3 (w0 w : World) (pa pb pc n l m y H i : Nat) (L : List Ac) (ca cb cc : Cl) : Prop where
  t : T3 w0 w pa pb pc ca cb cc H
  a : Zn n l ca (md n (fA L) i)
  b : Zn n l cb (md n (fB L y) i)
  c : Zn n (l + m) cc (md n (fA L) i)
end Go.Proofs.Ytmonjlnmkkdnfaa.W13
