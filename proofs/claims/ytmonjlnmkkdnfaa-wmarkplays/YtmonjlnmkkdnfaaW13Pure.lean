/-
  A clock in plain words: what it knows of its sources, the least mark of those that aren't idle, and how the mark goes up.
-/
import Derived.Test.YtmonjlnmkkdnfaaRows
set_option linter.unusedSimpArgs false
set_option linter.unusedVariables false
namespace Go.Proofs.Ytmonjlnmkkdnfaa.W13

/-- what is known of a source: its greatest end, and the tick at which it said something last -/
abbrev Kn := Nat × Nat
def up1 (K : Nat → Kn) (i : Nat) (x : Kn) : Nat → Kn := fun k => if k = i then x else K k
theorem up1_same (K : Nat → Kn) (i : Nat) (x : Kn) : up1 K i x i = x := if_pos rfl
theorem up1_other (K : Nat → Kn) {i k : Nat} (x : Kn) (h : k ≠ i) : up1 K i x k = K k := if_neg h

/-- the lesser one of two, where there are any -/
def omin : Option Nat → Option Nat → Option Nat
  | none, b => b
  | some a, none => some a
  | some a, some b => some (min a b)
/-- the least one of the first k -/
def lo (f : Nat → Option Nat) : Nat → Option Nat
  | 0 => none
  | k + 1 => omin (lo f k) (f k)
def up (m : Nat) : Option Nat → Nat
  | none => m
  | some x => max m x
theorem up_le (m : Nat) (o : Option Nat) : m ≤ up m o := by
  cases o <;> unfold up <;> simp only [] <;> omega
theorem lo_congr {f g : Nat → Option Nat} : ∀ k, (∀ i, i < k → f i = g i) → lo f k = lo g k
  | 0, _ => rfl
  | k + 1, h => by
    unfold lo
    rw [lo_congr k (fun i hi => h i (by omega)), h k (by omega)]
/-- what is told of the least one -/
theorem lo_none {f : Nat → Option Nat} : ∀ k, lo f k = none → ∀ i, i < k → f i = none
  | k + 1, h, i, hi => by
    unfold lo at h
    cases ha : lo f k with
    | some a =>
      rw [ha] at h
      cases hb : f k <;> rw [hb] at h <;> cases h
    | none =>
      rw [ha] at h
      have h' : f k = none := h
      by_cases e : i = k
      · subst e; exact h'
      · exact lo_none k ha i (by omega)
theorem lo_some {f : Nat → Option Nat} {x : Nat} : ∀ k, lo f k = some x → (∃ i, i < k ∧ f i = some x) ∧ ∀ i y, i < k → f i = some y → x ≤ y
  | k + 1, h => by
    unfold lo at h
    cases ha : lo f k with
    | none =>
      rw [ha] at h
      have h' : f k = some x := h
      refine ⟨⟨k, by omega, h'⟩, fun i y hi hy => ?_⟩
      by_cases e : i = k
      · subst e
        rw [h'] at hy
        injection hy with hy
        omega
      · have := lo_none k ha i (by omega)
        rw [this] at hy
        cases hy
    | some a =>
      obtain ⟨⟨j, hj, hja⟩, hmin⟩ := lo_some k ha
      rw [ha] at h
      cases hb : f k with
      | none =>
        rw [hb] at h
        injection h with h
        subst h
        refine ⟨⟨j, by omega, hja⟩, fun i y hi hy => ?_⟩
        by_cases e : i = k
        · subst e
          rw [hb] at hy
          cases hy
        · exact hmin i y (by omega) hy
      | some b =>
        rw [hb] at h
        injection h with h
        have hle : x ≤ a ∧ x ≤ b := by omega
        refine ⟨?_, fun i y hi hy => ?_⟩
        · by_cases hab : a ≤ b
          · exact ⟨j, by omega, by rw [hja]; congr 1; omega⟩
          · exact ⟨k, by omega, by rw [hb]; congr 1; omega⟩
        · by_cases e : i = k
          · subst e
            rw [hb] at hy
            injection hy with hy
            omega
          · have := hmin i y (by omega) hy
            omega
theorem lo_eq {f : Nat → Option Nat} {x k i : Nat} (hi : i < k) (hx : f i = some x) (hm : ∀ j y, j < k → f j = some y → x ≤ y) : lo f k = some x := by
  cases h : lo f k with
  | none =>
    have := lo_none k h i hi
    rw [hx] at this
    cases this
  | some z =>
    obtain ⟨⟨j, hj, hz⟩, hz2⟩ := lo_some k h
    have h1 := hm j z hj hz
    have h2 := hz2 i x hi hx
    congr 1
    omega

/-- is a source idle? -/
def qt (now idle : Nat) (x : Kn) : Bool := decide (idle ≠ 0) && decide (x.2 + idle ≤ now)
theorem qt_true {now idle : Nat} {x : Kn} : qt now idle x = true ↔ idle ≠ 0 ∧ x.2 + idle ≤ now := by unfold qt; simp
/-- a clock -/
structure Cl where
  N : Nat
  late : Nat
  idle : Nat
  now : Nat
  mark : Nat
  K : Nat → Kn
namespace Cl
/-- a source's mark, where it isn't idle -/
def mk_ (c : Cl) (s : Nat) : Option Nat := if qt c.now c.idle (c.K s) then none else some ((c.K s).1 - c.late)
def adv (c : Cl) : Cl := { c with mark := up c.mark (lo c.mk_ c.N) }
def said (c : Cl) (s e : Nat) : Cl := { c with K := up1 c.K s (max (c.K s).1 e, c.now) }
def see (c : Cl) (s e : Nat) : Cl := (c.said s e).adv
def tick (c : Cl) : Cl := { c with now := c.now + 1 }.adv
def init (N late idle : Nat) : Cl := ⟨N, late, idle, 0, 0, fun _ => (0, 0)⟩
/-- the numbers are within what the machine holds -/
structure Ok (c : Cl) : Prop where
  n0 : 0 < c.N
  n1 : c.N ≤ 16
  late : c.late ≤ 4611686018427387904
  idle : c.idle ≤ 4611686018427387904
  now : c.now ≤ 100000
  mark : c.mark ≤ 4611686018427387904
  end_ : ∀ s, s < c.N → (c.K s).1 ≤ 4611686018427387904
  last : ∀ s, s < c.N → (c.K s).2 ≤ c.now
theorem Ok.init {N late idle : Nat} (h0 : 0 < N) (h1 : N ≤ 16) (hl : late ≤ 4611686018427387904) (hi : idle ≤ 4611686018427387904) : (init N late idle).Ok :=
  ⟨h0, h1, hl, hi, Nat.zero_le _, Nat.zero_le _, fun _ _ => Nat.zero_le _, fun _ _ => Nat.zero_le _⟩
theorem mk_le {c : Cl} (h : c.Ok) {s x : Nat} (hs : s < c.N) (hx : c.mk_ s = some x) : x ≤ 4611686018427387904 := by
  unfold mk_ at hx
  split at hx
  · cases hx
  · injection hx with hx
    have := h.end_ s hs
    omega
theorem Ok.adv {c : Cl} (h : c.Ok) : c.adv.Ok := by
  refine ⟨h.n0, h.n1, h.late, h.idle, h.now, ?_, h.end_, h.last⟩
  show up c.mark (lo c.mk_ c.N) ≤ _
  have hm := h.mark
  cases hl : lo c.mk_ c.N with
  | none => exact hm
  | some x =>
    obtain ⟨⟨i, hi, hx⟩, _⟩ := lo_some _ hl
    have := mk_le h hi hx
    show max c.mark x ≤ _
    omega
theorem Ok.said {c : Cl} (h : c.Ok) (s e : Nat) (he : e ≤ 4611686018427387904) : (c.said s e).Ok := by
  refine ⟨h.n0, h.n1, h.late, h.idle, h.now, h.mark, fun k hk => ?_, fun k hk => ?_⟩
  · show (up1 c.K s _ k).1 ≤ _
    by_cases e : k = s
    · subst e
      rw [up1_same]
      have := h.end_ k hk
      show max _ _ ≤ _
      omega
    · rw [up1_other _ _ e]; exact h.end_ k hk
  · show (up1 c.K s _ k).2 ≤ c.now
    by_cases e : k = s
    · subst e
      rw [up1_same]
      exact Nat.le_refl _
    · rw [up1_other _ _ e]; exact h.last k hk
theorem Ok.see {c : Cl} (h : c.Ok) (s e : Nat) (he : e ≤ 4611686018427387904) : (c.see s e).Ok := (h.said s e he).adv
theorem Ok.ticked {c : Cl} (h : c.Ok) (hn : c.now < 100000) : ({ c with now := c.now + 1 } : Cl).Ok := ⟨h.n0, h.n1, h.late, h.idle, Nat.succ_le_of_lt hn, h.mark, h.end_, fun s hs => Nat.le_succ_of_le (h.last s hs)⟩
theorem Ok.tick {c : Cl} (h : c.Ok) (hn : c.now < 100000) : c.tick.Ok := (h.ticked hn).adv
end Cl
end Go.Proofs.Ytmonjlnmkkdnfaa.W13
