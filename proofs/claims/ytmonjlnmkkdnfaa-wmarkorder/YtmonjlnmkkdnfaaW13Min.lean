/-
  Where nobody is idle: the mark is the least of the greatest ends, less the lateness.
-/
import Derived.Test.YtmonjlnmkkdnfaaW13Cw
set_option linter.unusedSimpArgs false
set_option linter.unusedVariables false
namespace Go.Proofs.Ytmonjlnmkkdnfaa.W13
open Go.RowKit Go.Lib Go.Proofs.Ytmonjlnmkkdnfaa.Wd

/-- the least of f 0 to f k -/
def mn (f : Nat → Nat) : Nat → Nat
  | 0 => f 0
  | k + 1 => min (mn f k) (f (k + 1))
theorem mn_congr {f g : Nat → Nat} : ∀ k, (∀ i, i ≤ k → f i = g i) → mn f k = mn g k
  | 0, h => h 0 (Nat.le_refl _)
  | k + 1, h => by
    unfold mn
    rw [mn_congr k (fun i hi => h i (by omega)), h (k + 1) (Nat.le_refl _)]
theorem mn_le {f g : Nat → Nat} : ∀ k, (∀ i, i ≤ k → f i ≤ g i) → mn f k ≤ mn g k
  | 0, h => h 0 (Nat.le_refl _)
  | k + 1, h => by
    have h1 := mn_le k (fun i hi => h i (Nat.le_succ_of_le hi))
    have h2 := h (k + 1) (Nat.le_refl _)
    show min (mn f k) (f (k + 1)) ≤ min (mn g k) (g (k + 1))
    omega
theorem mn_sub (f : Nat → Nat) (l : Nat) : ∀ k, mn (fun s => f s - l) k = mn f k - l
  | 0 => rfl
  | k + 1 => by
    have h := mn_sub f l k
    show min (mn (fun s => f s - l) k) (f (k + 1) - l) = min (mn f k) (f (k + 1)) - l
    omega
theorem mn_zero : ∀ k, mn (fun _ => 0) k = 0
  | 0 => rfl
  | k + 1 => by
    show min (mn (fun _ => 0) k) 0 = 0
    omega
/-- the step of a loop that begins with the first one -/
theorem mn_step (f : Nat → Nat) (s : Nat) : min (mn f (s - 1)) (f s) = mn f s := by
  cases s with
  | zero => show min (f 0) (f 0) = f 0; omega
  | succ s => rfl
theorem lo_all {f : Nat → Option Nat} {g : Nat → Nat} : ∀ k, (∀ i, i ≤ k → f i = some (g i)) → lo f (k + 1) = some (mn g k)
  | 0, h => by
    show omin none (f 0) = some (g 0)
    rw [h 0 (Nat.le_refl _)]
    rfl
  | k + 1, h => by
    have h1 := lo_all k (fun i hi => h i (Nat.le_succ_of_le hi))
    show omin (lo f (k + 1)) (f (k + 1)) = _
    rw [h1, h (k + 1) (Nat.le_refl _)]
    rfl
/-- the greatest ends of the clock's sources are M -/
def En (c : Cl) (M : Nat → Nat) : Prop := ∀ s, s < c.N → (c.K s).1 = M s
theorem qt_zero {now : Nat} {x : Kn} : qt now 0 x = false := rfl
section
variable {c : Cl} {M : Nat → Nat} {n l : Nat}
theorem adv_zero (hi : c.idle = 0) (hN : c.N = n) (hn : 0 < n) (h : En c M) : c.adv.mark = max c.mark (mn M (n - 1) - c.late) := by
  show up c.mark (lo c.mk_ c.N) = _
  have e : c.N = (n - 1) + 1 := by omega
  rw [e, lo_all (g := fun s => M s - c.late) (n - 1) (fun i hi' => by
    unfold Cl.mk_
    rw [hi, qt_zero, h i (by omega)]
    rfl), mn_sub]
  rfl
/-- M behind 's says e' -/
def sy (M : Nat → Nat) (s e : Nat) : Nat → Nat := upn M s (max (M s) e)
theorem En.see (h : En c M) {s : Nat} (hs : s < c.N) (e : Nat) : En (c.see s e) (sy M s e) := fun k hk => by
  show (up1 c.K s (max (c.K s).1 e, c.now) k).1 = upn M s (max (M s) e) k
  by_cases q : k = s
  · subst q
    rw [up1_same, upn_same, h k hk]
  · rw [up1_other _ _ q, upn_other _ _ q, h k hk]
theorem En.said (h : En c M) {s : Nat} (hs : s < c.N) (e : Nat) : En (c.said s e) (sy M s e) := h.see hs e
theorem En.tick (h : En c M) : En c.tick M := h
theorem sy_le (M : Nat → Nat) (s e k : Nat) : M k ≤ sy M s e k := by
  unfold sy
  by_cases q : k = s
  · subst q; rw [upn_same]; omega
  · rw [upn_other _ _ q]; exact Nat.le_refl _
theorem sy_small {M : Nat → Nat} {s e : Nat} (h : e ≤ M s) (k : Nat) : sy M s e k = M k := by
  unfold sy
  by_cases q : k = s
  · subst q; rw [upn_same]; omega
  · rw [upn_other _ _ q]
/-- nobody is idle, and the mark is the least of the greatest ends less the lateness -/
structure Zn (n l : Nat) (c : Cl) (M : Nat → Nat) : Prop where
  pos : 0 < n
  N : c.N = n
  late : c.late = l
  idle : c.idle = 0
  en : En c M
  mark : c.mark = mn M (n - 1) - l
theorem Zn.init (n l : Nat) (h : 0 < n) : Zn n l (Cl.init n l 0) (fun _ => 0) := ⟨h, rfl, rfl, rfl, fun _ _ => rfl, by rw [mn_zero]; show 0 = 0 - l; omega⟩
theorem Zn.see (h : Zn n l c M) {s : Nat} (hs : s < n) (e : Nat) : Zn n l (c.see s e) (sy M s e) := by
  have hs' : s < c.N := by rw [h.N]; exact hs
  refine ⟨h.pos, h.N, h.late, h.idle, h.en.see hs' e, ?_⟩
  show (c.said s e).adv.mark = _
  rw [adv_zero (c := c.said s e) h.idle h.N h.pos (h.en.said hs' e)]
  show max c.mark (mn (sy M s e) (n - 1) - c.late) = _
  rw [h.mark, h.late]
  have := mn_le (f := M) (g := sy M s e) (n - 1) (fun i _ => sy_le M s e i)
  omega
theorem Zn.tick (h : Zn n l c M) : Zn n l c.tick M := by
  refine ⟨h.pos, h.N, h.late, h.idle, h.en, ?_⟩
  show ({ c with now := c.now + 1 } : Cl).adv.mark = _
  rw [adv_zero (c := { c with now := c.now + 1 }) h.idle h.N h.pos h.en]
  show max c.mark (mn M (n - 1) - c.late) = _
  rw [h.mark, h.late]
  omega
/-- what is less than a source said changes no mark -/
theorem Zn.same (h : Zn n l c M) {s e : Nat} (hs : s < n) (he : e ≤ M s) : (c.see s e).mark = c.mark := by
  rw [(h.see hs e).mark, h.mark, mn_congr (f := sy M s e) (g := M) (n - 1) (fun i _ => sy_small he i)]
end
theorem see_mark (c : Cl) (s e : Nat) : c.mark ≤ (c.see s e).mark := up_le c.mark _
theorem tick_mark (c : Cl) : c.mark ≤ c.tick.mark := up_le c.mark _
end Go.Proofs.Ytmonjlnmkkdnfaa.W13
