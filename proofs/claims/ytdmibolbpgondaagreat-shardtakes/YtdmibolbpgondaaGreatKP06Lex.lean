/-
  That a great region may be walked in the order of its text: told pair by pair, not by listing all that may come up at each step.
-/
import Derived.StillTail
set_option linter.unusedVariables false
namespace Go.Proofs.YtdmibolbpgondaaGreat.P06
open Go

section
variable {ops : Array Oper} {md : Region.Mode}

/-- the first k have come up -/
def setAll (sz : Nat) : Nat → Array Bool
  | 0 => Array.replicate sz false
  | k + 1 => (setAll sz k).setIfInBounds k true
theorem setAll_size (sz : Nat) : ∀ k, (setAll sz k).size = sz
  | 0 => by simp [setAll]
  | k + 1 => by simp [setAll, setAll_size sz k]
theorem setAll_get (sz : Nat) : ∀ (k j : Nat) (h : j < sz), (setAll sz k)[j]? = some (decide (j < k))
  | 0, j, h => by simp [setAll, h]
  | k + 1, j, h => by
    rw [setAll, Array.getElem?_setIfInBounds]
    by_cases e : k = j
    · subst e
      simp [setAll_size, h]
    · rw [if_neg e, setAll_get sz k j h]
      congr 1
      simp only [decide_eq_decide]
      omega
theorem setAll_getD (sz k j : Nat) (b : Bool) (h : j < sz) : (setAll sz k).getD j b = decide (j < k) := by
  have := setAll_get sz k j h
  rw [Array.getElem?_eq_some_iff] at this
  obtain ⟨h1, h2⟩ := this
  simp [Array.getD, h1, h2]

/-- each waits only for earlier ones, and each later one waits for it or does not touch what it touches -/
def pairs (md : Region.Mode) (ops : Array Oper) : Nat → List Oper → Bool
  | _, [] => true
  | k, o :: rest => (o.after.all fun e => !Region.binds md e || decide (e.on < k)) && (rest.all fun oj => (oj.after.any fun e => Region.binds md e && e.on == k) || o.apart ops oj) && pairs md ops (k + 1) rest
theorem pairs_at : ∀ (l : List Oper) (k : Nat), pairs md ops k l = true → ∀ (i : Nat) (o : Oper), l[i]? = some o → (o.after.all fun e => !Region.binds md e || decide (e.on < k + i)) = true ∧ ∀ (j : Nat) (oj : Oper), i < j → l[j]? = some oj → ((oj.after.any fun e => Region.binds md e && e.on == k + i) || o.apart ops oj) = true
  | [], k, _, i, o, h => by simp at h
  | x :: l, k, hp, i, o, h => by
    simp only [pairs, Bool.and_eq_true] at hp
    cases i with
    | zero =>
      simp only [List.getElem?_cons_zero, Option.some.injEq] at h
      subst h
      refine ⟨hp.1.1, fun j oj hj hoj => ?_⟩
      obtain ⟨q, rfl⟩ : ∃ q, j = q + 1 := ⟨j - 1, by omega⟩
      rw [List.getElem?_cons_succ] at hoj
      exact List.all_eq_true.1 hp.1.2 oj (List.mem_of_getElem? hoj)
    | succ i =>
      rw [List.getElem?_cons_succ] at h
      obtain ⟨h1, h2⟩ := pairs_at l (k + 1) hp.2 i o h
      refine ⟨by rw [show k + (i + 1) = k + 1 + i by omega]; exact h1, fun j oj hj hoj => ?_⟩
      obtain ⟨q, rfl⟩ : ∃ q, j = q + 1 := ⟨j - 1, by omega⟩
      rw [List.getElem?_cons_succ] at hoj
      rw [show k + (i + 1) = k + 1 + i by omega]
      exact h2 q oj (by omega) hoj

theorem lex_head {l : List Oper} (g n : Nat) (hp : pairs md l.toArray 0 l = true) (hn : n ≤ l.length) (hs : Region.seqB md l.toArray g n (setAll l.length n) = true) :
    ∀ f k, k + f = n → Region.lexHead md l.toArray g f k (setAll l.length k) = true
  | 0, k, h => by
    have : k = n := by omega
    subst this
    exact hs
  | f + 1, k, h => by
    have hk : k < l.length := by omega
    have ho : l[k]? = some l[k] := List.getElem?_eq_getElem hk
    obtain ⟨p1, p2⟩ := pairs_at l 0 hp k l[k] ho
    rw [Nat.zero_add] at p1
    simp only [Nat.zero_add] at p2
    rw [Region.lexHead]
    simp only [Bool.and_eq_true]
    refine ⟨⟨?_, ?_⟩, lex_head g n hp hn hs f (k + 1) (by omega)⟩
    · rw [List.contains_iff_mem]
      refine mem_ready.2 ⟨?_, l[k], by simp, fun e he hb => ?_⟩
      · rw [setAll_getD _ _ _ _ hk]; simp
      · have h1 := Array.all_eq_true'.1 p1 e he
        simp only [hb, Bool.not_true, Bool.false_or, decide_eq_true_eq] at h1
        rw [setAll_getD _ _ _ _ (by omega)]
        simpa using h1
    · unfold Region.free
      have hk' : l.toArray[k]? = some l[k] := by simp
      rw [hk']
      simp only
      rw [List.all_eq_true]
      intro j hj
      simp only [List.mem_range, List.size_toArray] at hj
      by_cases hjk : j = k
      · simp [hjk]
      · by_cases hlt : j < k
        · rw [setAll_getD _ _ _ _ hj]
          simp [hlt]
        · have hj' : l[j]? = some l[j] := List.getElem?_eq_getElem hj
          have := p2 j l[j] (by omega) hj'
          have hj2 : l.toArray[j]? = some l[j] := by simp
          rw [hj2]
          simp only [this, Bool.or_true]
theorem lex_tail {l : List Oper} (n : Nat) (h0 : Region.noSelect l.toArray = true) (h1 : n < l.length) (h2 : Region.sinkB md l.toArray n = true) (h3 : Region.chainB md l.toArray n = true) (hp : pairs md l.toArray 0 l = true)
    (hs : Region.seqB md l.toArray (l.length - n) n (setAll l.length n) = true) : Region.lexTailB md l.toArray n = true := by
  unfold Region.lexTailB
  simp only [Bool.and_eq_true, decide_eq_true_eq, List.size_toArray]
  exact ⟨⟨⟨⟨h0, h1⟩, h2⟩, h3⟩, lex_head (l.length - n) n hp (by omega) hs n 0 (by omega)⟩
end
end Go.Proofs.YtdmibolbpgondaaGreat.P06
