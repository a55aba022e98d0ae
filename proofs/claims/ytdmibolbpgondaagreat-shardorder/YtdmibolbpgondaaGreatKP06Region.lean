/-
  A region that draws its order, with loads of what its last operation stores: the loads may be taken first, for the last one waits for all of them.
  That a great region may be walked in the order of its text: told pair by pair, not by listing all that may come up at each step.
-/
import Derived.OrdersHeld
import Derived.WalkKit
import Derived.StillTail
section
namespace Go.Proofs.YtdmibolbpgondaaGreat.P06
open Go

section
variable {P : Program} {ops : Array Oper} {Q : Exit → Act → World → Prop} {md : Region.Mode} {S : World → Prop} {z : Nat}

/-- whatever order is picked, S holds behind every operation but number z -/
def Zed (P : Program) (md : Region.Mode) (ops : Array Oper) (Q : Exit → Act → World → Prop) (S : World → Prop) (z : Nat) : Nat → Array Bool → Act → World → Prop
  | 0, listed, a, w => Region.ready md ops listed = [] ∧ Q .normal a w
  | fuel + 1, listed, a, w =>
    (Region.ready md ops listed = [] → Q .normal a w) ∧
    ∀ i ∈ Region.ready md ops listed, wpOp P ops Q i (fun a' w' => (i = z ∨ S w') ∧ Zed P md ops Q S z fuel (listed.setIfInBounds i true) a' w') a w

theorem Zed.any : ∀ (fuel : Nat) (listed : Array Bool) (a : Act) (w : World), Zed P md ops Q S z fuel listed a w → wpAny P md ops Q fuel listed a w
  | 0, _, _, _, h => h
  | fuel + 1, _, _, _, h => ⟨h.1, fun i hi => wpOp_mono (fun a' w' h' => Zed.any fuel _ a' w' h'.2) (h.2 i hi)⟩

/-- the order of those that wait: who may come up while number i has not does not wait for i -/
theorem not_waits {i j : Nat} {listed : Array Bool} {oj : Oper} (hi : i ∈ Region.ready md ops listed) (hj : j ∈ Region.ready md ops listed) (hoj : ops[j]? = some oj) : ∀ e ∈ oj.after, Region.binds md e = true → e.on ≠ i := by
  intro e he hb heq
  obtain ⟨_, o, ho, hall⟩ := mem_ready.1 hj
  rw [hoj] at ho
  injection ho with ho
  subst ho
  have h1 := hall e he hb
  have h0 := (mem_ready.1 hi).1
  rw [heq] at h1
  rcases Nat.lt_or_ge i listed.size with h' | h'
  · simp [h'] at h0 h1; rw [h0] at h1; cases h1
  · simp [Array.getElem?_eq_none h'] at h1

theorem Zed.first {i : Nat} {oi oz : Oper} {v : Value} (hi : ops[i]? = some oi) (hz : ops[z]? = some oz) (hw : ∃ e ∈ oz.after, Region.binds md e = true ∧ e.on = i) (hiz : i ≠ z)
    (hsel : ∀ (j : Nat) (o : Oper) cs b, ops[j]? = some o → o.op ≠ .select cs b) (hQ : ∀ c a w, Q (.panic c) (a.put oi.dst v) w → Q (.panic c) a w) :
    ∀ (fuel : Nat) (listed : Array Bool) (a : Act) (w : World),
      (∀ j oj, ops[j]? = some oj → j ≠ i → listed.getD j true = false → (∀ e ∈ oj.after, Region.binds md e = true → e.on ≠ i) → oi.apart ops oj = true) →
      i ∈ Region.ready md ops listed → YieldsIf P ops S oi v a → S w →
      Zed P md ops Q S z fuel (listed.setIfInBounds i true) (a.put oi.dst v) w → Zed P md ops Q S z (fuel + 1) listed a w := by
  intro fuel
  induction fuel with
  | zero =>
    intro listed a w _ hr hy hS H
    refine ⟨fun h => (by rw [h] at hr; cases hr), fun j hj => ?_⟩
    by_cases hji : j = i
    · rw [hji]; exact hy.wpOp hi hS ⟨.inr hS, H⟩
    · have h0 := ready_mono hj hji
      rw [H.1] at h0
      cases h0
  | succ fuel ih =>
    intro listed a w hfree hr hy hS H
    refine ⟨fun h => (by rw [h] at hr; cases hr), fun j hj => ?_⟩
    by_cases hji : j = i
    · rw [hji]; exact hy.wpOp hi hS ⟨.inr hS, H⟩
    · obtain ⟨hjun, oj, hoj, _⟩ := mem_ready.1 hj
      have hnot := not_waits hr hj hoj
      have hjz : j ≠ z := fun e => by
        subst e
        rw [hoj] at hz
        injection hz with hz
        subst hz
        obtain ⟨e, he, hb, hon⟩ := hw
        exact hnot e he hb hon
      have h2 := wpOp_putIf hoj (hfree j oj hoj hji hjun hnot) (fun cs b => hsel i oi cs b hi) (fun cs b => hsel j oj cs b hoj) hQ hy (H.2 j (ready_mono hj hji))
      refine wpOp_mono (fun a' w' h3 => ?_) h2
      have hS' : S w' := h3.2.1.resolve_left hjz
      refine ⟨.inr hS', ih (listed.setIfInBounds j true) a' w' (fun k ok hk hki hun hno => hfree k ok hk hki ?_ hno) (ready_mono hr (Ne.symm hji)) h3.1 hS' ?_⟩
      · by_cases hjk : j = k
        · rw [← hjk]; exact hjun
        · rw [getD_set_ne true hjk] at hun; exact hun
      · rw [Array.setIfInBounds_comm _ _ hji]
        exact h3.2.2

/-- number i first -/
theorem Zed.take {i : Nat} {oi : Oper} {v : Value} {fuel : Nat} {listed : Array Bool} {a : Act} {w : World} (hi : ops[i]? = some oi)
    (hw : (ops[z]?.any fun o => o.after.any fun e => Region.binds md e && e.on == i) = true) (hiz : (i == z) = false)
    (hs : Region.noSelect ops = true) (hf : Region.free md ops listed i = true) (hr : (Region.ready md ops listed).contains i = true)
    (hQ : ∀ c a w, Q (.panic c) (a.put oi.dst v) w → Q (.panic c) a w) (hy : YieldsIf P ops S oi v a) (hS : S w)
    (h : Zed P md ops Q S z fuel (listed.setIfInBounds i true) (a.put oi.dst v) w) : Zed P md ops Q S z (fuel + 1) listed a w := by
  cases hz : ops[z]? with
  | none => rw [hz] at hw; cases hw
  | some oz =>
    rw [hz] at hw
    simp only [Option.any_some, Array.any_eq_true, Bool.and_eq_true, beq_iff_eq] at hw
    obtain ⟨q, hq, hb, ho⟩ := hw
    exact Zed.first hi hz ⟨oz.after[q], Array.getElem_mem hq, hb, ho⟩ (by simpa using hiz) (Region.noSelect_spec hs) hQ fuel listed a w (Region.free_spec hi hf) (by simpa using hr) hy hS h
/-- the only one that may come up -/
theorem Zed.one {i : Nat} {fuel : Nat} {listed : Array Bool} {a : Act} {w : World} (hr : Region.ready md ops listed = [i])
    (h : wpOp P ops Q i (fun a' w' => (i = z ∨ S w') ∧ Zed P md ops Q S z fuel (listed.setIfInBounds i true) a' w') a w) : Zed P md ops Q S z (fuel + 1) listed a w :=
  ⟨fun h0 => (by rw [hr] at h0; cases h0), fun j hj => (by
    rw [hr] at hj
    simp only [List.mem_singleton] at hj
    subst hj
    exact h)⟩
/-- the only one that may come up, carried out -/
theorem Zed.step {i : Nat} {o : Oper} {fuel : Nat} {listed : Array Bool} {a : Act} {w : World} (hr : Region.ready md ops listed = [i]) (hi : ops[i]? = some o) (hg : o.guard = none)
    (h : ∀ K : Act → World → Prop, (∀ a' w', ((i = z ∨ S w') ∧ Zed P md ops Q S z fuel (listed.setIfInBounds i true) a' w') → K a' w') → Oper.wp P o a w K Q) : Zed P md ops Q S z (fuel + 1) listed a w := by
  refine Zed.one hr ?_
  unfold wpOp
  simp only [hi]
  rw [if_pos (by simp [Region.wanted, hg])]
  exact .inl (h _ fun _ _ h => h)
theorem Zed.done {listed : Array Bool} {a : Act} {w : World} (hr : Region.ready md ops listed = []) (h : Q .normal a w) : ∀ fuel, Zed P md ops Q S z fuel listed a w
  | 0 => ⟨hr, h⟩
  | _ + 1 => ⟨fun _ => h, by rw [hr]; simp⟩
theorem wp_zed {id : Nat} {a : Act} {w : World} (hm : P.follows .mixedOrders = true) (h : Zed P .any ops Q S z ops.size (Array.replicate ops.size false) a w.drew) : (Code.region id ops true).wp P Q a w :=
  wp_region_any hm (Zed.any _ _ _ _ h)
end
end Go.Proofs.YtdmibolbpgondaaGreat.P06
end

section
set_option linter.unusedVariables false
namespace Go.Proofs.YtdmibolbpgondaaGreat.P06
open Go

section
variable {ops : Array Oper} {md : Region.Mode}

/-- the first k have come up -/
def setAll (sz : Nat) : Nat → Array Bool
  | 0 => Array.replicate sz false
  | k + 1 => (setAll sz k).setIfInBounds k true
theorem setAll_size (sz : Nat) : ∀ k, (setAll sz k).size = sz
  | 0 => by simp [setAll]
  | k + 1 => by simp [setAll, setAll_size sz k]
theorem setAll_get (sz : Nat) : ∀ (k j : Nat) (h : j < sz), (setAll sz k)[j]? = some (decide (j < k))
  | 0, j, h => by simp [setAll, h]
  | k + 1, j, h => by
    rw [setAll, Array.getElem?_setIfInBounds]
    by_cases e : k = j
    · subst e
      simp [setAll_size, h]
    · rw [if_neg e, setAll_get sz k j h]
      congr 1
      simp only [decide_eq_decide]
      omega
theorem setAll_getD (sz k j : Nat) (b : Bool) (h : j < sz) : (setAll sz k).getD j b = decide (j < k) := by
  have := setAll_get sz k j h
  rw [Array.getElem?_eq_some_iff] at this
  obtain ⟨h1, h2⟩ := this
  simp [Array.getD, h1, h2]

/-- each waits only for earlier ones, and each later one waits for it or does not touch what it touches -/
def pairs (md : Region.Mode) (ops : Array Oper) : Nat → List Oper → Bool
  | _, [] => true
  | k, o :: rest => (o.after.all fun e => !Region.binds md e || decide (e.on < k)) && (rest.all fun oj => (oj.after.any fun e => Region.binds md e && e.on == k) || o.apart ops oj) && pairs md ops (k + 1) rest
theorem pairs_at : ∀ (l : List Oper) (k : Nat), pairs md ops k l = true → ∀ (i : Nat) (o : Oper), l[i]? = some o → (o.after.all fun e => !Region.binds md e || decide (e.on < k + i)) = true ∧ ∀ (j : Nat) (oj : Oper), i < j → l[j]? = some oj → ((oj.after.any fun e => Region.binds md e && e.on == k + i) || o.apart ops oj) = true
  | [], k, _, i, o, h => by simp at h
  | x :: l, k, hp, i, o, h => by
    simp only [pairs, Bool.and_eq_true] at hp
    cases i with
    | zero =>
      simp only [List.getElem?_cons_zero, Option.some.injEq] at h
      subst h
      refine ⟨hp.1.1, fun j oj hj hoj => ?_⟩
      obtain ⟨q, rfl⟩ : ∃ q, j = q + 1 := ⟨j - 1, by omega⟩
      rw [List.getElem?_cons_succ] at hoj
      exact List.all_eq_true.1 hp.1.2 oj (List.mem_of_getElem? hoj)
    | succ i =>
      rw [List.getElem?_cons_succ] at h
      obtain ⟨h1, h2⟩ := pairs_at l (k + 1) hp.2 i o h
      refine ⟨by rw [show k + (i + 1) = k + 1 + i by omega]; exact h1, fun j oj hj hoj => ?_⟩
      obtain ⟨q, rfl⟩ : ∃ q, j = q + 1 := ⟨j - 1, by omega⟩
      rw [List.getElem?_cons_succ] at hoj
      rw [show k + (i + 1) = k + 1 + i by omega]
      exact h2 q oj (by omega) hoj

theorem lex_head {l : List Oper} (g n : Nat) (hp : pairs md l.toArray 0 l = true) (hn : n ≤ l.length) (hs : Region.seqB md l.toArray g n (setAll l.length n) = true) :
    ∀ f k, k + f = n → Region.lexHead md l.toArray g f k (setAll l.length k) = true
  | 0, k, h => by
    have : k = n := by omega
    subst this
    exact hs
  | f + 1, k, h => by
    have hk : k < l.length := by omega
    have ho : l[k]? = some l[k] := List.getElem?_eq_getElem hk
    obtain ⟨p1, p2⟩ := pairs_at l 0 hp k l[k] ho
    rw [Nat.zero_add] at p1
    simp only [Nat.zero_add] at p2
    rw [Region.lexHead]
    simp only [Bool.and_eq_true]
    refine ⟨⟨?_, ?_⟩, lex_head g n hp hn hs f (k + 1) (by omega)⟩
    · rw [List.contains_iff_mem]
      refine mem_ready.2 ⟨?_, l[k], by simp, fun e he hb => ?_⟩
      · rw [setAll_getD _ _ _ _ hk]; simp
      · have h1 := Array.all_eq_true'.1 p1 e he
        simp only [hb, Bool.not_true, Bool.false_or, decide_eq_true_eq] at h1
        rw [setAll_getD _ _ _ _ (by omega)]
        simpa using h1
    · unfold Region.free
      have hk' : l.toArray[k]? = some l[k] := by simp
      rw [hk']
      simp only
      rw [List.all_eq_true]
      intro j hj
      simp only [List.mem_range, List.size_toArray] at hj
      by_cases hjk : j = k
      · simp [hjk]
      · by_cases hlt : j < k
        · rw [setAll_getD _ _ _ _ hj]
          simp [hlt]
        · have hj' : l[j]? = some l[j] := List.getElem?_eq_getElem hj
          have := p2 j l[j] (by omega) hj'
          have hj2 : l.toArray[j]? = some l[j] := by simp
          rw [hj2]
          simp only [this, Bool.or_true]
theorem lex_tail {l : List Oper} (n : Nat) (h0 : Region.noSelect l.toArray = true) (h1 : n < l.length) (h2 : Region.sinkB md l.toArray n = true) (h3 : Region.chainB md l.toArray n = true) (hp : pairs md l.toArray 0 l = true)
    (hs : Region.seqB md l.toArray (l.length - n) n (setAll l.length n) = true) : Region.lexTailB md l.toArray n = true := by
  unfold Region.lexTailB
  simp only [Bool.and_eq_true, decide_eq_true_eq, List.size_toArray]
  exact ⟨⟨⟨⟨h0, h1⟩, h2⟩, h3⟩, lex_head (l.length - n) n hp (by omega) hs n 0 (by omega)⟩
end
end Go.Proofs.YtdmibolbpgondaaGreat.P06
end
