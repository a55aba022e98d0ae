/-
  Layer 7 in plain lists, the reading side: a reader that keeps its first error; what Get answers.
-/
import Derived.Test.YtndcdidepdcmnaaKB7Pure
set_option linter.unusedSimpArgs false
set_option linter.unusedVariables false
namespace Go.Proofs.Ytndcdidepdcmnaa.B07
open Go.Proofs.Ytndcdidepdcmnaa.V01 Go.Proofs.Ytndcdidepdcmnaa.Wd Go.Proofs.Ytndcdidepdcmnaa.V04 Go.Proofs.Ytndcdidepdcmnaa.P06
open Go.Proofs.Ytndcdidepdcmnaa.S05 (ix ix_lt ix_get ix_of nd_inj tb tx one readF rdF rtF)

/-- the bytes that are left, how many texts came up in their order, whether one was skipped -/
abbrev S7 := List UInt8 × Nat × Bool
abbrev R7 (α : Type) := S7 → Except Nat (α × S7)
def ret {α : Type} (a : α) : R7 α := fun s => .ok (a, s)
def err {α : Type} (e : Nat) : R7 α := fun _ => .error e
def bnd {α β : Type} (p : R7 α) (k : α → R7 β) : R7 β := fun s => match p s with
  | .error e => .error e
  | .ok (a, s') => k a s'
/-- a reader that may have an error already -/
def step {α : Type} (σ : Except Nat S7) (p : R7 α) : Except Nat (α × S7) := match σ with
  | .error e => .error e
  | .ok s => p s
theorem step_bnd {α β : Type} {σ σ' : Except Nat S7} {p : R7 α} {a : α} (h : step σ p = step σ' (ret a)) (k : α → R7 β) : step σ (bnd p k) = step σ' (k a) := by
  cases σ with
  | error e =>
    cases σ' with
    | error f => simp only [step, Except.error.injEq] at h ⊢; exact h
    | ok s => simp [step, ret] at h
  | ok s =>
    cases σ' with
    | error f =>
      simp only [step] at h ⊢
      simp only [bnd, h]
    | ok s' =>
      simp only [step, ret] at h ⊢
      simp only [bnd, h]
theorem bnd_assoc {α β γ : Type} (p : R7 α) (k : α → R7 β) (q : β → R7 γ) : bnd (bnd p k) q = bnd p fun a => bnd (k a) q := by
  funext s
  simp only [bnd]
  cases p s with
  | error e => rfl
  | ok x => rfl
theorem bnd_ret {α β : Type} (a : α) (k : α → R7 β) : bnd (ret a) k = k a := rfl
theorem bnd_err {α β : Type} (e : Nat) (k : α → R7 β) : bnd (err e) k = err e := rfl

/-- a number -/
def num : R7 Nat := fun s => if (getF 0 0 (nat8 s.1)).2.2 ≠ 0 then .error (getF 0 0 (nat8 s.1)).2.2 else .ok ((getF 0 0 (nat8 s.1)).1, (s.1.drop (getF 0 0 (nat8 s.1)).2.1, s.2))
def cnt (most : Nat) : R7 Nat := bnd num fun n => if most < n then err 11 else ret n
def oct : R7 Nat := fun s => match s.1 with
  | [] => .error 10
  | x :: r => .ok (x.toNat, (r, s.2))
/-- a value: its kind, its number, its text -/
structure V3 where
  K : Int
  N : Int
  S : ByteArray
def val : R7 V3 := fun s => if (getV s.1).e ≠ 0 then .error (getV s.1).e else .ok (⟨(getV s.1).K, (getV s.1).N, (getV s.1).S⟩, (s.1.drop (getV s.1).k, s.2))
def meet (m : Nat × Bool) (n : Nat) : Nat × Bool := if n = m.1 then (m.1 + 1, m.2) else if m.1 < n then (m.1, true) else m
def met (n : Nat) : R7 Unit := fun s => .ok ((), (s.1, meet s.2 n))
def txtK (t : List ByteArray) (n : Nat) : R7 ByteArray := match t[n]? with
  | none => err 11
  | some s => bnd (met n) fun _ => ret s
def txt (t : List ByteArray) : R7 ByteArray := bnd num (txtK t)
theorem txtK_none {t : List ByteArray} {n : Nat} (h : t[n]? = none) : txtK t n = err 11 := by unfold txtK; rw [h]
theorem txtK_some {t : List ByteArray} {n : Nat} {s : ByteArray} (h : t[n]? = some s) : txtK t n = bnd (met n) fun _ => ret s := by unfold txtK; rw [h]
def atsK (t : List ByteArray) : Nat → List At → R7 (List At)
  | 0, acc => ret acc
  | k + 1, acc => bnd (txt t) fun key => bnd val fun v => atsK t k (acc ++ [⟨key, v.K, v.N, v.S⟩])
def ats (t : List ByteArray) : R7 (List At) := bnd (cnt 16) fun n => atsK t n []
def spn (t : List ByteArray) : R7 Pn :=
  bnd num fun T => bnd num fun I => bnd num fun P => bnd (txt t) fun sv => bnd (txt t) fun nm => bnd oct fun kd => bnd oct fun st => bnd num fun t0 => bnd num fun t1 => bnd (ats t) fun l =>
    ret (⟨T, I, P, sv, nm, kd, st, t0, t1⟩, l)
def spsK (t : List ByteArray) : Nat → List Pn → R7 (List Pn)
  | 0, acc => ret acc
  | k + 1, acc => bnd (spn t) fun x => spsK t k (acc ++ [x])
def sps (t : List ByteArray) : R7 (List Pn) := bnd (cnt 1024) fun n => spsK t n []
/-- what can be asked only at the end -/
def fin (t : List ByteArray) : Except Nat (List Pn × S7) → Except Nat (List Pn)
  | .error e => .error e
  | .ok (L, l, m, sk) => if l ≠ [] ∨ sk = true ∨ m < t.length then .error 11 else .ok L
/-- what Get answers -/
noncomputable def getB (b : List UInt8) : Except Nat (List Pn) :=
  if 65536 < b.length then .error 2
  else if (readF b).2.2 ≠ 0 then .error (readF b).2.2
  else fin (readF b).1 (sps (readF b).1 (b.drop (readF b).2.1, 0, false))

/-! ### bounds -/
theorem getF_err : ∀ (l : List Nat) (i acc : Nat), (getF i acc l).2.2 ≠ 0 → (getF i acc l).1 = 0 ∧ (getF i acc l).2.1 = 0
  | [], i, acc, _ => by simp [getF]
  | c :: r, i, acc, h => by
    rw [getF] at h ⊢
    split
    · simp
    · rename_i h9
      rw [if_neg h9] at h
      split
      · rename_i h1
        rw [if_pos h1] at h
        exact getF_err r _ _ h
      · rename_i h1
        rw [if_neg h1] at h
        split
        · simp
        · rename_i h2
          rw [if_neg h2] at h
          simp at h
theorem getF_le (l : List UInt8) : (getF 0 0 (nat8 l)).1 ≤ 18446744073709551615 ∧ (getF 0 0 (nat8 l)).2.1 ≤ l.length ∧ (getF 0 0 (nat8 l)).2.2 ≤ 11 := by
  have h := getF_bd (nat8 l) 0 0 (by simp) (by omega)
  rw [nat8_len] at h
  omega
theorem meet_le {m : Nat × Bool} {n q : Nat} (h : m.1 ≤ q) (hn : n < q) : (meet m n).1 ≤ q := by
  unfold meet
  split
  · simp; omega
  · split <;> (try simp) <;> omega
theorem rd_le (b : List UInt8) : ∀ (n : Nat) (L : List ByteArray) (u : Nat), u ≤ b.length → (rdF n L b u).2.2 ≤ 11 ∧ ((rdF n L b u).2.2 = 0 → (rdF n L b u).2.1 ≤ b.length)
  | 0, L, u, h => ⟨Nat.zero_le _, fun _ => h⟩
  | n + 1, L, u, h => by
    obtain ⟨⟨k, e, s⟩, hr⟩ : ∃ r, rtF L (b.drop u) = r := ⟨_, rfl⟩
    have hb := S05.rt_bd hr
    rw [List.length_drop] at hb
    unfold rdF
    rw [hr]
    dsimp only
    split
    · exact ⟨hb.2.1, fun _ => Nat.zero_le _⟩
    · exact rd_le b n _ _ (by omega)
theorem readF_le (b : List UInt8) : (readF b).2.2 ≤ 11 ∧ ((readF b).2.2 = 0 → (readF b).2.1 ≤ b.length) := by
  have h := getF_le b
  unfold readF
  obtain ⟨⟨n, k, e⟩, hg⟩ : ∃ r, getF 0 0 (nat8 b) = r := ⟨_, rfl⟩
  rw [hg] at h ⊢
  dsimp only at h ⊢
  split
  · exact ⟨h.2.2, fun _ => Nat.zero_le _⟩
  · split
    · exact ⟨Nat.le_refl _, fun _ => Nat.zero_le _⟩
    · exact rd_le b n [] k h.2.1
end Go.Proofs.Ytndcdidepdcmnaa.B07
