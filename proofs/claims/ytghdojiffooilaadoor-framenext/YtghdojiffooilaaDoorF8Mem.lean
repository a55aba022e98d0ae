/-
  Rows of rows of the call's own.
-/
import Derived.Test.YtghdojiffooilaaDoorRows2
import Derived.Test.YtghdojiffooilaaDoorRows
namespace Go.Proofs.YtghdojiffooilaaDoor.F08
open Go.RowKit Go.Lib Go.Proofs.YtghdojiffooilaaDoor.Wd

theorem own_low {w : World} {b b' : Nat} {e : TypeId} {sz n : Nat} {v : Value} {xs : List Value} (h : w.ownsRow b e sz v n xs) (hb : b' ≤ b) : w.ownsRow b' e sz v n xs :=
  ⟨h.1, h.2.elim .inl fun ⟨g, cap, cur, hv, hbg, r⟩ => .inr ⟨g, cap, cur, hv, Nat.le_trans hb hbg, r⟩⟩
theorem rows_info : (Tryd.prog.info? 22).map (fun i => (i.zero, i.size, i.bytes)) = some (some (.slice none 0 0), 1, 24) := by kernel_rfl

/-- 'append(own, x)': one element of one cell; where the new row lies -/
theorem append_one {P : Program} (w : World) {ops : Array Oper} {rest : List Oper} {o : Oper} {a : Act} {Q : Exit → Act → World → Prop} (hgd : o.guard = none) (s x : Operand) (t : TypeId)
    (ho : o.op = .call { callee := .builtin .append, args := #[s, x], argTypes := #[t, t] })
    (base : Nat) (e : TypeId) (i : TypeInfo) (z : Value) (bytes : Nat) (ht : P.underlying t = some (.slice e)) (hi : P.info? e = some i) (hz : i.zero = some z)
    (hsize : i.size = 1) (hby : i.bytes = bytes) (hzs : z.cells.size = 1)
    (v : Value) (n : Nat) (xs : List Value) (hs : a.eval s = v) (hown : w.ownsRow base e 1 v n xs)
    (u : Value) (b : Nat) (hb : b = w.heap.size) (hx : a.eval x = .slice (some ⟨b, 0, none⟩) 1 1) (h1 : u.oneCell' = true)
    (h63 : n + 1 ≤ maxLen) (hbytes : (n + 1) * bytes ≤ 140737488355328) (hbase : base ≤ w.heap.size)
    (h : ∀ A' c' w', w'.ownsRow base e 1 (.slice A' (n + 1) c') (n + 1) (xs ++ [u]) → (w.alloc (.cells #[u] e)).grownBy w' v.ownBlock →
      ((Value.slice A' (n + 1) c').ownBlock = v.ownBlock ∨ (Value.slice A' (n + 1) c').ownBlock = some (w.alloc (.cells #[u] e)).heap.size) → wpList P ops Q rest (a.put o.dst (.slice A' (n + 1) c')) w') :
    wpList P ops Q (o :: rest) a (w.alloc (.cells #[u] e)) := by
  subst hb
  refine wpList_append_own_at _ hgd s x t ho base e i z 1 bytes ht hi hz hsize hby hzs (by decide) v n xs hs (hown.alloc _) ⟨w.heap.size, 0, none⟩ 1 1 [u] hx rfl ?_ ?_ h63 hbytes ?_ fun v' w' h2 h3 _ h5 => ?_
  · exact cell_one_new _ _ _
  · intro q hq
    simp only [List.mem_singleton] at hq
    subst hq
    exact h1
  · simp; omega
  · obtain ⟨A1, c1, hv⟩ := own_form h2
    subst hv
    exact h A1 c1 w' h2 h3 h5

abbrev Rw := Option Addr × Nat × List UInt8
/-- a row's own cell -/
def rc (x : Rw) : Value := .slice x.1 x.2.2.length x.2.1
/-- the bytes alone -/
def by_ (R : List Rw) : List (List UInt8) := R.map fun x => x.2.2
theorem by_len (R : List Rw) : (by_ R).length = R.length := by simp [by_]
theorem by_app (R : List Rw) (x : Rw) : by_ (R ++ [x]) = by_ R ++ [x.2.2] := by simp [by_]

/-- a row of rows of bytes of the call's own -/
structure Own2 (B : Nat) (w : World) (A : Option Addr) (c : Nat) (R : List Rw) : Prop where
  row : w.ownsRow B 22 1 (.slice A R.length c) R.length (R.map rc)
  bs : ∀ x ∈ R, Bs w x.1 x.2.1 x.2.2
  lt : ∀ x ∈ R, ∀ a', x.1 = some a' → a'.block < w.heap.size
  apart : ∀ a, A = some a → ∀ x ∈ R, ∀ a', x.1 = some a' → a'.block ≠ a.block

variable {B c : Nat} {w w' : World} {A : Option Addr} {R : List Rw}
theorem Own2.nil (B : Nat) (w : World) : Own2 B w none 0 [] := ⟨World.ownsRow_nil _ _ _ _, (fun _ h => by cases h), (fun _ h => by cases h), (fun _ h => by cases h)⟩
theorem Own2.below (h : Own2 B w A c R) (hb : Below w.heap.size w w') : Own2 B w' A c R :=
  ⟨own_below h.row hb, fun x hx => (h.bs x hx).below hb, fun x hx a' e => Nat.lt_of_lt_of_le (h.lt x hx a' e) hb.size, h.apart⟩
theorem Own2.bss (h : Own2 B w A c R) : Bss w A c (by_ R) := by
  have hr := Rd.own h.row
  refine ⟨fun hA => ?_, by rw [by_len]; exact hr.cap, hr.max, fun ad hA i hi => ?_⟩
  · have := hr.none_ hA
    exact ⟨List.eq_nil_of_length_eq_zero (by rw [by_len]; exact this.1), this.2⟩
  · have hi' : i < R.length := by rw [by_len] at hi; exact hi
    refine ⟨R[i].1, R[i].2.1, ?_, ?_⟩
    · rw [hr.at_ ad hA i (rc R[i]) (by simp [hi'])]
      simp [rc, by_]
    · have := h.bs R[i] (List.getElem_mem hi')
      simpa [by_] using this
/-- one row more -/
theorem Own2.app {w1 w2 : World} {A' : Option Addr} {c' : Nat} {x : Rw} (h : Own2 B w A c R) (hx : Bs w x.1 x.2.1 x.2.2) (hxl : ∀ a', x.1 = some a' → a'.block < w.heap.size) (hxa : ∀ a, A = some a → ∀ a', x.1 = some a' → a'.block ≠ a.block)
    (hb : Below w.heap.size w w1)
    (hrow : w2.ownsRow B 22 1 (.slice A' (R.length + 1) c') (R.length + 1) (R.map rc ++ [rc x])) (hg : w1.grownBy w2 (Value.slice A R.length c).ownBlock)
    (hat : (Value.slice A' (R.length + 1) c').ownBlock = (Value.slice A R.length c).ownBlock ∨ (Value.slice A' (R.length + 1) c').ownBlock = some w1.heap.size) : Own2 B w2 A' c' (R ++ [x]) := by
  have hs1 := hb.size
  have hs2 := hg.size
  have one : ∀ y : Rw, Bs w y.1 y.2.1 y.2.2 → (∀ a', y.1 = some a' → a'.block < w.heap.size) → (∀ a, A = some a → ∀ a', y.1 = some a' → a'.block ≠ a.block) →
      Bs w2 y.1 y.2.1 y.2.2 ∧ (∀ a', y.1 = some a' → a'.block < w2.heap.size) ∧ ∀ a, A' = some a → ∀ a', y.1 = some a' → a'.block ≠ a.block := fun y hy hl hne => by
    refine ⟨Rd.grown (Bs.below hy hb) hg fun ad ha _ e => ?_, fun a' e => by have := hl a' e; omega, fun a e a' e' hc => ?_⟩
    · cases hA : A with
      | none => rw [hA] at e; cases e
      | some a =>
        rw [hA] at e
        injection e with e
        exact hne a hA ad ha e.symm
    · have hlt := hl a' e'
      subst e
      rcases hat with hat | hat
      · cases hA : A with
        | none => rw [hA] at hat; cases hat
        | some a0 =>
          rw [hA] at hat
          simp only [Value.ownBlock, Option.some.injEq] at hat
          exact hne a0 hA a' e' (by omega)
      · simp only [Value.ownBlock, Option.some.injEq] at hat
        omega
  refine ⟨?_, fun y hy => ?_, fun y hy => ?_, fun a e y hy => ?_⟩
  · simpa using hrow
  all_goals rcases List.mem_append.1 hy with hy | hy
  · exact (one y (h.bs y hy) (h.lt y hy) (fun a e => h.apart a e y hy)).1
  · simp only [List.mem_singleton] at hy; subst hy; exact (one y hx hxl hxa).1
  · exact (one y (h.bs y hy) (h.lt y hy) (fun a e => h.apart a e y hy)).2.1
  · simp only [List.mem_singleton] at hy; subst hy; exact (one y hx hxl hxa).2.1
  · exact (one y (h.bs y hy) (h.lt y hy) (fun a e => h.apart a e y hy)).2.2 a e
  · simp only [List.mem_singleton] at hy; subst hy; exact (one y hx hxl hxa).2.2 a e
/-- what a call behind it made lies elsewhere -/
theorem Own2.fresh {e : TypeId} {A1 : Option Addr} {c1 n : Nat} {xs : List Value} (h : Own2 B w A c R) (ho : w'.ownsRow w.heap.size e 1 (.slice A1 n c1) n xs) :
    (∀ a', A1 = some a' → a'.block < w'.heap.size) ∧ ∀ a, A = some a → ∀ a', A1 = some a' → a'.block ≠ a.block := by
  refine ⟨fun a' e => ?_, fun a e a' e' hc => ?_⟩
  · subst e; exact (ho.lt _ rfl).2
  · subst e e'
    have h1 := (ho.lt _ rfl).1
    have h2 := (h.row.lt _ rfl).2
    omega
end Go.Proofs.YtghdojiffooilaaDoor.F08
