/-
  Two rows of the call's own, apart from one another.
-/
import Derived.Test.YtdmibolbpgondaaGreatKWords
import Derived.Maps.AppendAt
namespace Go.Proofs.YtdmibolbpgondaaGreat.Wd
open Go.RowKit Go.Lib

/-- 'append(own, src...)', the source nil or not; where the new row lies -/
theorem append_rd_at {P : Program} (w : World) {ops : Array Oper} {rest : List Oper} {o : Oper} {a : Act} {Q : Exit → Act → World → Prop} (hgd : o.guard = none) (s x : Operand) (t : TypeId)
    (ho : o.op = .call { callee := .builtin .append, args := #[s, x], argTypes := #[t, t] })
    (base : Nat) (e : TypeId) (i : TypeInfo) (z : Value) (size bytes : Nat) (ht : P.underlying t = some (.slice e)) (hi : P.info? e = some i) (hz : i.zero = some z)
    (hsize : i.size = size) (hby : i.bytes = bytes) (hzs : z.cells.size = size) (hsz : 0 < size)
    (v : Value) (n : Nat) (xs : List Value) (hs : a.eval s = v) (hown : w.ownsRow base e size v n xs)
    (A : Option Addr) (m c : Nat) (news : List Value) (hx : a.eval x = .slice A m c) (hr : Rd size w A m c news) (h1 : ∀ u ∈ news, u.oneCell' = true)
    (h63 : n + m ≤ maxLen) (hbytes : (n + m) * bytes ≤ 140737488355328) (hbase : base ≤ w.heap.size)
    (h : ∀ A' c' w', w'.ownsRow base e size (.slice A' (n + m) c') (n + m) (xs ++ news) → w.grownBy w' v.ownBlock →
      ((Value.slice A' (n + m) c').ownBlock = v.ownBlock ∨ (Value.slice A' (n + m) c').ownBlock = some w.heap.size) → wpList P ops Q rest (a.put o.dst (.slice A' (n + m) c')) w') : wpList P ops Q (o :: rest) a w := by
  cases hA : A with
  | none =>
    obtain ⟨rfl, rfl⟩ := hr.none_ hA
    have hn : news = [] := List.eq_nil_of_length_eq_zero (by have := hr.len; omega)
    subst hn
    subst hA
    obtain ⟨A1, c1, hv⟩ := own_form hown
    refine wpList_append_own_none hgd s x t ho base e i size ht hi v n xs hs hown hx ?_
    have := h A1 c1 w (by rw [Nat.add_zero, List.append_nil, ← hv]; exact hown) (World.grownBy.refl w _) (.inl (by rw [Nat.add_zero, ← hv]))
    rw [Nat.add_zero, ← hv] at this
    exact this
  | some ad =>
    refine wpList_append_own_at w hgd s x t ho base e i z size bytes ht hi hz hsize hby hzs hsz v n xs hs hown ad m c news (by rw [hx, hA]) hr.len (hr.at_ ad hA) h1 h63 hbytes hbase fun v' w' h2 h3 _ h5 => ?_
    obtain ⟨A1, c1, hv⟩ := own_form h2
    subst hv
    exact h A1 c1 w' h2 h3 h5

/-- no block of the one is the other's -/
def Ap (v u : Value) : Prop := ∀ k, v.ownBlock = some k → u.ownBlock ≠ some k
theorem Ap.symm {v u : Value} (h : Ap v u) : Ap u v := fun k h1 h2 => h k h2 h1
theorem Ap.nil (u : Value) : Ap (.slice none 0 0) u := fun k h => by cases h
/-- the one grows, the other stays -/
theorem Ap.keep {w w' : World} {B size m : Nat} {e : TypeId} {v v' u : Value} {ys : List Value} (hap : Ap v u) (h : w.ownsRow B e size u m ys) (hg : w.grownBy w' v.ownBlock)
    (hat : v'.ownBlock = v.ownBlock ∨ v'.ownBlock = some w.heap.size) : w'.ownsRow B e size u m ys ∧ Ap v' u := by
  refine ⟨h.kept hg ?_, fun k hk hu => ?_⟩
  · cases hu : u.ownBlock with
    | none => exact .inl rfl
    | some k => exact .inr fun he => hap k he.symm hu
  · rcases hat with hat | hat
    · exact hap k (hat ▸ hk) hu
    · rw [hat] at hk
      injection hk with hk
      have := (h.lt k hu).2
      omega
end Go.Proofs.YtdmibolbpgondaaGreat.Wd
