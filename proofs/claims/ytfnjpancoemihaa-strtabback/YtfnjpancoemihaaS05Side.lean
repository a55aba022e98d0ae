/-
  A new table, and a row of one's own beside it.
-/
import Derived.Test.YtfnjpancoemihaaS05Alive
namespace Go.Proofs.Ytfnjpancoemihaa.S05
open Go.RowKit Go.Lib Go.Maps Go.Proofs.Ytfnjpancoemihaa.Wd Go.Proofs.Ytfnjpancoemihaa.V01

/-- a new table in a world that only grew -/
structure Nw (w wr : World) (p : Nat) (M : List ByteArray) (o : List Nat) : Prop where
  tab : Tab wr p M o
  new : ∀ y ∈ o, w.heap.size ≤ y
  below : Below w.heap.size w wr
/-- behind a Put: the texts, with s -/
def with_ (M : List ByteArray) (s : ByteArray) (M' : List ByteArray) : Prop := (s ∈ M ∧ M' = M) ∨ (s ∉ M ∧ M' = M ++ [s])
theorem put_nw (w wr : World) (p : Nat) (M : List ByteArray) (o : List Nat) (s : ByteArray) (h : Nw w wr p M o) (hz : s.size ≤ 4096) (hl : M.length + 1 ≤ 4096) :
    Calls Try.prog 9 #[.pointer (some ⟨p, 0, none⟩), .string s] wr fun e w' =>
      ∃ (q : Nat) (M' : List ByteArray) (o' : List Nat), e = .returned (.tuple #[.int .i64 q, .int .i64 0]) ∧ Nw w w' p M' o' ∧ with_ M s M' ∧ M'[q]? = some s ∧ Fr o wr w' ∧ Sub wr o' o := by
  by_cases hs : s ∈ M
  · refine (put_there wr p M o s _ h.tab hs rfl).mono ?_
    rintro e w' ⟨rfl, rfl⟩
    exact ⟨_, M, o, rfl, h, .inl ⟨hs, rfl⟩, by rw [List.getElem?_eq_getElem (ix_lt hs), ix_get hs], Fr.refl _ _, Sub.refl _ _⟩
  · refine (put_new wr p M o s _ h.tab hs hz rfl hl).mono ?_
    rintro e w' ⟨rfl, o', t, f, sb⟩
    exact ⟨_, M ++ [s], o', rfl, ⟨t, sb.above h.below.size h.new, h.below.trans (f.below h.below.size h.new)⟩, .inr ⟨hs, rfl⟩, by simp, f, sb⟩

theorem with_len {M M' : List ByteArray} {s : ByteArray} (h : with_ M s M') : M'.length ≤ M.length + 1 := by
  rcases h with ⟨_, rfl⟩ | ⟨_, rfl⟩
  · omega
  · simp

/-- a row of one's own, apart from the blocks o -/
structure Sd (w wr : World) (e : TypeId) (o : List Nat) (A : Option Addr) (n c : Nat) (xs : List Value) : Prop where
  row : wr.ownsRow w.heap.size e 1 (.slice A n c) n xs
  apart : ∀ a, A = some a → a.block ∉ o
theorem Sd.put {w wr w2 : World} {e : TypeId} {o o' : List Nat} {A : Option Addr} {n c : Nat} {xs : List Value} (h : Sd w wr e o A n c xs) (f : Fr o wr w2) (s : Sub wr o' o) : Sd w w2 e o' A n c xs := by
  have hlt : ∀ a, A = some a → a.block < wr.heap.size := fun a e => by
    subst e
    exact (h.row.lt _ rfl).2
  refine ⟨row_kept h.row (fun k hk => ?_), fun a e hm => ?_⟩
  · cases A with
    | none => cases hk
    | some a =>
      injection hk with hk
      subst hk
      exact f.block _ (hlt a rfl) (h.apart a rfl)
  · rcases s _ hm with h1 | h1
    · exact h.apart a e h1
    · have := hlt a e; omega
theorem Sd.app {w w2 w3 : World} {p : Nat} {M : List ByteArray} {o : List Nat} {e : TypeId} {A A' : Option Addr} {n m c c' : Nat} {xs ys : List Value} {ob : Obj} (N : Nw w w2 p M o) (h : Sd w w2 e o A n c xs)
    (hrow : w3.ownsRow w.heap.size e 1 (.slice A' m c') m ys) (hg : (w2.alloc ob).grownBy w3 (Value.slice A n c).ownBlock)
    (hat : (Value.slice A' m c').ownBlock = (Value.slice A n c).ownBlock ∨ (Value.slice A' m c').ownBlock = some (w2.alloc ob).heap.size) : Nw w w3 p M o ∧ Sd w w3 e o A' m c' ys := by
  have t := N.tab
  have hlt := t.lt
  have hne : ∀ k, (Value.slice A n c).ownBlock = some k → k ∉ o := fun k hk => by
    cases A with
    | none => cases hk
    | some a =>
      injection hk with hk
      subst hk
      exact h.apart a rfl
  have hk : ∀ x ∈ o, w3.heap[x]? = w2.heap[x]? := fun x hx => by
    rw [hg.block x (by simp; have := hlt x hx; omega) (fun e => hne x e.symm hx), Below.heap_alloc w2 _ x (hlt x hx)]
  refine ⟨⟨?_, N.new, ?_⟩, hrow, fun a e hm => ?_⟩
  · obtain ⟨TA, tc, M1, t, rfl⟩ := t
    exact ⟨TA, tc, M1, t.same hk, rfl⟩
  · exact (N.below.alloc N.below.size _).grown hg (by simp; have := N.below.size; omega) (fun k hk => (h.row.lt k hk).1)
  · subst e
    rcases hat with h1 | h1
    · exact hne a.block h1.symm hm
    · injection h1 with h1
      have := hlt a.block hm
      simp at h1
      omega
end Go.Proofs.Ytfnjpancoemihaa.S05
