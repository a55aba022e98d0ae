/-
  What stays where an object of one's own changes: 'Fr o', 'Sub'; rows and maps kept; a map's size is its bound.
-/
import Derived.Test.YtdmibolbpgondaaGreatRows
import Derived.Test.YtdmibolbpgondaaGreatKWords
import Derived.Maps.OwnSet
import Derived.Maps.AppendAt
namespace Go.Proofs.YtdmibolbpgondaaGreat.Wd
open Go.RowKit Go.Lib

/-- all blocks that were there but those of o are as they were -/
structure Fr (o : List Nat) (w w' : World) : Prop where
  os : w'.os = w.os
  tape : w'.tape = w.tape
  output : w'.output = w.output
  size : w.heap.size ≤ w'.heap.size
  block : ∀ k, k < w.heap.size → k ∉ o → w'.heap[k]? = w.heap[k]?
/-- each block of o' is one of o, or it is new -/
def Sub (w : World) (o' o : List Nat) : Prop := ∀ x ∈ o', x ∈ o ∨ w.heap.size ≤ x
section
variable {w w' : World} {o o' : List Nat}
theorem Fr.refl (o : List Nat) (w : World) : Fr o w w := ⟨rfl, rfl, rfl, Nat.le_refl _, fun _ _ _ => rfl⟩
theorem Fr.trans {a b c : World} (h : Fr o a b) (k : Fr o' b c) (hs : Sub a o' o) : Fr o a c :=
  ⟨k.os.trans h.os, k.tape.trans h.tape, k.output.trans h.output, Nat.le_trans h.size k.size, fun i hi hn =>
    (k.block i (Nat.lt_of_lt_of_le hi h.size) (fun hm => by rcases hs i hm with h1 | h1; exact hn h1; omega)).trans (h.block i hi hn)⟩
theorem Fr.then {a b c : World} (h : Fr o a b) (k : Fr o b c) : Fr o a c := h.trans k fun _ h => .inl h
theorem Fr.of_below (o : List Nat) (h : Below w.heap.size w w') : Fr o w w' := ⟨h.os, h.tape, h.output, h.size, fun k hk _ => h.block k hk⟩
theorem Fr.below {B : Nat} (h : Fr o w w') (hB : B ≤ w.heap.size) (ho : ∀ x ∈ o, B ≤ x) : Below B w w' :=
  ⟨h.os, h.tape, h.output, h.size, fun k hk => h.block k (by omega) (fun hm => by have := ho k hm; omega)⟩
theorem Fr.of_grown {row : Option Nat} (h : w.grownBy w' row) (hr : ∀ k, row = some k → k ∈ o) : Fr o w w' :=
  ⟨h.os, h.tape, h.output, h.size, fun k hk hn => h.block k hk (fun e => hn (hr k e.symm))⟩
theorem Fr.setCell (w : World) (a : Addr) (v : Value) (ha : a.block ∈ o) : Fr o w (w.setCell a v) :=
  ⟨rfl, rfl, rfl, by simp, fun k _ hn => heap_setCell_other w a k v (fun e => hn (e ▸ ha))⟩
theorem Fr.drewN (h : Fr o w w') (k : Nat) : Fr o w (w'.drewN k) := ⟨h.os, h.tape, h.output, h.size, h.block⟩
theorem Fr.mono (h : Fr o w w') (hs : ∀ x ∈ o, x ∈ o') : Fr o' w w' := ⟨h.os, h.tape, h.output, h.size, fun k hk hn => h.block k hk fun hm => hn (hs k hm)⟩
theorem Sub.refl (w : World) (o : List Nat) : Sub w o o := fun _ h => .inl h
theorem Sub.trans {a b : World} {o1 o2 o3 : List Nat} (h : Sub a o2 o1) (k : Sub b o3 o2) (hl : a.heap.size ≤ b.heap.size) : Sub a o3 o1 := fun x hx => by
  rcases k x hx with h1 | h1
  · exact h x h1
  · exact .inr (Nat.le_trans hl h1)
/-- all of o at or above B: so are those of o' -/
theorem Sub.above {B : Nat} (h : Sub w o' o) (hB : B ≤ w.heap.size) (ho : ∀ x ∈ o, B ≤ x) : ∀ x ∈ o', B ≤ x := fun x hx => by
  rcases h x hx with h1 | h1
  · exact ho x h1
  · omega
theorem row_kept {size : Nat} {v : Value} {n : Nat} {xs : List Value} {base : Nat} {e : TypeId} (h : w.ownsRow base e size v n xs) (hk : ∀ k, v.ownBlock = some k → w'.heap[k]? = w.heap[k]?) : w'.ownsRow base e size v n xs :=
  ⟨h.1, h.2.elim .inl fun ⟨g, cap, cur, hv, hbg, hg, r⟩ => .inr ⟨g, cap, cur, hv, hbg, by rw [hk g (by rw [hv]; rfl)]; exact hg, r⟩⟩
theorem row_base {size : Nat} {v : Value} {n : Nat} {xs : List Value} {base base' : Nat} {e : TypeId} (h : w.ownsRow base e size v n xs) (hk : ∀ k, v.ownBlock = some k → base' ≤ k) : w.ownsRow base' e size v n xs :=
  ⟨h.1, h.2.elim .inl fun ⟨g, cap, cur, hv, hbg, hg, r⟩ => .inr ⟨g, cap, cur, hv, hk g (by rw [hv]; rfl), hg, r⟩⟩
theorem map_kept {R : Value → Option (DataW Unit × List MemPlace)} {P : Program} {k : TypeId} {b n : Nat} {D : DataW Unit} (h : w.ownsMap P k R b n D) (hk : w'.heap[b]? = w.heap[b]?) : w'.ownsMap P k R b n D := by
  obtain ⟨es, clock, hb, r⟩ := h
  exact ⟨es, clock, hk.trans hb, r⟩
/-- a map's own size bounds it -/
theorem map_size {R : Value → Option (DataW Unit × List MemPlace)} {P : Program} {k : TypeId} {b n : Nat} {D : DataW Unit} (h : w.ownsMap P k R b n D) : w.ownsMap P k R b (Maps.size D) D := by
  obtain ⟨es, clock, hb, F, hs, rfl⟩ := h
  exact ⟨es, clock, hb, F, by simp [Maps.size, length_sorted], rfl⟩
end
end Go.Proofs.YtdmibolbpgondaaGreat.Wd
