/-
  A table in memory: its block, its row of texts, its map; what keeps it.
-/
import Derived.Test.YtdmibolbpgondaaGreatRows
import Derived.Test.YtdmibolbpgondaaGreatKWords
import Derived.Test.YtdmibolbpgondaaGreatKTexts
import Derived.Maps.OwnSet
import Derived.Maps.AppendAt
import Derived.OneCell
import Derived.WalkKit
import Derived.WalkSpells
import Derived.WalkLawsBesides
namespace Go.Proofs.YtdmibolbpgondaaGreat.S05
open Go.RowKit Go.Lib Go.Maps Go.Proofs.YtdmibolbpgondaaGreat.Wd

/-- all blocks that were there but those of o are as they were -/
structure Fr (o : List Nat) (w w' : World) : Prop where
  os : w'.os = w.os
  tape : w'.tape = w.tape
  output : w'.output = w.output
  size : w.heap.size ≤ w'.heap.size
  block : ∀ k, k < w.heap.size → k ∉ o → w'.heap[k]? = w.heap[k]?
/-- each block of o' is one of o, or it is new -/
def Sub (w : World) (o' o : List Nat) : Prop := ∀ x ∈ o', x ∈ o ∨ w.heap.size ≤ x

variable {w w' : World} {o o' : List Nat}
theorem Fr.refl (o : List Nat) (w : World) : Fr o w w := ⟨rfl, rfl, rfl, Nat.le_refl _, fun _ _ _ => rfl⟩
theorem Fr.trans {a b c : World} (h : Fr o a b) (k : Fr o' b c) (hs : Sub a o' o) : Fr o a c :=
  ⟨k.os.trans h.os, k.tape.trans h.tape, k.output.trans h.output, Nat.le_trans h.size k.size, fun i hi hn =>
    (k.block i (Nat.lt_of_lt_of_le hi h.size) (fun hm => by rcases hs i hm with h1 | h1; exact hn h1; omega)).trans (h.block i hi hn)⟩
theorem Fr.of_below (o : List Nat) (h : Below w.heap.size w w') : Fr o w w' := ⟨h.os, h.tape, h.output, h.size, fun k hk _ => h.block k hk⟩
theorem Fr.below {B : Nat} (h : Fr o w w') (hB : B ≤ w.heap.size) (ho : ∀ x ∈ o, B ≤ x) : Below B w w' :=
  ⟨h.os, h.tape, h.output, h.size, fun k hk => h.block k (by omega) (fun hm => by have := ho k hm; omega)⟩
theorem Fr.of_grown {row : Option Nat} (h : w.grownBy w' row) (hr : ∀ k, row = some k → k ∈ o) : Fr o w w' :=
  ⟨h.os, h.tape, h.output, h.size, fun k hk hn => h.block k hk (fun e => hn (hr k e.symm))⟩
theorem Fr.setCell (w : World) (a : Addr) (v : Value) (ha : a.block ∈ o) : Fr o w (w.setCell a v) :=
  ⟨rfl, rfl, rfl, by simp, fun k _ hn => heap_setCell_other w a k v (fun e => hn (e ▸ ha))⟩
theorem Sub.refl (w : World) (o : List Nat) : Sub w o o := fun _ h => .inl h
theorem Sub.trans {a b : World} {o1 o2 o3 : List Nat} (h : Sub a o2 o1) (k : Sub b o3 o2) (hl : a.heap.size ≤ b.heap.size) : Sub a o3 o1 := fun x hx => by
  rcases k x hx with h1 | h1
  · exact h x h1
  · exact .inr (Nat.le_trans hl h1)
/-- all of o at or above B: so are those of o' -/
theorem Sub.above {B : Nat} (h : Sub w o' o) (hB : B ≤ w.heap.size) (ho : ∀ x ∈ o, B ≤ x) : ∀ x ∈ o', B ≤ x := fun x hx => by
  rcases h x hx with h1 | h1
  · exact ho x h1
  · omega

/-- a text as a key -/
def kl (s : ByteArray) : Lit := .string s.data.toList
theorem kl_inj {s t : ByteArray} (h : kl s = kl t) : s = t := by
  unfold kl at h
  injection h with h
  exact ByteArray.ext (Array.toList_inj.1 h)
theorem kl_key (s : ByteArray) : WideAt.IsKeyLit (kl s) := by simp [kl, WideAt.IsKeyLit]

def num (i : Nat) : DataW Unit := .lit (.int .i64 (i : Int))
abbrev Own (w : World) (b n : Nat) (D : DataW Unit) : Prop := w.ownsMap Tryz.prog 9 (plainElem Tryz.prog 3) b n D
/-- the map has just the texts of L, each with its place -/
structure Tells (D : DataW Unit) (L : List ByteArray) : Prop where
  isMap : IsMap D
  has : ∀ s, Maps.has D (kl s) = true ↔ s ∈ L
  at_ : ∀ i (h : i < L.length), D.atKey (kl L[i]) (num 0) = num i
theorem Tells.empty : Tells (.map []) [] := ⟨isMap_empty, fun s => by simp [Maps.has], fun i h => by simp at h⟩
theorem Tells.put {D : DataW Unit} {L : List ByteArray} (h : Tells D L) (s : ByteArray) (hs : s ∉ L) : Tells (D.put (kl s) (num L.length)) (L ++ [s]) := by
  refine ⟨h.isMap.put _ _, fun t => ?_, fun i hi => ?_⟩
  · by_cases e : t = s
    · subst e
      rw [has_put_same h.isMap (kl_key t)]
      simp
    · rw [has_put_other (fun e' => e (kl_inj e')), h.has t]
      simp [e]
  · by_cases hl : i < L.length
    · rw [List.getElem_append_left hl, atKey_put_other (fun e' => hs (by rw [← kl_inj e']; exact List.getElem_mem hl)), h.at_ i hl]
    · have : i = L.length := by simp at hi; omega
      subst this
      rw [List.getElem_append_right (Nat.le_refl _)]
      simp only [Nat.sub_self, List.getElem_cons_zero]
      rw [atKey_put_same h.isMap (kl_key s)]
def MapOk (w : World) (M : Option Nat) (L : List ByteArray) : Prop := (M = none ∧ L = []) ∨ ∃ bm D, M = some bm ∧ Own w bm L.length D ∧ Tells D L

def own (p : Nat) (A : Option Addr) (M : Option Nat) : List Nat := p :: ((A.map (·.block)).toList ++ M.toList)
theorem own_p (p : Nat) (A : Option Addr) (M : Option Nat) : p ∈ own p A M := by simp [own]
theorem own_row (p : Nat) (a : Addr) (M : Option Nat) : a.block ∈ own p (some a) M := by simp [own]
theorem own_map (p : Nat) (A : Option Addr) (m : Nat) : m ∈ own p A (some m) := by simp [own]
variable {p : Nat} {L : List ByteArray} {A : Option Addr} {c : Nat} {M : Option Nat}
theorem own_cases {x : Nat} (h : x ∈ own p A M) : x = p ∨ (∃ a, A = some a ∧ x = a.block) ∨ M = some x := by
  simp only [own, List.mem_cons, List.mem_append, Option.mem_toList, Option.map_eq_some_iff] at h
  rcases h with h | ⟨a, h1, h2⟩ | h
  · exact .inl h
  · exact .inr (.inl ⟨a, h1, h2.symm⟩)
  · exact .inr (.inr h)
theorem row_kept {v : Value} {n : Nat} {xs : List Value} {base : Nat} {e : TypeId} (h : w.ownsRow base e 1 v n xs) (hk : ∀ k, v.ownBlock = some k → w'.heap[k]? = w.heap[k]?) : w'.ownsRow base e 1 v n xs :=
  ⟨h.1, h.2.elim .inl fun ⟨g, cap, cur, hv, hbg, hg, r⟩ => .inr ⟨g, cap, cur, hv, hbg, by rw [hk g (by rw [hv]; rfl)]; exact hg, r⟩⟩
theorem map_kept {R : Value → Option (DataW Unit × List MemPlace)} {P : Program} {k : TypeId} {b n : Nat} {D : DataW Unit} (h : w.ownsMap P k R b n D) (hk : w'.heap[b]? = w.heap[b]?) : w'.ownsMap P k R b n D := by
  obtain ⟨es, clock, hb, r⟩ := h
  exact ⟨es, clock, hk.trans hb, r⟩
/-- where a text stands -/
def ix (L : List ByteArray) (s : ByteArray) : Nat := L.findIdx (fun x => decide (x = s))
theorem ix_lt {L : List ByteArray} {s : ByteArray} (h : s ∈ L) : ix L s < L.length := List.findIdx_lt_length_of_exists ⟨s, h, by simp⟩
theorem ix_get {L : List ByteArray} {s : ByteArray} (h : s ∈ L) : L[ix L s]'(ix_lt h) = s := by
  have := List.findIdx_getElem (p := fun x => decide (x = s)) (xs := L) (w := ix_lt h)
  exact of_decide_eq_true this
theorem nd_inj {L : List ByteArray} (hn : L.Nodup) {i j : Nat} (hi : i < L.length) (hj : j < L.length) (h : L[i] = L[j]) : i = j := by
  rcases Nat.lt_trichotomy i j with h1 | h1 | h1
  · exact absurd h (List.pairwise_iff_getElem.1 hn i j hi hj h1)
  · exact h1
  · exact absurd h.symm (List.pairwise_iff_getElem.1 hn j i hj hi h1)
theorem ix_of {L : List ByteArray} (hn : L.Nodup) {i : Nat} (h : i < L.length) : ix L L[i] = i :=
  nd_inj hn (ix_lt (List.getElem_mem h)) h (ix_get (List.getElem_mem h))

/-- a new slice's row is the elder one's, or new -/
theorem at_sub {v v' : Value} {x : Nat} (h : v'.ownBlock = v.ownBlock ∨ v'.ownBlock = some w.heap.size) (hx : v'.ownBlock = some x) : v.ownBlock = some x ∨ w.heap.size ≤ x := by
  rcases h with h | h
  · exact .inl (by rw [← h]; exact hx)
  · rw [h] at hx
    injection hx with hx
    exact .inr (by omega)
end Go.Proofs.YtdmibolbpgondaaGreat.S05
