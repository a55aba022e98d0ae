/-
  Counts that may be full, in plain numbers ('Is S n f': the count of the sum S); the cells in which a count is kept.
-/
import Derived.Test.YthggaoobbkflaaaRows
import Derived.Test.YthggaoobbkflaaaWords
import Derived.WalkKit
import Derived.WalkSpells
import Derived.Handy
import Derived.Lib.Hide
set_option linter.unusedSimpArgs false
set_option linter.unusedVariables false
namespace Go.Proofs.Ythggaoobbkflaaa.S10
open Go.RowKit Go.Lib Go.Proofs.Ythggaoobbkflaaa.Wd

/-- a count, as the machine holds it -/
abbrev ct (n : Int) (f : Bool) : Value := .agg #[.int .u64 n, .bool f]
/-- the count of the sum S -/
structure Is (S n : Int) (f : Bool) : Prop where
  pos : 0 ≤ S
  low : 0 ≤ n
  max : n ≤ 9223372036854775807
  small : f = false → n = S
  great : f = true → n = 9223372036854775807 ∧ 9223372036854775807 < S
theorem Is.of (S : Int) (h : 0 ≤ S) : ∃ n f, Is S n f := by
  by_cases k : S ≤ 9223372036854775807
  · exact ⟨S, false, h, h, k, fun _ => rfl, fun e => by cases e⟩
  · exact ⟨9223372036854775807, true, h, by omega, by omega, (fun e => by cases e), fun _ => ⟨rfl, by omega⟩⟩
theorem Is.same {S n m : Int} {f g : Bool} (h : Is S n f) (k : Is S m g) : m = n ∧ g = f := by
  have h1 := h.max
  have h2 := k.max
  cases f <;> cases g
  · exact ⟨by rw [h.small rfl, k.small rfl], rfl⟩
  · have := h.small rfl; have := k.great rfl; omega
  · have := h.great rfl; have := k.small rfl; omega
  · exact ⟨by rw [(h.great rfl).1, (k.great rfl).1], rfl⟩
theorem Is.zero : Is 0 0 false := ⟨by omega, by omega, by omega, fun _ => rfl, fun e => by cases e⟩
/-- more than can be held -/
theorem Is.over {S n : Int} {f : Bool} (h : Is S n f) (k : 9223372036854775807 < S) : n = 9223372036854775807 ∧ f = true := by
  cases f
  · have := h.small rfl; have := h.max; omega
  · exact ⟨(h.great rfl).1, rfl⟩
theorem Is.under {S n : Int} {f : Bool} (h : Is S n f) (k : S ≤ 9223372036854775807) : n = S ∧ f = false := by
  cases f
  · exact ⟨h.small rfl, rfl⟩
  · have := h.great rfl; omega
/-- it never falls -/
theorem Is.le {S T n m : Int} {f g : Bool} (h : Is S n f) (k : Is T m g) (hST : S ≤ T) : n ≤ m ∧ (f = true → g = true) := by
  have h1 := h.max
  cases f <;> cases g
  · have := h.small rfl; have := k.small rfl; exact ⟨by omega, fun e => e⟩
  · have := k.great rfl; exact ⟨by omega, fun _ => rfl⟩
  · have := h.great rfl; have := k.small rfl; have := k.max; omega
  · have := h.great rfl; have := k.great rfl; exact ⟨by omega, fun e => e⟩
theorem ret_ct {n m : Int} {f g : Bool} (h : n = m ∧ f = g) : Ending.returned (ct n f) = .returned (ct m g) := by rw [h.1, h.2]
theorem ret_b {a b : Bool} (h : a = b) : Ending.returned (.bool a) = .returned (.bool b) := by rw [h]

/-- a count's cells -/
abbrev cb (n : Int) (f : Bool) : Array Value := #[.int .u64 n, .bool f]
/-- a count in a block of the call's own -/
def Cb (w : World) (g : Nat) (n : Int) (f : Bool) : Prop := w.heap[g]? = some (.cells (cb n f) 37)
theorem Cb.lt {w : World} {g : Nat} {n : Int} {f : Bool} (h : Cb w g n f) : g < w.heap.size := (Array.getElem?_eq_some_iff.1 h).1
theorem Cb.c0 {w : World} {g : Nat} {n : Int} {f : Bool} (h : Cb w g n f) : w.cell? ⟨g, 0, none⟩ = some (.int .u64 n) := by unfold Cb at h; simp [World.cell?, h]
theorem Cb.c1 {w : World} {g : Nat} {n : Int} {f : Bool} (h : Cb w g n f) : w.cell? ⟨g, 1, none⟩ = some (.bool f) := by unfold Cb at h; simp [World.cell?, h]
theorem Cb.f0 {w : World} {g : Nat} {n : Int} {f : Bool} (h : Cb w g n f) : w.frozen? ⟨g, 0, none⟩ = false := by unfold Cb at h; simp [World.frozen?, h]
theorem Cb.f1 {w : World} {g : Nat} {n : Int} {f : Bool} (h : Cb w g n f) : w.frozen? ⟨g, 1, none⟩ = false := by unfold Cb at h; simp [World.frozen?, h]
theorem Cb.below {w w' : World} {g : Nat} {n : Int} {f : Bool} (h : Cb w g n f) (hb : Below w.heap.size w w') : Cb w' g n f := by
  unfold Cb
  rw [hb.block g h.lt]
  exact h
theorem Cb.new (w : World) (n : Int) (f : Bool) : Cb (w.alloc (.cells (cb n f) 37)) w.heap.size n f := heap_alloc_new w _
theorem Cb.old {w : World} {g : Nat} {n : Int} {f : Bool} (h : Cb w g n f) (o : Obj) : Cb (w.alloc o) g n f := h.below ((Below.refl _ _).alloc (Nat.le_refl _) o)
theorem Cb.drew {w : World} {g : Nat} {n : Int} {f : Bool} (h : Cb w g n f) : Cb w.drew g n f := h
/-- a count stored over another -/
def put (w : World) (g : Nat) (n : Int) (f : Bool) : World := (w.setCell ⟨g, 0, none⟩ (.int .u64 n)).setCell ⟨g, 1, none⟩ (.bool f)
theorem Cb.put {w : World} {g : Nat} {n : Int} {f : Bool} (h : Cb w g n f) (m : Int) (e : Bool) : Cb (S10.put w g m e) g m e := by
  unfold Cb S10.put at *
  simp [World.setCell, h, Array.getElem?_modify]
theorem Cb.other {w : World} {g b : Nat} {n : Int} {f : Bool} (h : Cb w g n f) (hne : b ≠ g) (m : Int) (e : Bool) : Cb (S10.put w b m e) g n f := by
  unfold Cb S10.put at *
  simp [World.setCell, h, Array.getElem?_modify, hne]
theorem below_put {B : Nat} {a w : World} (h : Below B a w) {g : Nat} (hg : B ≤ g) (n : Int) (f : Bool) : Below B a (S10.put w g n f) :=
  (h.setCell (p := ⟨g, 0, none⟩) hg _).setCell (p := ⟨g, 1, none⟩) hg _
theorem size_put (w : World) (g : Nat) (n : Int) (f : Bool) : (S10.put w g n f).heap.size = w.heap.size := by
  unfold S10.put
  simp

/-- the sum of a list -/
def tot (l : List Nat) : Int := (l.sum : Nat)
theorem tot_nil : tot [] = 0 := rfl
theorem tot_pos (l : List Nat) : 0 ≤ tot l := by unfold tot; omega
theorem tot_app (l m : List Nat) : tot (l ++ m) = tot l + tot m := by unfold tot; rw [List.sum_append]; omega
theorem tot_take {l : List Nat} {k : Nat} (h : k < l.length) : tot (l.take k) + (l[k] : Int) = tot (l.take (k + 1)) := by
  rw [List.take_succ_eq_append_getElem h, tot_app]
  simp [tot]
theorem tot_cut (l : List Nat) (k : Nat) : tot (l.take k) + tot (l.drop k) = tot l := by rw [← tot_app, List.take_append_drop]
end Go.Proofs.Ythggaoobbkflaaa.S10
