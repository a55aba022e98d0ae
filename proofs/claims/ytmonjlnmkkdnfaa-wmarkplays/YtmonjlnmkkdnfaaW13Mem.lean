/-
  A clock in memory; what keeps it, what a store makes of it.
-/
import Derived.Test.YtmonjlnmkkdnfaaW13Pure
import Derived.Test.YtmonjlnmkkdnfaaFxs
set_option linter.unusedSimpArgs false
set_option linter.unusedVariables false
namespace Go.Proofs.Ytmonjlnmkkdnfaa.W13
open Go.RowKit Go.Lib Go.Proofs.Ytmonjlnmkkdnfaa.Wd

/-- the clock c in the blocks p (the struct) and g (the sources) -/
structure Ck (w : World) (p g : Nat) (c : Cl) : Prop where
  c0 : w.cell? ⟨p, 0, none⟩ = some (.slice (some ⟨g, 0, none⟩) c.N c.N)
  c1 : w.cell? ⟨p, 1, none⟩ = some (.int .u64 (c.late : Int))
  c2 : w.cell? ⟨p, 2, none⟩ = some (.int .u64 (c.idle : Int))
  c3 : w.cell? ⟨p, 3, none⟩ = some (.int .u64 (c.now : Int))
  c4 : w.cell? ⟨p, 4, none⟩ = some (.int .u64 (c.mark : Int))
  f3 : w.frozen? ⟨p, 3, none⟩ = false
  f4 : w.frozen? ⟨p, 4, none⟩ = false
  s0 : ∀ s, s < c.N → w.cell? ⟨g, s * 2, none⟩ = some (.int .u64 ((c.K s).1 : Int))
  s1 : ∀ s, s < c.N → w.cell? ⟨g, s * 2 + 1, none⟩ = some (.int .u64 ((c.K s).2 : Int))
  f0 : ∀ s, s < c.N → w.frozen? ⟨g, s * 2, none⟩ = false
  f1 : ∀ s, s < c.N → w.frozen? ⟨g, s * 2 + 1, none⟩ = false
  ne : p ≠ g
  lg : g < w.heap.size
section
variable {w w' : World} {p g : Nat} {c : Cl}
theorem Ck.lp (h : Ck w p g c) : p < w.heap.size := World.block_lt_of_cell? _ _ h.c0
theorem Ck.kept (h : Ck w p g c) (hs : w.heap.size ≤ w'.heap.size) (hp : w'.heap[p]? = w.heap[p]?) (hg : w'.heap[g]? = w.heap[g]?) : Ck w' p g c :=
  ⟨(World.cell?_of_block (a := ⟨p, 0, none⟩) hp).trans h.c0, (World.cell?_of_block (a := ⟨p, 1, none⟩) hp).trans h.c1, (World.cell?_of_block (a := ⟨p, 2, none⟩) hp).trans h.c2,
    (World.cell?_of_block (a := ⟨p, 3, none⟩) hp).trans h.c3, (World.cell?_of_block (a := ⟨p, 4, none⟩) hp).trans h.c4, (World.frozen?_of_block (a := ⟨p, 3, none⟩) hp).trans h.f3, (World.frozen?_of_block (a := ⟨p, 4, none⟩) hp).trans h.f4,
    fun s hs => (World.cell?_of_block (a := ⟨g, s * 2, none⟩) hg).trans (h.s0 s hs), fun s hs => (World.cell?_of_block (a := ⟨g, s * 2 + 1, none⟩) hg).trans (h.s1 s hs),
    fun s hs => (World.frozen?_of_block (a := ⟨g, s * 2, none⟩) hg).trans (h.f0 s hs), fun s hs => (World.frozen?_of_block (a := ⟨g, s * 2 + 1, none⟩) hg).trans (h.f1 s hs), h.ne, Nat.lt_of_lt_of_le h.lg hs⟩
theorem Ck.below (h : Ck w p g c) (hb : Below w.heap.size w w') : Ck w' p g c := h.kept hb.size (hb.block p h.lp) (hb.block g h.lg)
theorem Ck.eq (h : Ck w p g c) {d : Cl} (e : c = d) : Ck w p g d := e ▸ h
/-- a source's end stored -/
theorem Ck.setEnd (h : Ck w p g c) {s : Nat} (hs : s < c.N) (e : Nat) : Ck (w.setCell ⟨g, s * 2, none⟩ (.int .u64 (e : Int))) p g { c with K := up1 c.K s (e, (c.K s).2) } := by
  have o := fun j (u : Value) (hu : w.cell? ⟨p, j, none⟩ = some u) => cell_set_other (a := ⟨g, s * 2, none⟩) (Value.int .u64 (e : Int)) hu (addr_ne (.inl (Ne.symm h.ne)))
  have fz := fun a => World.frozen?_setCell w ⟨g, s * 2, none⟩ a (Value.int .u64 (e : Int))
  refine ⟨o _ _ h.c0, o _ _ h.c1, o _ _ h.c2, o _ _ h.c3, o _ _ h.c4, (fz _).trans h.f3, (fz _).trans h.f4, fun k hk => ?_, fun k hk => ?_, fun k hk => (fz _).trans (h.f0 k hk), fun k hk => (fz _).trans (h.f1 k hk), h.ne, by simpa using h.lg⟩
  · show _ = some (Value.int .u64 ((up1 c.K s (e, (c.K s).2) k).1 : Int))
    by_cases q : k = s
    · subst q
      rw [up1_same]
      exact cell_set_same _ (h.s0 k hk)
    · rw [up1_other _ _ q]
      exact cell_set_other _ (h.s0 k hk) (addr_ne (.inr (by omega)))
  · show _ = some (Value.int .u64 ((up1 c.K s (e, (c.K s).2) k).2 : Int))
    have e2 : (up1 c.K s (e, (c.K s).2) k).2 = (c.K k).2 := by
      by_cases q : k = s
      · subst q; rw [up1_same]
      · rw [up1_other _ _ q]
    rw [e2]
    exact cell_set_other _ (h.s1 k hk) (addr_ne (.inr (by omega)))
/-- a source's last tick stored -/
theorem Ck.setLast (h : Ck w p g c) {s : Nat} (hs : s < c.N) (e : Nat) : Ck (w.setCell ⟨g, s * 2 + 1, none⟩ (.int .u64 (e : Int))) p g { c with K := up1 c.K s ((c.K s).1, e) } := by
  have o := fun j (u : Value) (hu : w.cell? ⟨p, j, none⟩ = some u) => cell_set_other (a := ⟨g, s * 2 + 1, none⟩) (Value.int .u64 (e : Int)) hu (addr_ne (.inl (Ne.symm h.ne)))
  have fz := fun a => World.frozen?_setCell w ⟨g, s * 2 + 1, none⟩ a (Value.int .u64 (e : Int))
  refine ⟨o _ _ h.c0, o _ _ h.c1, o _ _ h.c2, o _ _ h.c3, o _ _ h.c4, (fz _).trans h.f3, (fz _).trans h.f4, fun k hk => ?_, fun k hk => ?_, fun k hk => (fz _).trans (h.f0 k hk), fun k hk => (fz _).trans (h.f1 k hk), h.ne, by simpa using h.lg⟩
  · show _ = some (Value.int .u64 ((up1 c.K s ((c.K s).1, e) k).1 : Int))
    have e2 : (up1 c.K s ((c.K s).1, e) k).1 = (c.K k).1 := by
      by_cases q : k = s
      · subst q; rw [up1_same]
      · rw [up1_other _ _ q]
    rw [e2]
    exact cell_set_other _ (h.s0 k hk) (addr_ne (.inr (by omega)))
  · show _ = some (Value.int .u64 ((up1 c.K s ((c.K s).1, e) k).2 : Int))
    by_cases q : k = s
    · subst q
      rw [up1_same]
      exact cell_set_same _ (h.s1 k hk)
    · rw [up1_other _ _ q]
      exact cell_set_other _ (h.s1 k hk) (addr_ne (.inr (by omega)))
theorem Ck.setNow (h : Ck w p g c) (e : Nat) : Ck (w.setCell ⟨p, 3, none⟩ (.int .u64 (e : Int))) p g { c with now := e } := by
  have o := fun j (u : Value) (hu : w.cell? ⟨p, j, none⟩ = some u) hj => cell_set_other (a := ⟨p, 3, none⟩) (Value.int .u64 (e : Int)) hu (addr_ne (.inr hj))
  have og := fun j (u : Value) (hu : w.cell? ⟨g, j, none⟩ = some u) => cell_set_other (a := ⟨p, 3, none⟩) (Value.int .u64 (e : Int)) hu (addr_ne (.inl h.ne))
  have fz := fun a => World.frozen?_setCell w ⟨p, 3, none⟩ a (Value.int .u64 (e : Int))
  exact ⟨o _ _ h.c0 (by omega), o _ _ h.c1 (by omega), o _ _ h.c2 (by omega), cell_set_same _ h.c3, o _ _ h.c4 (by omega), (fz _).trans h.f3, (fz _).trans h.f4, fun k hk => og _ _ (h.s0 k hk), fun k hk => og _ _ (h.s1 k hk), fun k hk => (fz _).trans (h.f0 k hk), fun k hk => (fz _).trans (h.f1 k hk), h.ne, by simpa using h.lg⟩
theorem Ck.setMark (h : Ck w p g c) (e : Nat) : Ck (w.setCell ⟨p, 4, none⟩ (.int .u64 (e : Int))) p g { c with mark := e } := by
  have o := fun j (u : Value) (hu : w.cell? ⟨p, j, none⟩ = some u) hj => cell_set_other (a := ⟨p, 4, none⟩) (Value.int .u64 (e : Int)) hu (addr_ne (.inr hj))
  have og := fun j (u : Value) (hu : w.cell? ⟨g, j, none⟩ = some u) => cell_set_other (a := ⟨p, 4, none⟩) (Value.int .u64 (e : Int)) hu (addr_ne (.inl h.ne))
  have fz := fun a => World.frozen?_setCell w ⟨p, 4, none⟩ a (Value.int .u64 (e : Int))
  exact ⟨o _ _ h.c0 (by omega), o _ _ h.c1 (by omega), o _ _ h.c2 (by omega), o _ _ h.c3 (by omega), cell_set_same _ h.c4, (fz _).trans h.f3, (fz _).trans h.f4, fun k hk => og _ _ (h.s0 k hk), fun k hk => og _ _ (h.s1 k hk), fun k hk => (fz _).trans (h.f0 k hk), fun k hk => (fz _).trans (h.f1 k hk), h.ne, by simpa using h.lg⟩
end
/-- a clock, all of it in the blocks from lo to hi -/
def Ci (w : World) (p lo hi : Nat) (c : Cl) : Prop := ∃ g, Ck w p g c ∧ c.Ok ∧ lo ≤ p ∧ p < hi ∧ lo ≤ g ∧ g < hi
section
variable {w w' : World} {p lo hi : Nat} {c : Cl}
theorem Ci.ok (h : Ci w p lo hi c) : c.Ok := by obtain ⟨g, h, k, _⟩ := h; exact k
theorem Ci.below (h : Ci w p lo hi c) (hb : Below w.heap.size w w') : Ci w' p lo hi c := by
  obtain ⟨g, h, k⟩ := h
  exact ⟨g, h.below hb, k⟩
theorem Ci.fx {lo' hi' : Nat} (h : Ci w p lo hi c) (hb : Fx lo' hi' w w') (ha : hi ≤ lo' ∨ hi' ≤ lo) : Ci w' p lo hi c := by
  obtain ⟨g, h, k, h1, h2, h3, h4⟩ := h
  exact ⟨g, h.kept hb.size (hb.block p h.lp (by omega)) (hb.block g h.lg (by omega)), k, h1, h2, h3, h4⟩
theorem Ci.eq (h : Ci w p lo hi c) {d : Cl} (e : c = d) : Ci w p lo hi d := e ▸ h
end
end Go.Proofs.Ytmonjlnmkkdnfaa.W13
