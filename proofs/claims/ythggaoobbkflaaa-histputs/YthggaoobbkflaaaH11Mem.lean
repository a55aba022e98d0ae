/-
  A histogram in memory; what keeps it.
-/
import Derived.Test.YthggaoobbkflaaaH11Pure
set_option linter.unusedSimpArgs false
set_option linter.unusedVariables false
namespace Go.Proofs.Ythggaoobbkflaaa.H11
open Go.RowKit Go.Lib Go.Proofs.Ythggaoobbkflaaa.Wd Go.Proofs.Ythggaoobbkflaaa.S10

/-- a count's two cells, at an offset -/
structure Ct (w : World) (B O S : Nat) : Prop where
  c0 : w.cell? ⟨B, O, none⟩ = some (.int .u64 (sn S))
  c1 : w.cell? ⟨B, O + 1, none⟩ = some (.bool (sf S))
  f0 : w.frozen? ⟨B, O, none⟩ = false
  f1 : w.frozen? ⟨B, O + 1, none⟩ = false
variable {w w' : World} {B O S : Nat}
theorem Ct.lt (h : Ct w B O S) : B < w.heap.size := World.block_lt_of_cell? _ _ h.c0
theorem Ct.kept (h : Ct w B O S) (hb : w'.heap[B]? = w.heap[B]?) : Ct w' B O S :=
  ⟨(World.cell?_of_block (a := ⟨B, O, none⟩) hb).trans h.c0, (World.cell?_of_block (a := ⟨B, O + 1, none⟩) hb).trans h.c1,
    (World.frozen?_of_block (a := ⟨B, O, none⟩) hb).trans h.f0, (World.frozen?_of_block (a := ⟨B, O + 1, none⟩) hb).trans h.f1⟩
theorem Ct.eq (h : Ct w B O S) {T : Nat} (e : S = T) : Ct w B O T := e ▸ h
/-- a count stored over another -/
def cput (w : World) (B O T : Nat) : World := (w.setCell ⟨B, O, none⟩ (.int .u64 (sn T))).setCell ⟨B, O + 1, none⟩ (.bool (sf T))
theorem Ct.put (h : Ct w B O S) (T : Nat) : Ct (cput w B O T) B O T := by
  unfold cput
  refine ⟨?_, ?_, by rw [World.frozen?_setCell, World.frozen?_setCell]; exact h.f0, by rw [World.frozen?_setCell, World.frozen?_setCell]; exact h.f1⟩
  · refine Eq.trans (World.cell?_setCell_other _ _ _ _ ?_) (World.cell?_setCell_same _ _ _ h.c0)
    intro q
    injection q with _ q
    omega
  · refine World.cell?_setCell_same _ _ _ (u := .bool (sf S)) ?_
    refine Eq.trans (World.cell?_setCell_other _ _ _ _ ?_) h.c1
    intro q
    injection q with _ q
    omega
theorem cell_cput {p : Addr} {v : Value} (h : w.cell? p = some v) (T : Nat) (hne : B ≠ p.block ∨ (O ≠ p.off ∧ O + 1 ≠ p.off)) : (cput w B O T).cell? p = some v := by
  unfold cput
  refine Eq.trans (World.cell?_setCell_other _ _ _ _ ?_) (Eq.trans (World.cell?_setCell_other _ _ _ _ ?_) h)
  · intro q
    subst q
    rcases hne with h1 | h1
    · exact h1 rfl
    · exact h1.2 rfl
  · intro q
    subst q
    rcases hne with h1 | h1
    · exact h1 rfl
    · exact h1.1 rfl
theorem Ct.other {B' O' : Nat} (h : Ct w B O S) (T : Nat) (hne : B' ≠ B ∨ (O' ≠ O ∧ O' + 1 ≠ O ∧ O' ≠ O + 1)) : Ct (cput w B' O' T) B O S :=
  ⟨cell_cput h.c0 T (hne.imp id fun k => ⟨k.1, k.2.1⟩), cell_cput h.c1 T (hne.imp id fun k => ⟨k.2.2, fun e => k.1 (by simpa using e)⟩),
    by unfold cput; rw [World.frozen?_setCell, World.frozen?_setCell]; exact h.f0, by unfold cput; rw [World.frozen?_setCell, World.frozen?_setCell]; exact h.f1⟩
theorem size_cput (w : World) (B O T : Nat) : (cput w B O T).heap.size = w.heap.size := by unfold cput; simp
theorem heap_cput (w : World) (B O T k : Nat) (h : k ≠ B) : (cput w B O T).heap[k]? = w.heap[k]? := by
  unfold cput
  rw [heap_setCell_other _ _ _ _ h, heap_setCell_other _ _ _ _ h]

/-- outside of the blocks from lo to hi all is as it was -/
structure Fx (lo hi : Nat) (w w' : World) : Prop where
  os : w'.os = w.os
  tape : w'.tape = w.tape
  output : w'.output = w.output
  size : w.heap.size ≤ w'.heap.size
  block : ∀ k, k < w.heap.size → (k < lo ∨ hi ≤ k) → w'.heap[k]? = w.heap[k]?
variable {lo hi : Nat}
theorem Fx.refl (lo hi : Nat) (w : World) : Fx lo hi w w := ⟨rfl, rfl, rfl, Nat.le_refl _, fun _ _ _ => rfl⟩
theorem Fx.trans {a b c : World} (h : Fx lo hi a b) (k : Fx lo hi b c) : Fx lo hi a c :=
  ⟨k.os.trans h.os, k.tape.trans h.tape, k.output.trans h.output, Nat.le_trans h.size k.size, fun i hl hi => (k.block i (Nat.lt_of_lt_of_le hl h.size) hi).trans (h.block i hl hi)⟩
theorem Fx.of (h : Below w.heap.size w w') (lo hi : Nat) : Fx lo hi w w' := ⟨h.os, h.tape, h.output, h.size, fun k hk _ => h.block k hk⟩
theorem Fx.below {A : Nat} (h : Fx lo hi w w') (hA : A ≤ lo) (hs : A ≤ w.heap.size) : Below A w w' := ⟨h.os, h.tape, h.output, h.size, fun k hk => h.block k (by omega) (.inl (by omega))⟩
theorem Fx.put (w : World) (B O T : Nat) (h1 : lo ≤ B) (h2 : B < hi) : Fx lo hi w (cput w B O T) :=
  ⟨rfl, rfl, rfl, by rw [size_cput]; exact Nat.le_refl _, fun k _ hk => heap_cput w B O T k (by omega)⟩

/-- a histogram over the bounds bs with the buckets K, of N numbers whose sum is S, in the blocks p and g -/
structure Hr (w : World) (p g : Nat) (A : Option Addr) (c : Nat) (bs : List Nat) (K : Nat → Nat) (N S : Nat) : Prop where
  c0 : w.cell? ⟨p, 0, none⟩ = some (.slice A bs.length c)
  c1 : w.cell? ⟨p, 1, none⟩ = some (.slice (some ⟨g, 0, none⟩) bs.length bs.length)
  us : Us w A c bs
  ap : ∀ a, A = some a → a.block ≠ p ∧ a.block ≠ g
  ne : p ≠ g
  lg : g < w.heap.size
  rt : Right bs
  ct : ∀ i, i < bs.length → Ct w g (2 * i) (K i)
  r : Ct w p 2 (K bs.length)
  n : Ct w p 4 N
  s : Ct w p 6 S
variable {p g c : Nat} {A : Option Addr} {bs l : List Nat} {K : Nat → Nat} {N T : Nat}
theorem us_kept (h : Us w A c bs) (hk : ∀ a, A = some a → w'.heap[a.block]? = w.heap[a.block]?) : Us w' A c bs :=
  ⟨⟨h.1.len, h.1.none_, h.1.cap, h.1.max, fun ad ha i u hu => by
    have hc := h.1.at_ ad ha i u hu
    rw [World.cell?_of_block (w := w) (a := ad.add i) (by rw [add_block]; exact hk ad ha)]
    exact hc⟩, h.2⟩
/-- the blocks of a histogram -/
def bl (p g : Nat) (A : Option Addr) : List Nat := p :: g :: (A.map (·.block)).toList
theorem mem_bl {x : Nat} : x ∈ bl p g A ↔ x = p ∨ x = g ∨ ∃ a, A = some a ∧ x = a.block := by
  cases A <;> simp [bl]
theorem Hr.kept (h : Hr w p g A c bs K N S) (hs : w.heap.size ≤ w'.heap.size) (hk : ∀ k ∈ bl p g A, w'.heap[k]? = w.heap[k]?) : Hr w' p g A c bs K N S := by
  have hp := hk p (mem_bl.2 (.inl rfl))
  have hg := hk g (mem_bl.2 (.inr (.inl rfl)))
  have hA : ∀ a, A = some a → w'.heap[a.block]? = w.heap[a.block]? := fun a ha => hk a.block (mem_bl.2 (.inr (.inr ⟨a, ha, rfl⟩)))
  exact ⟨(World.cell?_of_block (a := ⟨p, 0, none⟩) hp).trans h.c0, (World.cell?_of_block (a := ⟨p, 1, none⟩) hp).trans h.c1, us_kept h.us hA, h.ap, h.ne, Nat.lt_of_lt_of_le h.lg hs, h.rt,
    fun i hi => (h.ct i hi).kept hg, h.r.kept hp, h.n.kept hp, h.s.kept hp⟩
/-- a histogram, all of it in the blocks from lo to hi -/
def Hi (w : World) (p lo hi : Nat) (bs l : List Nat) : Prop := ∃ g A c, Hr w p g A c bs (kk bs l) l.length l.sum ∧ ∀ k ∈ bl p g A, lo ≤ k ∧ k < hi ∧ k < w.heap.size
theorem Hi.kept (h : Hi w p lo hi bs l) (hs : w.heap.size ≤ w'.heap.size) (hk : ∀ k, lo ≤ k → k < hi → k < w.heap.size → w'.heap[k]? = w.heap[k]?) : Hi w' p lo hi bs l := by
  obtain ⟨g, A, c, h, hb⟩ := h
  exact ⟨g, A, c, h.kept hs fun k hk' => hk k (hb k hk').1 (hb k hk').2.1 (hb k hk').2.2, fun k hk' => ⟨(hb k hk').1, (hb k hk').2.1, Nat.lt_of_lt_of_le (hb k hk').2.2 hs⟩⟩
theorem Hi.below (h : Hi w p lo hi bs l) (hb : Below w.heap.size w w') : Hi w' p lo hi bs l := h.kept hb.size fun k _ _ hk => hb.block k hk
theorem Hi.fx {lo' hi' : Nat} (h : Hi w p lo hi bs l) (hb : Fx lo' hi' w w') (ha : hi ≤ lo' ∨ hi' ≤ lo) : Hi w' p lo hi bs l := h.kept hb.size fun k h1 h2 hk => hb.block k hk (by omega)
theorem Hi.rt (h : Hi w p lo hi bs l) : Right bs := by obtain ⟨g, A, c, h, hb⟩ := h; exact h.rt
theorem Hi.eq (h : Hi w p lo hi bs l) {m : List Nat} (e : l = m) : Hi w p lo hi bs m := e ▸ h
theorem us_fx {A : Option Addr} {c : Nat} {l : List Nat} {B0 : Nat} {w0 : World} (h : Us w0 A c l) (hb : Below w0.heap.size w0 w) : Us w A c l := h.below hb
theorem Hr.eq (h : Hr w p g A c bs K N S) {K' : Nat → Nat} {N' S' : Nat} (e1 : ∀ i, i ≤ bs.length → K i = K' i) (e2 : N = N') (e3 : S = S') : Hr w p g A c bs K' N' S' := by
  subst e2 e3
  exact ⟨h.c0, h.c1, h.us, h.ap, h.ne, h.lg, h.rt, fun i hi => (h.ct i hi).eq (e1 i (by omega)), h.r.eq (e1 _ (Nat.le_refl _)), h.n, h.s⟩
/-- where the i-th bucket is -/
def bB (p g : Nat) (bs : List Nat) (i : Nat) : Nat := if i < bs.length then g else p
def bO (bs : List Nat) (i : Nat) : Nat := if i < bs.length then 2 * i else 2
theorem Hr.at_ (h : Hr w p g A c bs K N S) {i : Nat} (hi : i ≤ bs.length) : Ct w (bB p g bs i) (bO bs i) (K i) := by
  unfold bB bO
  by_cases k : i < bs.length
  · rw [if_pos k, if_pos k]
    exact h.ct i k
  · rw [if_neg k, if_neg k]
    have : i = bs.length := by omega
    subst this
    exact h.r
theorem Hr.slice_put (h : Hr w p g A c bs K N S) (B O T : Nat) (hB : (B = p ∧ 2 ≤ O) ∨ B = g) : (cput w B O T).cell? ⟨p, 0, none⟩ = some (.slice A bs.length c) ∧
    (cput w B O T).cell? ⟨p, 1, none⟩ = some (.slice (some ⟨g, 0, none⟩) bs.length bs.length) ∧ Us (cput w B O T) A c bs :=
  ⟨cell_cput h.c0 T (by
    rcases hB with ⟨rfl, h2⟩ | rfl
    · exact .inr ⟨by show O ≠ 0; omega, by show O + 1 ≠ 0; omega⟩
    · exact .inl (Ne.symm h.ne)), cell_cput h.c1 T (by
    rcases hB with ⟨rfl, h2⟩ | rfl
    · exact .inr ⟨by show O ≠ 1; omega, by show O + 1 ≠ 1; omega⟩
    · exact .inl (Ne.symm h.ne)), us_kept h.us (fun a ha => heap_cput w B O T a.block (by
    have := h.ap a ha
    rcases hB with ⟨rfl, h2⟩ | rfl
    · exact this.1
    · exact this.2))⟩
def upd (K : Nat → Nat) (i T : Nat) : Nat → Nat := fun j => if j = i then T else K j
/-- a bucket changed -/
theorem Hr.setb (h : Hr w p g A c bs K N S) {i : Nat} (hi : i ≤ bs.length) (T : Nat) : Hr (cput w (bB p g bs i) (bO bs i) T) p g A c bs (upd K i T) N S := by
  have hne := h.ne
  have hat := h.at_ hi
  unfold bB bO at *
  by_cases k : i < bs.length
  · rw [if_pos k, if_pos k] at *
    obtain ⟨s0, s1, s2⟩ := h.slice_put g (2 * i) T (.inr rfl)
    refine ⟨s0, s1, s2, h.ap, h.ne, by rw [size_cput]; exact h.lg, h.rt, fun j hj => ?_, ?_, h.n.other T (.inl (Ne.symm hne)), h.s.other T (.inl (Ne.symm hne))⟩
    · by_cases e : j = i
      · subst e
        exact (hat.put T).eq (by unfold upd; rw [if_pos rfl])
      · exact ((h.ct j hj).other T (.inr ⟨by omega, by omega, by omega⟩)).eq (by unfold upd; rw [if_neg e])
    · exact (h.r.other T (.inl (Ne.symm hne))).eq (by unfold upd; rw [if_neg (by omega)])
  · rw [if_neg k, if_neg k] at *
    have e : i = bs.length := by omega
    subst e
    obtain ⟨s0, s1, s2⟩ := h.slice_put p 2 T (.inl ⟨rfl, Nat.le_refl _⟩)
    refine ⟨s0, s1, s2, h.ap, h.ne, by rw [size_cput]; exact h.lg, h.rt, fun j hj => ?_, ?_, h.n.other T (.inr ⟨by omega, by omega, by omega⟩), h.s.other T (.inr ⟨by omega, by omega, by omega⟩)⟩
    · exact ((h.ct j hj).other T (.inl hne)).eq (by unfold upd; rw [if_neg (by omega)])
    · exact (hat.put T).eq (by unfold upd; rw [if_pos rfl])
theorem Hr.setn (h : Hr w p g A c bs K N S) (T : Nat) : Hr (cput w p 4 T) p g A c bs K T S := by
  have hne := h.ne
  obtain ⟨s0, s1, s2⟩ := h.slice_put p 4 T (.inl ⟨rfl, by omega⟩)
  exact ⟨s0, s1, s2, h.ap, h.ne, by rw [size_cput]; exact h.lg, h.rt, fun j hj => (h.ct j hj).other T (.inl hne), h.r.other T (.inr ⟨by omega, by omega, by omega⟩), h.n.put T, h.s.other T (.inr ⟨by omega, by omega, by omega⟩)⟩
theorem Hr.sets (h : Hr w p g A c bs K N S) (T : Nat) : Hr (cput w p 6 T) p g A c bs K N T := by
  have hne := h.ne
  obtain ⟨s0, s1, s2⟩ := h.slice_put p 6 T (.inl ⟨rfl, by omega⟩)
  exact ⟨s0, s1, s2, h.ap, h.ne, by rw [size_cput]; exact h.lg, h.rt, fun j hj => (h.ct j hj).other T (.inl hne), h.r.other T (.inr ⟨by omega, by omega, by omega⟩), h.n.other T (.inr ⟨by omega, by omega, by omega⟩), h.s.put T⟩
/-- a number more -/
theorem upd_put (bs l : List Nat) (x i : Nat) : upd (kk bs l) (bk bs x) (kk bs l (bk bs x) + 1) i = kk bs (l ++ [x]) i := by
  unfold upd
  by_cases e : i = bk bs x
  · subst e
    rw [if_pos rfl, kk_same]
  · rw [if_neg e, kk_other _ _ _ _ (Ne.symm e)]
end Go.Proofs.Ythggaoobbkflaaa.H11
