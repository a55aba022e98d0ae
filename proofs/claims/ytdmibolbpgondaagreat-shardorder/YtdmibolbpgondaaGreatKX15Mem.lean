/-
  A shard's room in memory: its cells, its maps and queues, and whose each block is.
-/
import Derived.Test.YtdmibolbpgondaaGreatKX15Map
import Derived.Test.YtdmibolbpgondaaGreatKU12Put
set_option linter.unusedSimpArgs false
set_option linter.unusedVariables false
namespace Go.Proofs.YtdmibolbpgondaaGreat.X15
open Go.RowKit Go.Lib Go.Maps Go.Proofs.YtdmibolbpgondaaGreat.Wd
open Go.Proofs.YtdmibolbpgondaaGreat.U12 (It Lt Qu QOut putm dropm)

/-- what a room has, in plain words -/
structure Pr where
  r : Nat
  bt : Nat
  be : Nat
  q : Nat
  G : Nat
  S : Nat
  B : Nat
  n : Nat
  h : Nat
  bi : Nat → Option Nat
  qi : Nat → Option Nat
  Nt : Nat
  Ne : Nat
  fi : Nat → Nat → Option Value
  Ni : Nat → Nat
  mi : Nat → List It
  dq : List It
def mapv (b : Nat) : Value := .map (some b)
def ptrv (b : Nat) : Value := .pointer (some ⟨b, 0, none⟩)
def up {α : Type} (f : Nat → α) (t : Nat) (v : α) : Nat → α := fun x => if x = t then v else f x
theorem up_same {α : Type} (f : Nat → α) (t : Nat) (v : α) : up f t v t = v := if_pos rfl
theorem up_other {α : Type} {f : Nat → α} {t x : Nat} (v : α) (h : x ≠ t) : up f t v x = f x := if_neg h
/-- the blocks of o are c's from now on -/
def dye (col : Nat → Nat) (o : List Nat) (c : Nat) : Nat → Nat := fun x => if x ∈ o then c else col x
theorem dye_in {col : Nat → Nat} {o : List Nat} {c x : Nat} (h : x ∈ o) : dye col o c x = c := if_pos h
theorem dye_out {col : Nat → Nat} {o : List Nat} {c x : Nat} (h : x ∉ o) : dye col o c x = col x := if_neg h
/-- the room's cells -/
structure Cl (w : World) (p : Pr) : Prop where
  c0 : w.cell? ⟨p.r, 0, none⟩ = some (.int .u64 (p.G : Int))
  c1 : w.cell? ⟨p.r, 1, none⟩ = some (.int .i64 (p.S : Int))
  c2 : w.cell? ⟨p.r, 2, none⟩ = some (.int .i64 (p.B : Int))
  c3 : w.cell? ⟨p.r, 3, none⟩ = some (.int .i64 (p.n : Int))
  c4 : w.cell? ⟨p.r, 4, none⟩ = some (.int .i64 (p.h : Int))
  c5 : w.cell? ⟨p.r, 5, none⟩ = some (.map (some p.bt))
  c6 : w.cell? ⟨p.r, 6, none⟩ = some (.pointer (some ⟨p.q, 0, none⟩))
  c7 : w.cell? ⟨p.r, 7, none⟩ = some (.map (some p.be))
  f : ∀ j, w.frozen? ⟨p.r, j, none⟩ = false
structure Rx (w : World) (col : Nat → Nat) (p : Pr) : Prop where
  cl : Cl w p
  kr : col p.r = 1
  mt : Mp w p.bt (fun t => (p.bi t).map mapv) p.Nt
  kt : col p.bt = 2
  me : Mp w p.be (fun t => (p.qi t).map ptrv) p.Ne
  ke : col p.be = 3
  dl : ∃ o, Qu w p.q o p.dq ∧ ∀ x ∈ o, col x = 4
  im : ∀ t b, p.bi t = some b → Mp w b (p.fi t) (p.Ni t) ∧ col b = 6 + 2 * t
  iq : ∀ t q, p.qi t = some q → ∃ o, Qu w q o (p.mi t) ∧ ∀ x ∈ o, col x = 7 + 2 * t
  lt : ∀ x, col x ≠ 0 → x < w.heap.size
section
variable {w w' : World} {col : Nat → Nat} {p : Pr} {c : Nat} {o : List Nat}
theorem Cl.lt (h : Cl w p) : p.r < w.heap.size := World.block_lt_of_cell? _ _ h.c0
theorem Cl.kept (h : Cl w p) (k : w'.heap[p.r]? = w.heap[p.r]?) : Cl w' p := by
  have e : ∀ j, w'.cell? ⟨p.r, j, none⟩ = w.cell? ⟨p.r, j, none⟩ := fun j => World.cell?_of_block (a := ⟨p.r, j, none⟩) k
  exact ⟨(e 0).trans h.c0, (e 1).trans h.c1, (e 2).trans h.c2, (e 3).trans h.c3, (e 4).trans h.c4, (e 5).trans h.c5, (e 6).trans h.c6, (e 7).trans h.c7, fun j => (World.frozen?_of_block (a := ⟨p.r, j, none⟩) k).trans (h.f j)⟩
theorem Cl.re (h : Cl w p) (bi qi : Nat → Option Nat) (Nt Ne : Nat) (fi : Nat → Nat → Option Value) (Ni : Nat → Nat) (mi : Nat → List It) (dq : List It) : Cl w ⟨p.r, p.bt, p.be, p.q, p.G, p.S, p.B, p.n, p.h, bi, qi, Nt, Ne, fi, Ni, mi, dq⟩ :=
  ⟨h.c0, h.c1, h.c2, h.c3, h.c4, h.c5, h.c6, h.c7, h.f⟩
/-- what stays where only blocks of c's change -/
structure Kp (w' : World) (col : Nat → Nat) (p : Pr) (c : Nat) : Prop where
  cl : c ≠ 1 → Cl w' p
  mt : c ≠ 2 → Mp w' p.bt (fun t => (p.bi t).map mapv) p.Nt
  me : c ≠ 3 → Mp w' p.be (fun t => (p.qi t).map ptrv) p.Ne
  dl : c ≠ 4 → ∃ o, Qu w' p.q o p.dq ∧ ∀ x ∈ o, col x = 4
  im : ∀ t b, p.bi t = some b → c ≠ 6 + 2 * t → Mp w' b (p.fi t) (p.Ni t)
  iq : ∀ t q, p.qi t = some q → c ≠ 7 + 2 * t → ∃ o, Qu w' q o (p.mi t) ∧ ∀ x ∈ o, col x = 7 + 2 * t
theorem Rx.keep (h : Rx w col p) (f : Fr o w w') (ho : ∀ x ∈ o, col x = c) : Kp w' col p c := by
  have nin : ∀ {x d : Nat}, col x = d → c ≠ d → x ∉ o := fun hx hd hm => hd ((ho _ hm).symm.trans hx)
  refine ⟨fun hc => h.cl.kept (f.block _ h.cl.lt (nin h.kr hc)), fun hc => h.mt.kept (f.block _ h.mt.lt (nin h.kt hc)), fun hc => h.me.kept (f.block _ h.me.lt (nin h.ke hc)), fun hc => ?_, fun t b hb hc => ?_, fun t q hq hc => ?_⟩
  · obtain ⟨o1, h1, h2⟩ := h.dl
    exact ⟨o1, h1.fr f fun x hx => nin (h2 x hx) hc, h2⟩
  · obtain ⟨h1, h2⟩ := h.im t b hb
    exact h1.kept (f.block _ h1.lt (nin h2 hc))
  · obtain ⟨o1, h1, h2⟩ := h.iq t q hq
    exact ⟨o1, h1.fr f fun x hx => nin (h2 x hx) hc, h2⟩
theorem Rx.same (h : Rx w col p) (f : Fr o w w') (ho : ∀ x ∈ o, col x = 0) : Rx w' col p := by
  have k := h.keep (c := 0) f ho
  exact ⟨k.cl (by omega), h.kr, k.mt (by omega), h.kt, k.me (by omega), h.ke, k.dl (by omega), fun t b hb => ⟨k.im t b hb (by omega), (h.im t b hb).2⟩, fun t q hq => k.iq t q hq (by omega), fun x hx => Nat.lt_of_lt_of_le (h.lt x hx) f.size⟩
theorem Rx.below (h : Rx w col p) (hb : Below w.heap.size w w') : Rx w' col p := h.same (Fr.of_below [] hb) fun _ hx => by cases hx
/-- all of the room's blocks -/
def ow (col : Nat → Nat) (n : Nat) : List Nat := (List.range n).filter fun x => decide (col x ≠ 0 ∧ col x ≠ 5)
theorem mem_ow {n x : Nat} : x ∈ ow col n ↔ x < n ∧ col x ≠ 0 ∧ col x ≠ 5 := by simp [ow]
/-- what a call leaves of all else -/
structure Fs (w w' : World) (col col' : Nat → Nat) : Prop where
  fr : Fr (ow col w.heap.size) w w'
  old : ∀ x, x < w.heap.size → (col' x ≠ 0 ↔ col x ≠ 0)
  five : ∀ x, x < w.heap.size → (col' x = 5 ↔ col x = 5)
theorem Fs.refl (w : World) (col : Nat → Nat) : Fs w w col col := ⟨Fr.refl _ _, fun _ _ => Iff.rfl, fun _ _ => Iff.rfl⟩
theorem Fs.below (hb : Below w.heap.size w w') : Fs w w' col col := ⟨Fr.of_below _ hb, fun _ _ => Iff.rfl, fun _ _ => Iff.rfl⟩
theorem Fs.trans {a b d : World} {x y z : Nat → Nat} (h : Fs a b x y) (k : Fs b d y z) : Fs a d x z := by
  refine ⟨h.fr.trans k.fr fun v hv => ?_, fun v hv => (k.old v (Nat.lt_of_lt_of_le hv h.fr.size)).trans (h.old v hv), fun v hv => (k.five v (Nat.lt_of_lt_of_le hv h.fr.size)).trans (h.five v hv)⟩
  obtain ⟨h1, h2⟩ := mem_ow.1 hv
  by_cases e : v < a.heap.size
  · exact .inl (mem_ow.2 ⟨e, (h.old v e).1 h2.1, fun e5 => h2.2 ((h.five v e).2 e5)⟩)
  · exact .inr (by omega)
theorem Fs.of (h : Rx w col p) {o' : List Nat} (hc : c ≠ 0 ∧ c ≠ 5) (f : Fr o w w') (ho : ∀ x ∈ o, col x = c) (hs : Wd.Sub w o' o) : Fs w w' col (dye col o' c) := by
  refine ⟨f.mono fun x hx => mem_ow.2 ⟨h.lt x (by rw [ho x hx]; exact hc.1), by rw [ho x hx]; exact hc⟩, fun x hx => ?_, fun x hx => ?_⟩
  all_goals
    by_cases e : x ∈ o'
    · rw [dye_in e]
      rcases hs x e with h1 | h1
      · rw [ho x h1]
      · omega
    · rw [dye_out e]
theorem dye_old {o' : List Nat} (hl : ∀ x, col x ≠ 0 → x < w.heap.size) (ho : ∀ x ∈ o, col x = c) (hs : Wd.Sub w o' o) {x d : Nat} (hx : col x = d) (hd : d ≠ 0) : dye col o' c x = d := by
  by_cases e : x ∈ o'
  · rw [dye_in e]
    rcases hs x e with h1 | h1
    · rw [← hx, ho x h1]
    · have := hl x (by omega); omega
  · rw [dye_out e, hx]

/-- the two numbers -/
theorem Rx.set3 (h : Rx w col p) (n : Nat) : Rx (w.setCell ⟨p.r, 3, none⟩ (.int .i64 (n : Int))) col { p with n := n } ∧ Fs w (w.setCell ⟨p.r, 3, none⟩ (.int .i64 (n : Int))) col col := by
  have f : Fr [p.r] w (w.setCell ⟨p.r, 3, none⟩ (.int .i64 (n : Int))) := Fr.setCell _ _ _ (by simp)
  have k := h.keep (c := 1) f fun x hx => by simp at hx; subst hx; exact h.kr
  have e : ∀ j, j ≠ 3 → (w.setCell ⟨p.r, 3, none⟩ (.int .i64 (n : Int))).cell? ⟨p.r, j, none⟩ = w.cell? ⟨p.r, j, none⟩ := fun j hj => World.cell?_setCell_other _ _ _ _ fun e => by injection e with _ e; omega
  refine ⟨⟨⟨(e 0 (by omega)).trans h.cl.c0, (e 1 (by omega)).trans h.cl.c1, (e 2 (by omega)).trans h.cl.c2, World.cell?_setCell_same _ _ _ h.cl.c3, (e 4 (by omega)).trans h.cl.c4, (e 5 (by omega)).trans h.cl.c5, (e 6 (by omega)).trans h.cl.c6, (e 7 (by omega)).trans h.cl.c7, fun j => by rw [World.frozen?_setCell]; exact h.cl.f j⟩, h.kr, k.mt (by omega), h.kt, k.me (by omega), h.ke, k.dl (by omega), fun t b hb => ⟨k.im t b hb (by omega), (h.im t b hb).2⟩, fun t q hq => k.iq t q hq (by omega), fun x hx => Nat.lt_of_lt_of_le (h.lt x hx) f.size⟩, ⟨f.mono fun x hx => ?_, fun _ _ => Iff.rfl, fun _ _ => Iff.rfl⟩⟩
  simp at hx
  subst hx
  exact mem_ow.2 ⟨h.cl.lt, by rw [h.kr]; omega⟩
theorem Rx.set4 (h : Rx w col p) (n : Nat) : Rx (w.setCell ⟨p.r, 4, none⟩ (.int .i64 (n : Int))) col { p with h := n } ∧ Fs w (w.setCell ⟨p.r, 4, none⟩ (.int .i64 (n : Int))) col col := by
  have f : Fr [p.r] w (w.setCell ⟨p.r, 4, none⟩ (.int .i64 (n : Int))) := Fr.setCell _ _ _ (by simp)
  have k := h.keep (c := 1) f fun x hx => by simp at hx; subst hx; exact h.kr
  have e : ∀ j, j ≠ 4 → (w.setCell ⟨p.r, 4, none⟩ (.int .i64 (n : Int))).cell? ⟨p.r, j, none⟩ = w.cell? ⟨p.r, j, none⟩ := fun j hj => World.cell?_setCell_other _ _ _ _ fun e => by injection e with _ e; omega
  refine ⟨⟨⟨(e 0 (by omega)).trans h.cl.c0, (e 1 (by omega)).trans h.cl.c1, (e 2 (by omega)).trans h.cl.c2, (e 3 (by omega)).trans h.cl.c3, World.cell?_setCell_same _ _ _ h.cl.c4, (e 5 (by omega)).trans h.cl.c5, (e 6 (by omega)).trans h.cl.c6, (e 7 (by omega)).trans h.cl.c7, fun j => by rw [World.frozen?_setCell]; exact h.cl.f j⟩, h.kr, k.mt (by omega), h.kt, k.me (by omega), h.ke, k.dl (by omega), fun t b hb => ⟨k.im t b hb (by omega), (h.im t b hb).2⟩, fun t q hq => k.iq t q hq (by omega), fun x hx => Nat.lt_of_lt_of_le (h.lt x hx) f.size⟩, ⟨f.mono fun x hx => ?_, fun _ _ => Iff.rfl, fun _ _ => Iff.rfl⟩⟩
  simp at hx
  subst hx
  exact mem_ow.2 ⟨h.cl.lt, by rw [h.kr]; omega⟩
/-- a queue of the room's turned -/
theorem Rx.dqs (h : Rx w col p) {o' : List Nat} {m : List It} (hq : Qu w p.q o p.dq) (ho : ∀ x ∈ o, col x = 4) (h1 : Qu w' p.q o' m) (f : Fr o w w') (hs : Wd.Sub w o' o) : Rx w' (dye col o' 4) { p with dq := m } ∧ Fs w w' col (dye col o' 4) := by
  have k := h.keep f ho
  have d : ∀ {x d : Nat}, col x = d → d ≠ 0 → dye col o' 4 x = d := fun hx hd => dye_old h.lt ho hs hx hd
  refine ⟨⟨(k.cl (by omega)).re _ _ _ _ _ _ _ _, d h.kr (by omega), k.mt (by omega), d h.kt (by omega), k.me (by omega), d h.ke (by omega), ⟨o', h1, fun x hx => dye_in hx⟩, fun t b hb => ⟨k.im t b hb (by omega), d (h.im t b hb).2 (by omega)⟩, fun t q hq => ?_, fun x hx => ?_⟩, Fs.of h (by omega) f ho hs⟩
  · obtain ⟨o2, h2, h3⟩ := k.iq t q hq (by omega)
    exact ⟨o2, h2, fun x hx => d (h3 x hx) (by omega)⟩
  · by_cases e : x ∈ o'
    · exact h1.lt x e
    · rw [dye_out e] at hx
      exact Nat.lt_of_lt_of_le (h.lt x hx) f.size
theorem Rx.iqs (h : Rx w col p) {t q : Nat} (ht : p.qi t = some q) {o' : List Nat} {m : List It} (ho : ∀ x ∈ o, col x = 7 + 2 * t) (h1 : Qu w' q o' m) (f : Fr o w w') (hs : Wd.Sub w o' o) : Rx w' (dye col o' (7 + 2 * t)) { p with mi := up p.mi t m } ∧ Fs w w' col (dye col o' (7 + 2 * t)) := by
  have k := h.keep f ho
  have d : ∀ {x d : Nat}, col x = d → d ≠ 0 → dye col o' (7 + 2 * t) x = d := fun hx hd => dye_old h.lt ho hs hx hd
  refine ⟨⟨(k.cl (by omega)).re _ _ _ _ _ _ _ _, d h.kr (by omega), k.mt (by omega), d h.kt (by omega), k.me (by omega), d h.ke (by omega), ?_, fun t b hb => ⟨k.im t b hb (by omega), d (h.im t b hb).2 (by omega)⟩, fun t2 q2 hq => ?_, fun x hx => ?_⟩, Fs.of h (by omega) f ho hs⟩
  · obtain ⟨o2, h2, h3⟩ := k.dl (by omega)
    exact ⟨o2, h2, fun x hx => d (h3 x hx) (by omega)⟩
  · by_cases e : t2 = t
    · subst e
      have hq : p.qi t2 = some q2 := hq
      rw [ht] at hq
      cases hq
      refine ⟨o', ?_, fun x hx => dye_in hx⟩
      dsimp only
      rw [up_same]
      exact h1
    · obtain ⟨o2, h2, h3⟩ := k.iq t2 q2 hq (by omega)
      refine ⟨o2, ?_, fun x hx => d (h3 x hx) (by omega)⟩
      dsimp only
      rw [up_other _ e]
      exact h2
  · by_cases e : x ∈ o'
    · exact h1.lt x e
    · rw [dye_out e] at hx
      exact Nat.lt_of_lt_of_le (h.lt x hx) f.size
theorem fs_one (h : Rx w col p) {b : Nat} (hb : col b ≠ 0 ∧ col b ≠ 5) (f : Fr [b] w w') : Fs w w' col col :=
  ⟨f.mono fun x hx => by simp at hx; subst hx; exact mem_ow.2 ⟨h.lt x hb.1, hb⟩, fun _ _ => Iff.rfl, fun _ _ => Iff.rfl⟩
/-- a span stored in its trace's map -/
theorem Rx.store (h : Rx w col p) {t b i : Nat} (hb : p.bi t = some b) (hi : (i : Int) ≤ 18446744073709551615) (hN : p.Ni t ≤ 1000000) (v : Value) :
    ∃ w', (Instr.mapUpdate 98 (.map (some b)) (.int .u64 (i : Int)) v).run Tryz.prog w = .ok () w' ∧ Rx w' col { p with fi := up p.fi t (upf (p.fi t) i (some v)), Ni := up p.Ni t (upn (p.fi t) (p.Ni t) i) } ∧ Fs w w' col col := by
  obtain ⟨h1, h2⟩ := h.im t b hb
  obtain ⟨w', hrun, h3, f⟩ := h1.store Tryz.underlying98 v hi hN
  have k := h.keep (c := 6 + 2 * t) f fun x hx => by simp at hx; subst hx; exact h2
  refine ⟨w', hrun, ⟨(k.cl (by omega)).re _ _ _ _ _ _ _ _, h.kr, k.mt (by omega), h.kt, k.me (by omega), h.ke, k.dl (by omega), fun t2 b2 hb2 => ⟨?_, (h.im t2 b2 hb2).2⟩, fun t q hq => k.iq t q hq (by omega), fun x hx => Nat.lt_of_lt_of_le (h.lt x hx) f.size⟩, fs_one h (by omega) f⟩
  by_cases e : t2 = t
  · subst e
    have hb2 : p.bi t2 = some b2 := hb2
    rw [hb] at hb2
    cases hb2
    dsimp only
    rw [up_same, up_same]
    exact h3
  · dsimp only
    rw [up_other _ e, up_other _ e]
    exact k.im t2 b2 hb2 (by omega)
theorem mapfun (bi : Nat → Option Nat) (k : Nat → Value) (t : Nat) (b : Option Nat) : (fun x => (up bi t b x).map k) = upf (fun x => (bi x).map k) t (b.map k) := by
  funext x
  unfold up upf
  split <;> rfl
/-- a trace's map, told in the room's map -/
theorem Rx.newt (h : Rx w col p) {t b : Nat} (hb : Mp w b (fun _ => none) 0) (hc : col b = 0) (hn : p.bi t = none) (ht : (t : Int) ≤ 18446744073709551615) (hN : p.Nt ≤ 1000000) :
    ∃ w', (Instr.mapUpdate 99 (.map (some p.bt)) (.int .u64 (t : Int)) (.map (some b))).run Tryz.prog w = .ok () w' ∧
      Rx w' (dye col [b] (6 + 2 * t)) { p with bi := up p.bi t (some b), Nt := p.Nt + 1, fi := up p.fi t (fun _ => none), Ni := up p.Ni t 0 } ∧ Fr [p.bt] w w' := by
  obtain ⟨w', hrun, h3, f⟩ := h.mt.store Tryz.underlying99 (.map (some b)) ht hN
  have k := h.keep (c := 2) f fun x hx => by simp at hx; subst hx; exact h.kt
  have d : ∀ {x d : Nat}, col x = d → d ≠ 0 → dye col [b] (6 + 2 * t) x = d := fun {x d} hx hd => by
    rw [dye_out, hx]
    intro hm
    simp at hm
    subst hm
    omega
  have hbt : b ≠ p.bt := fun e => by rw [e, h.kt] at hc; omega
  refine ⟨w', hrun, ⟨(k.cl (by omega)).re _ _ _ _ _ _ _ _, d h.kr (by omega), ?_, d h.kt (by omega), k.me (by omega), d h.ke (by omega), ?_, fun t2 b2 hb2 => ?_, fun t2 q2 hq => ?_, fun x hx => ?_⟩, f⟩
  · dsimp only
    rw [mapfun]
    have e : upn (fun t => (p.bi t).map mapv) p.Nt t = p.Nt + 1 := by simp [upn, hn]
    rw [e] at h3
    exact h3
  · obtain ⟨o2, h4, h5⟩ := k.dl (by omega)
    exact ⟨o2, h4, fun x hx => d (h5 x hx) (by omega)⟩
  · by_cases e : t2 = t
    · subst e
      have hb2 : up p.bi t2 (some b) t2 = some b2 := hb2
      rw [up_same] at hb2
      cases hb2
      refine ⟨?_, dye_in (by simp)⟩
      dsimp only
      rw [up_same, up_same]
      exact hb.kept (f.block b hb.lt (by simpa using hbt))
    · have hb2 : up p.bi t (some b) t2 = some b2 := hb2
      rw [up_other _ e] at hb2
      refine ⟨?_, d (h.im t2 b2 hb2).2 (by omega)⟩
      dsimp only
      rw [up_other _ e, up_other _ e]
      exact k.im t2 b2 hb2 (by omega)
  · obtain ⟨o2, h4, h5⟩ := k.iq t2 q2 hq (by omega)
    exact ⟨o2, h4, fun x hx => d (h5 x hx) (by omega)⟩
  · by_cases e : x = b
    · subst e
      exact Nat.lt_of_lt_of_le hb.lt f.size
    · rw [dye_out (by simpa using e)] at hx
      exact Nat.lt_of_lt_of_le (h.lt x hx) f.size
/-- a trace's queue, told in the room's map -/
theorem Rx.newe (h : Rx w col p) {t q : Nat} {m : List It} (hq : Qu w q o m) (hc : ∀ x ∈ o, col x = 0) (hn : p.qi t = none) (ht : (t : Int) ≤ 18446744073709551615) (hN : p.Ne ≤ 1000000) :
    ∃ w', (Instr.mapUpdate 101 (.map (some p.be)) (.int .u64 (t : Int)) (.pointer (some ⟨q, 0, none⟩))).run Tryz.prog w = .ok () w' ∧
      Rx w' (dye col o (7 + 2 * t)) { p with qi := up p.qi t (some q), Ne := p.Ne + 1, mi := up p.mi t m } ∧ Fr [p.be] w w' := by
  obtain ⟨w', hrun, h3, f⟩ := h.me.store Tryz.underlying101 (.pointer (some ⟨q, 0, none⟩)) ht hN
  have k := h.keep (c := 3) f fun x hx => by simp at hx; subst hx; exact h.ke
  have d : ∀ {x d : Nat}, col x = d → d ≠ 0 → dye col o (7 + 2 * t) x = d := fun {x d} hx hd => by
    rw [dye_out, hx]
    intro hm
    have := hc x hm
    omega
  refine ⟨w', hrun, ⟨(k.cl (by omega)).re _ _ _ _ _ _ _ _, d h.kr (by omega), k.mt (by omega), d h.kt (by omega), ?_, d h.ke (by omega), ?_, fun t2 b2 hb2 => ⟨k.im t2 b2 hb2 (by omega), d (h.im t2 b2 hb2).2 (by omega)⟩, fun t2 q2 hq2 => ?_, fun x hx => ?_⟩, f⟩
  · dsimp only
    rw [mapfun]
    have e : upn (fun t => (p.qi t).map ptrv) p.Ne t = p.Ne + 1 := by simp [upn, hn]
    rw [e] at h3
    exact h3
  · obtain ⟨o2, h4, h5⟩ := k.dl (by omega)
    exact ⟨o2, h4, fun x hx => d (h5 x hx) (by omega)⟩
  · by_cases e : t2 = t
    · subst e
      have hq2 : up p.qi t2 (some q) t2 = some q2 := hq2
      rw [up_same] at hq2
      cases hq2
      refine ⟨o, ?_, fun x hx => dye_in hx⟩
      dsimp only
      rw [up_same]
      exact hq.fr f fun x hx hm => by simp at hm; subst hm; have := hc _ hx; have := h.ke; omega
    · have hq2 : up p.qi t (some q) t2 = some q2 := hq2
      rw [up_other _ e] at hq2
      obtain ⟨o2, h4, h5⟩ := k.iq t2 q2 hq2 (by omega)
      refine ⟨o2, ?_, fun x hx => d (h5 x hx) (by omega)⟩
      dsimp only
      rw [up_other _ e]
      exact h4
  · by_cases e : x ∈ o
    · exact Nat.lt_of_lt_of_le (hq.lt x e) f.size
    · rw [dye_out e] at hx
      exact Nat.lt_of_lt_of_le (h.lt x hx) f.size
/-- a trace taken off the two maps -/
theorem Rx.delt (h : Rx w col p) {t : Nat} (ht : (t : Int) ≤ 18446744073709551615) (ty : TypeId) :
    ∃ w', (Builtin.delete_ #[99, 22] ty #[.map (some p.bt), .int .u64 (t : Int)]).run Tryz.prog w = .ok (.tuple #[]) w' ∧
      Rx w' col { p with bi := up p.bi t none, Nt := dnn (fun t => (p.bi t).map mapv) p.Nt t } ∧ Fs w w' col col := by
  obtain ⟨w', hrun, h3, f⟩ := h.mt.drop Tryz.underlying99 ht ty
  have k := h.keep (c := 2) f fun x hx => by simp at hx; subst hx; exact h.kt
  have hu : ∀ t2 b2, up p.bi t none t2 = some b2 → p.bi t2 = some b2 := fun t2 b2 hb2 => by
    by_cases e : t2 = t
    · subst e
      rw [up_same] at hb2
      cases hb2
    · rwa [up_other _ e] at hb2
  refine ⟨w', hrun, ⟨(k.cl (by omega)).re _ _ _ _ _ _ _ _, h.kr, ?_, h.kt, k.me (by omega), h.ke, k.dl (by omega), fun t2 b2 hb2 => ⟨k.im t2 b2 (hu t2 b2 hb2) (by omega), (h.im t2 b2 (hu t2 b2 hb2)).2⟩, fun t q hq => k.iq t q hq (by omega), fun x hx => Nat.lt_of_lt_of_le (h.lt x hx) f.size⟩, fs_one h (by rw [h.kt]; omega) f⟩
  dsimp only
  rw [mapfun]
  exact h3
theorem Rx.dele (h : Rx w col p) {t : Nat} (ht : (t : Int) ≤ 18446744073709551615) (ty : TypeId) :
    ∃ w', (Builtin.delete_ #[101, 22] ty #[.map (some p.be), .int .u64 (t : Int)]).run Tryz.prog w = .ok (.tuple #[]) w' ∧
      Rx w' col { p with qi := up p.qi t none, Ne := dnn (fun t => (p.qi t).map ptrv) p.Ne t } ∧ Fs w w' col col := by
  obtain ⟨w', hrun, h3, f⟩ := h.me.drop Tryz.underlying101 ht ty
  have k := h.keep (c := 3) f fun x hx => by simp at hx; subst hx; exact h.ke
  have hu : ∀ t2 b2, up p.qi t none t2 = some b2 → p.qi t2 = some b2 := fun t2 b2 hb2 => by
    by_cases e : t2 = t
    · subst e
      rw [up_same] at hb2
      cases hb2
    · rwa [up_other _ e] at hb2
  refine ⟨w', hrun, ⟨(k.cl (by omega)).re _ _ _ _ _ _ _ _, h.kr, k.mt (by omega), h.kt, ?_, h.ke, k.dl (by omega), fun t b hb => ⟨k.im t b hb (by omega), (h.im t b hb).2⟩, fun t2 q2 hq => k.iq t2 q2 (hu t2 q2 hq) (by omega), fun x hx => Nat.lt_of_lt_of_le (h.lt x hx) f.size⟩, fs_one h (by rw [h.ke]; omega) f⟩
  dsimp only
  rw [mapfun]
  exact h3
end
end Go.Proofs.YtdmibolbpgondaaGreat.X15
