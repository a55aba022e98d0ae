/-
  The clock and the document's acts; both in memory, with the act that is being looked at.
-/
import Derived.Test.YtmonjlnmkkdnfaaW13Ref
import Derived.Test.YtmonjlnmkkdnfaaFrs
set_option linter.unusedSimpArgs false
set_option linter.unusedVariables false
namespace Go.Proofs.Ytmonjlnmkkdnfaa.W13
open Go.RowKit Go.Lib Go.Proofs.Ytmonjlnmkkdnfaa.Wd

/-- what is known of the sources is what the acts say -/
structure Pw (N late idle : Nat) (c : Cl) (D : List Ac) : Prop where
  eN : c.N = N
  eL : c.late = late
  eI : c.idle = idle
  ends : ∀ s, s < N → (c.K s).1 = re D (s : Int)
  last : ∀ s, s < N → (c.K s).2 + rq D (s : Int) = c.now
section
variable {N late idle : Nat} {c : Cl} {D : List Ac}
theorem Pw.qt (h : Pw N late idle c D) {s : Nat} (hs : s < N) : W13.qt c.now c.idle (c.K s) = rt D (s : Int) idle := by
  have h1 := h.last s hs
  unfold W13.qt rt
  rw [h.eI, Bool.eq_iff_iff]
  simp only [Bool.and_eq_true, decide_eq_true_eq]
  omega
theorem Pw.mk2 (h : Pw N late idle c D) {s : Nat} (hs : s < N) : c.mk_ s = rm D late idle s := by
  unfold Cl.mk_ rm
  rw [h.qt hs, h.ends s hs, h.eL]
theorem gl_app (D : List Ac) (y : Ac) (N late idle : Nat) : ∀ i, i ≤ D.length → gl (D ++ [y]) N late idle i = gl D N late idle i
  | 0, _ => rfl
  | i + 1, h => by
    show up (gl (D ++ [y]) N late idle i) (lo (rm ((D ++ [y]).take (i + 1)) late idle) N) = up (gl D N late idle i) (lo (rm (D.take (i + 1)) late idle) N)
    rw [gl_app D y N late idle i (by omega), List.take_append_of_le_length h]
/-- .. and the mark is the document's -/
structure Pv (N late idle : Nat) (c : Cl) (D : List Ac) : Prop where
  w : Pw N late idle c D
  mark : c.mark = gl D N late idle D.length
theorem Pv.adv {y : Ac} {d : Cl} (h : Pv N late idle c D) (k : Pw N late idle d (D ++ [y])) (hm : d.mark = c.mark) : Pv N late idle d.adv (D ++ [y]) := by
  refine ⟨⟨k.eN, k.eL, k.eI, k.ends, k.last⟩, ?_⟩
  show up d.mark (lo d.mk_ d.N) = _
  rw [List.length_append]
  show _ = up (gl (D ++ [y]) N late idle D.length) (lo (rm ((D ++ [y]).take (D.length + 1)) late idle) N)
  rw [gl_app D y N late idle D.length (Nat.le_refl _), List.take_of_length_le (by simp), hm, h.mark, k.eN, lo_congr N (fun s hs => k.mk2 hs)]
theorem Pv.init (N late idle : Nat) : Pv N late idle (Cl.init N late idle) [] := ⟨⟨rfl, rfl, rfl, fun _ _ => rfl, fun _ _ => rfl⟩, rfl⟩
theorem Pv.tick (h : Pv N late idle c D) {y : Ac} (hy : y.S < 0) : Pv N late idle c.tick (D ++ [y]) := by
  refine h.adv (d := { c with now := c.now + 1 }) ⟨h.w.eN, h.w.eL, h.w.eI, fun s hs => ?_, fun s hs => ?_⟩ rfl
  · show (c.K s).1 = _
    rw [re_app, if_neg (fun k => by have := k.1; omega), h.w.ends s hs]
  · show (c.K s).2 + rq (D ++ [y]) (s : Int) = c.now + 1
    rw [rq_app, if_pos hy, ← h.w.last s hs]
    omega
theorem Pv.see (h : Pv N late idle c D) {y : Ac} {s e : Nat} (hs : y.S = (s : Int)) (he : y.E = e) (hsN : s < N) : Pv N late idle (c.see s e) (D ++ [y]) := by
  refine h.adv (d := c.said s e) ⟨h.w.eN, h.w.eL, h.w.eI, fun k hk => ?_, fun k hk => ?_⟩ rfl
  · show (up1 c.K s (max (c.K s).1 e, c.now) k).1 = _
    rw [re_app, hs, he]
    by_cases q : k = s
    · subst q
      rw [up1_same, h.w.ends k hk]
      show max (re D (k : Int)) e = _
      by_cases h2 : re D (k : Int) < e
      · rw [if_pos ⟨rfl, h2⟩]; omega
      · rw [if_neg (fun x => h2 x.2)]; omega
    · rw [up1_other _ _ q, if_neg (fun x => q (by have := x.1; omega)), h.w.ends k hk]
  · show (up1 c.K s (max (c.K s).1 e, c.now) k).2 + rq (D ++ [y]) (k : Int) = c.now
    rw [rq_app, hs, if_neg (by omega)]
    by_cases q : k = s
    · subst q
      rw [up1_same, if_pos rfl]
      rfl
    · rw [up1_other _ _ q, if_neg (fun x => q (by omega)), h.w.last k hk]
end
abbrev tA : TypeId := 30
/-- the clock, and the document's acts in a row of the call's own from block B on -/
structure PZ (w0 w : World) (p : Nat) (c : Cl) (A : Option Addr) (r d : Nat) (D : List Ac) (B : Nat) : Prop where
  ci : ∃ lo hi, Ci w p lo hi c ∧ w0.heap.size ≤ lo ∧ hi ≤ B
  own : w.ownsRow B tA 2 (.slice A r d) r (arow D)
  len : D.length = r
  bel : Below w0.heap.size w0 w
  base : w0.heap.size ≤ B
  B : B ≤ w.heap.size
/-- an act in a block of the call's own -/
def Bx (w : World) (b : Nat) (y : Ac) : Prop := w.heap[b]? = some (.cells #[.int .i64 y.S, .int .u64 (y.E : Int)] tA)
section
variable {w0 w w' : World} {p r d b B : Nat} {A : Option Addr} {c : Cl} {D : List Ac} {y : Ac}
theorem Bx.lt (h : Bx w b y) : b < w.heap.size := (Array.getElem?_eq_some_iff.1 h).1
theorem Bx.below (h : Bx w b y) (k : Below w.heap.size w w') : Bx w' b y := (k.block b h.lt).trans h
theorem Bx.c0 (h : Bx w b y) : w.cell? ⟨b, 0, none⟩ = some (.int .i64 y.S) := cell_of h rfl
theorem Bx.c1 (h : Bx w b y) : w.cell? ⟨b, 1, none⟩ = some (.int .u64 (y.E : Int)) := cell_of h rfl
theorem Bx.f0 (h : Bx w b y) : w.frozen? ⟨b, 0, none⟩ = false := froz_of h
theorem Bx.turn (h : Bx w b y) : Bx (w.setCell ⟨b, 0, none⟩ (.int .i64 (-1))) b ⟨-1, y.E⟩ := by
  unfold Bx at *
  simp [World.setCell, h, Array.getElem?_modify]
theorem PZ.acs (h : PZ w0 w p c A r d D B) : Acs w A d D := by
  unfold Acs
  rw [h.len]
  exact Rd.own h.own
theorem PZ.ok (h : PZ w0 w p c A r d D B) : c.Ok := by obtain ⟨_, _, k, _⟩ := h.ci; exact k.ok
theorem PZ.below (h : PZ w0 w p c A r d D B) (k : Below w.heap.size w w') : PZ w0 w' p c A r d D B := by
  obtain ⟨lo, hi, h1, h2, h3⟩ := h.ci
  exact ⟨⟨lo, hi, h1.below k, h2, h3⟩, own_below h.own k, h.len, h.bel.trans (k.mono h.bel.size), h.base, Nat.le_trans h.B k.size⟩
/-- .. and an act at b -/
structure PY (w0 w : World) (p : Nat) (c : Cl) (A : Option Addr) (r d : Nat) (D : List Ac) (B b : Nat) (y : Ac) : Prop where
  z : PZ w0 w p c A r d D B
  x : Bx w b y
  B : B ≤ b
  ap : ∀ k, (Value.slice A r d).ownBlock = some k → k ≠ b
theorem PZ.act (h : PZ w0 w p c A r d D B) (y : Ac) : PY w0 (w.alloc (.cells #[.int .i64 y.S, .int .u64 (y.E : Int)] tA)) p c A r d D B w.heap.size y :=
  ⟨h.below (below_box w _), heap_alloc_new w _, h.B, fun k hk e => by have := (h.own.lt k hk).2; omega⟩
theorem PY.below (h : PY w0 w p c A r d D B b y) (k : Below w.heap.size w w') : PY w0 w' p c A r d D B b y := ⟨h.z.below k, h.x.below k, h.B, h.ap⟩
/-- behind a call that changes the clock -/
theorem PY.moved {lo hi : Nat} {c' : Cl} (h : PY w0 w p c A r d D B b y) (k : Ci w' p lo hi c') (h2 : w0.heap.size ≤ lo) (h3 : hi ≤ B) (F : Fx lo hi w w') : PY w0 w' p c' A r d D B b y := by
  refine ⟨⟨⟨lo, hi, k, h2, h3⟩, row_kept h.z.own (fun k hk => F.block k (h.z.own.lt k hk).2 (.inr (Nat.le_trans h3 (h.z.own.lt k hk).1))), h.z.len, h.z.bel.trans (F.below h2 h.z.bel.size), h.z.base, Nat.le_trans h.z.B F.size⟩, ?_, h.B, h.ap⟩
  exact (F.block b h.x.lt (.inr (Nat.le_trans h3 h.B))).trans h.x
theorem PY.see (h : PY w0 w p c A r d D B b y) (s e : Nat) (hs : s < c.N) (he : e ≤ 4611686018427387904) :
    Calls Try.prog 11 #[.pointer (some ⟨p, 0, none⟩), .int .i64 (s : Int), .int .u64 (e : Int)] w fun e' w' => e' = .returned (.int .i64 0) ∧ PY w0 w' p (c.see s e) A r d D B b y := by
  obtain ⟨lo, hi, k, h2, h3⟩ := h.z.ci
  exact (see_at s e k hs he).mono fun _ _ ⟨e1, k2, F⟩ => ⟨e1, h.moved k2 h2 h3 F⟩
theorem PY.wrong (h : PY w0 w p c A r d D B b y) (s : Int) (e : Nat) (hw : isS c s = false ∨ 4611686018427387904 < e) :
    Calls Try.prog 11 #[.pointer (some ⟨p, 0, none⟩), .int .i64 s, .int .u64 (e : Int)] w fun e' w' => e' = .returned (.int .i64 1) ∧ w = w' := by
  obtain ⟨lo, hi, k, h2, h3⟩ := h.z.ci
  exact see_wrong s e k hw
theorem PY.tick (h : PY w0 w p c A r d D B b y) (hn : c.now < 100000) : Calls Try.prog 10 #[.pointer (some ⟨p, 0, none⟩)] w fun e' w' => e' = .returned (.int .i64 0) ∧ PY w0 w' p c.tick A r d D B b y := by
  obtain ⟨lo, hi, k, h2, h3⟩ := h.z.ci
  exact (tick_at k hn).mono fun _ _ ⟨e1, k2, F⟩ => ⟨e1, h.moved k2 h2 h3 F⟩
/-- 'a.Source = -1' -/
theorem PY.turn (h : PY w0 w p c A r d D B b y) : PY w0 (w.setCell ⟨b, 0, none⟩ (.int .i64 (-1))) p c A r d D B b ⟨-1, y.E⟩ := by
  obtain ⟨lo, hi, k, h2, h3⟩ := h.z.ci
  have F := Fx.setCell (lo := b) (hi := b + 1) w ⟨b, 0, none⟩ (.int .i64 (-1)) (Nat.le_refl _) (Nat.lt_succ_self _)
  have hb := h.B
  refine ⟨⟨⟨lo, hi, k.fx F (.inl (by omega)), h2, h3⟩, row_kept h.z.own (fun k hk => heap_setCell_other _ _ _ _ (h.ap k hk)), h.z.len, h.z.bel.trans (F.below (Nat.le_trans h.z.base hb) h.z.bel.size), h.z.base, Nat.le_trans h.z.B F.size⟩, h.x.turn, h.B, h.ap⟩
/-- an act put behind the others -/
theorem PY.grown {A' : Option Addr} {d' : Nat} (h : PY w0 w p c A r d D B b y) (hg : w.grownBy w' (Value.slice A r d).ownBlock) (ho : w'.ownsRow B tA 2 (.slice A' (r + 1) d') (r + 1) (arow D ++ ac y)) : PZ w0 w' p c A' (r + 1) d' (D ++ [y]) B ∧ Bx w' b y := by
  obtain ⟨lo, hi, k, h2, h3⟩ := h.z.ci
  have F : Fx B w.heap.size w w' := ⟨hg.os, hg.tape, hg.output, hg.size, fun k hk hc => hg.block k hk (fun e => by have := (h.z.own.lt k e.symm).1; omega)⟩
  have hbel : Below B w w' := F.below (Nat.le_refl _) h.z.B
  have hci : Ci w' p lo hi c := k.fx F (.inl h3)
  refine ⟨⟨⟨lo, hi, hci, h2, h3⟩, ?_, by rw [List.length_append, h.z.len]; rfl, h.z.bel.trans (hbel.mono h.z.base), h.z.base, Nat.le_trans h.z.B hg.size⟩, ?_⟩
  · rw [arow_app]
    show w'.ownsRow B tA 2 _ _ (arow D ++ (ac y ++ []))
    rw [List.append_nil]
    exact ho
  · exact (hg.block b h.x.lt (fun e => h.ap b e.symm rfl)).trans h.x
theorem act_info : (Try.prog.info? 30).map (fun i => (i.zero, i.size, i.bytes)) = some (some (.agg #[.int .i64 0, .int .u64 0]), 2, 16) := by kernel_rfl
theorem ac_one (y : Ac) : ∀ u ∈ ac y, u.oneCell' = true := by
  intro u hu
  unfold ac at hu
  simp only [List.mem_cons, List.not_mem_nil, or_false] at hu
  rcases hu with rfl | rfl <;> rfl
/-- '[]Act{a}' -/
theorem lit_at (w : World) (y : Ac) : Rd 2 (w.alloc (.cells #[.int .i64 y.S, .int .u64 (y.E : Int)] tA)) (some ⟨w.heap.size, 0, none⟩) 1 1 (ac y) :=
  Rd.own (base := 0) (World.ownsRow_lit (base := 0) (e := tA) (size := 2) w #[.int .i64 y.S, .int .u64 (y.E : Int)] 1 (Nat.zero_le _) (by unfold maxLen; omega) rfl)
theorem PZ.mark (h : PZ w0 w p c A r d D B) (m : Nat) (hm : c.mark = m) : Calls Try.prog 13 #[.pointer (some ⟨p, 0, none⟩)] w fun e w' => e = .returned (.int .u64 (m : Int)) ∧ w = w' := by
  obtain ⟨lo, hi, k, h2, h3⟩ := h.ci
  subst hm
  exact mark_at k
theorem PZ.now (h : PZ w0 w p c A r d D B) : Calls Try.prog 14 #[.pointer (some ⟨p, 0, none⟩)] w fun e w' => e = .returned (.int .u64 (c.now : Int)) ∧ w = w' := by
  obtain ⟨lo, hi, k, h2, h3⟩ := h.ci
  exact now_at k
theorem PZ.late (h : PZ w0 w p c A r d D B) (m x : Nat) (hm : c.mark = m) : Calls Try.prog 15 #[.pointer (some ⟨p, 0, none⟩), .int .u64 (x : Int)] w fun e w' => e = .returned (.bool (decide (x < m))) ∧ w = w' := by
  obtain ⟨lo, hi, k, h2, h3⟩ := h.ci
  subst hm
  exact late_at x k
theorem PZ.idle (h : PZ w0 w p c A r d D B) (s : Nat) (hs : s < c.N) : Calls Try.prog 16 #[.pointer (some ⟨p, 0, none⟩), .int .i64 (s : Int)] w fun e w' => e = .returned (.bool (qt c.now c.idle (c.K s))) ∧ PZ w0 w' p c A r d D B := by
  obtain ⟨lo, hi, k, h2, h3⟩ := h.ci
  exact (idle_in s k hs).mono fun _ _ ⟨e, b⟩ => ⟨e, h.below b⟩
theorem PZ.idle_out (h : PZ w0 w p c A r d D B) (s : Int) (hs : isS c s = false) : Calls Try.prog 16 #[.pointer (some ⟨p, 0, none⟩), .int .i64 s] w fun e w' => e = .returned (.bool false) ∧ w = w' := by
  obtain ⟨lo, hi, k, h2, h3⟩ := h.ci
  exact W13.idle_out s k hs
end
end Go.Proofs.Ytmonjlnmkkdnfaa.W13
