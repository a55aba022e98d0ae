/-
  A parameter that is a slice of acts, as the shell of a proof wants it.
  A shard of the law's own beside the document's: a list of numbers told, whose block stays.
-/
import Derived.Test.YtdmibolbpgondaaGreatKB7Open
import Derived.Deep.Slices
import Derived.Deep.Fields
import Derived.ChangeSame
import Derived.Test.YtdmibolbpgondaaGreatKX15Ints
import Derived.Test.YtdmibolbpgondaaGreatKX15RefK
section
set_option linter.unusedSimpArgs false
set_option linter.unusedVariables false
namespace Go.Proofs.YtdmibolbpgondaaGreat.X15
open Go.RowKit Go.Lib Go.ChangeShapes Go.WideShapes Go.Deep Go.Proofs.YtdmibolbpgondaaGreat.Wd Go.Proofs.YtdmibolbpgondaaGreat.P06
open Go.Proofs.YtdmibolbpgondaaGreat.B07 (Pn OkN OkA OkP Spn Sps pns tenA ten)

/-- an act: its kind, a span, a number -/
structure Ac where
  K : Int
  x : Spn
  N : Nat
instance : Inhabited Ac := ⟨⟨0, default, 0⟩⟩
def acA (y : Ac) : Array Value := #[.int .i64 y.K, .int .u64 y.x.s.T, .int .u64 y.x.s.I, .int .u64 y.x.s.P, .string y.x.s.sv, .string y.x.s.nm, .int .i64 y.x.s.kd, .int .i64 y.x.s.st, .int .u64 y.x.s.t0, .int .u64 y.x.s.t1, .slice y.x.A y.x.l.length y.x.c, .int .u64 (y.N : Int)]
def ac (y : Ac) : List Value := (acA y).toList
theorem ac_len (y : Ac) : (ac y).length = 12 := rfl
theorem ac_ten (y : Ac) : ac y = .int .i64 y.K :: (ten y.x ++ [.int .u64 (y.N : Int)]) := rfl
def arow (L : List Ac) : List Value := L.flatMap ac
theorem arow_len (L : List Ac) : (arow L).length = L.length * 12 := by
  induction L with
  | nil => rfl
  | cons a l ih => simp only [arow, List.flatMap_cons, List.length_append, List.length_cons] at *; rw [ih, ac_len]; omega
theorem arow_at : ∀ (l : List Ac) (k : Nat) (h : k < l.length) (j : Nat), j < 12 → (arow l)[k * 12 + j]? = (ac l[k])[j]?
  | x :: l, 0, h, j, hj => by
    unfold arow
    rw [List.flatMap_cons, List.getElem?_append_left (by rw [ac_len]; omega)]
    simp
  | x :: l, k + 1, h, j, hj => by
    have ih := arow_at l k (by simpa using h) j hj
    unfold arow at *
    rw [List.flatMap_cons, List.getElem?_append_right (by rw [ac_len]; omega), ac_len, show (k + 1) * 12 + j - 12 = k * 12 + j by omega, ih]
    simp
/-- a slice of acts -/
structure Acs (w : World) (A : Option Addr) (c : Nat) (L : List Ac) : Prop where
  rd : Rd 12 w A L.length c (arow L)
  ats : ∀ y ∈ L, Ats w y.x.A y.x.c y.x.l
def Ac.Ok (y : Ac) : Prop := OkP y.x.pn ∧ (y.N : Int) ≤ 18446744073709551615
theorem Acs.nil (w : World) : Acs w none 0 [] := ⟨Rd.nil 12 w, fun _ h => (by cases h)⟩
theorem Acs.below {w w' : World} {A : Option Addr} {c : Nat} {L : List Ac} (h : Acs w A c L) (hb : Below w.heap.size w w') : Acs w' A c L := ⟨Rd.below h.rd hb, fun y hy => (h.ats y hy).below hb⟩
/-- twelve cells in a row -/
structure Twv (w : World) (p : Addr) (y : Ac) : Prop where
  k : w.cell? p = some (.int .i64 y.K)
  c0 : w.cell? ⟨p.block, p.off + 1, none⟩ = some (.int .u64 y.x.s.T)
  c1 : w.cell? ⟨p.block, p.off + 2, none⟩ = some (.int .u64 y.x.s.I)
  c2 : w.cell? ⟨p.block, p.off + 3, none⟩ = some (.int .u64 y.x.s.P)
  c3 : w.cell? ⟨p.block, p.off + 4, none⟩ = some (.string y.x.s.sv)
  c4 : w.cell? ⟨p.block, p.off + 5, none⟩ = some (.string y.x.s.nm)
  c5 : w.cell? ⟨p.block, p.off + 6, none⟩ = some (.int .i64 y.x.s.kd)
  c6 : w.cell? ⟨p.block, p.off + 7, none⟩ = some (.int .i64 y.x.s.st)
  c7 : w.cell? ⟨p.block, p.off + 8, none⟩ = some (.int .u64 y.x.s.t0)
  c8 : w.cell? ⟨p.block, p.off + 9, none⟩ = some (.int .u64 y.x.s.t1)
  c9 : w.cell? ⟨p.block, p.off + 10, none⟩ = some (.slice y.x.A y.x.l.length y.x.c)
  n : w.cell? ⟨p.block, p.off + 11, none⟩ = some (.int .u64 (y.N : Int))
theorem Acs.get {w : World} {A : Option Addr} {c : Nat} {L : List Ac} (h : Acs w A c L) {k : Nat} (hk : k < L.length) : ∃ ad p, A = some ad ∧ ad.add (k * 12) = p ∧ Twv w p L[k] := by
  cases hA : A with
  | none =>
    have := (h.rd.none_ hA).1
    omega
  | some ad =>
    have H : ∀ j, j < 12 → w.cell? ((ad.add (k * 12)).add j) = (ac L[k])[j]? := fun j hj => by
      have e := arow_at L k hk j hj
      have hlt : j < (ac L[k]).length := by rw [ac_len]; exact hj
      rw [List.getElem?_eq_getElem hlt] at e ⊢
      rw [Wd.add_add]
      exact h.rd.at_ ad hA _ _ e
    refine ⟨ad, _, rfl, rfl, ?_⟩
    generalize ad.add (k * 12) = p at H
    have e0 : p.add 0 = p := by unfold Addr.add; simp
    have H0 := H 0 (by omega)
    rw [e0] at H0
    have E : ∀ j, 0 < j → j < 12 → w.cell? ⟨p.block, p.off + j, none⟩ = (ac L[k])[j]? := fun j h0 hj => by
      have := H j hj
      rw [B07.add_pos _ _ (by omega)] at this
      exact this
    exact ⟨H0, E 1 (by omega) (by omega), E 2 (by omega) (by omega), E 3 (by omega) (by omega), E 4 (by omega) (by omega), E 5 (by omega) (by omega), E 6 (by omega) (by omega), E 7 (by omega) (by omega), E 8 (by omega) (by omega), E 9 (by omega) (by omega), E 10 (by omega) (by omega), E 11 (by omega) (by omega)⟩
section
variable {H : Type} {enc' : TypeId × Value → H} {w : World} {base : Nat} {spare : Nat → Bool} {held : Bool}
set_option maxRecDepth 20000 in
theorem open_act {n : Nat} {cs : List Value} {x : DataW H × List MemPlace} (h : DataW.trod enc' Tryz.prog w base spare held n 36 cs = some x) : ∃ y : Ac, cs = ac y ∧ Ats w y.x.A y.x.c y.x.l ∧ y.Ok := by
  have z3 : Tryz.prog.cellsOf 3 = 1 := by kernel_rfl
  have z34 : Tryz.prog.cellsOf 34 = 10 := by kernel_rfl
  have z22 : Tryz.prog.cellsOf 22 = 1 := by kernel_rfl
  have z12 : Tryz.prog.cellsOf 36 = 12 := by kernel_rfl
  obtain ⟨xs, n, _, _, hl, hlen, hg⟩ := DataW.trod_struct Tryz.underlying36 h
  rw [z12] at hl
  match cs, hl with
  | [c0, c1, c2, c3, c4, c5, c6, c7, c8, c9, c10, c11], _ =>
    match xs, hlen with
    | [y0, y1, y2], _ =>
      have g0 := hg 0 _ rfl
      have g1 := hg 1 _ rfl
      have g2 := hg 2 _ rfl
      simp only [z3, z22, z34, List.drop_zero, List.drop_succ_cons, List.take_succ_cons, List.take_zero, List.getElem?_cons_zero, List.getElem?_cons_succ, List.getElem_toArray, List.getElem_cons_zero, List.getElem_cons_succ] at g0 g1 g2
      obtain ⟨n0, e0, _, _⟩ := DataW.trod_int (k := .i64) Tryz.underlying3 g0
      obtain ⟨y, e1, hA, hP⟩ := B07.open_one g1
      obtain ⟨n2, e2, _, w2⟩ := DataW.trod_int (k := .u64) Tryz.underlying22 g2
      simp only [List.cons.injEq, and_true] at e0 e2
      subst e0 e2
      have b2 : 0 ≤ n2 ∧ n2 ≤ 18446744073709551615 := by simpa [Lit.wf, IntKind.min, IntKind.max, IntKind.signed, IntKind.bits] using w2
      obtain ⟨t, rfl⟩ : ∃ t : Nat, n2 = (t : Int) := ⟨n2.toNat, by omega⟩
      refine ⟨⟨n0, y, t⟩, ?_, hA, hP, b2.2⟩
      rw [ac_ten, ← e1]
      rfl
set_option maxRecDepth 20000 in
theorem Acs.of_trod {n : Nat} {v : Value} {x : DataW H × List MemPlace} (h : DataW.trod enc' Tryz.prog w base spare held n 23 [v] = some x) : ∃ (A : Option Addr) (c : Nat) (L : List Ac), v = .slice A L.length c ∧ Acs w A c L ∧ ∀ y ∈ L, y.Ok := by
  have z12 : Tryz.prog.cellsOf 36 = 12 := by kernel_rfl
  rcases open_slice Tryz.underlying23 h with ⟨h0, _⟩ | ⟨a, len, cap, m, n', D, Pl, hcs, hb, hl, hm, hmm, _, hi⟩
  · simp only [List.cons.injEq, and_true] at h0
    exact ⟨none, 0, [], h0, Acs.nil w, fun _ h => by cases h⟩
  · simp only [List.cons.injEq, and_true] at hcs
    have hlm : len ≤ m := by rw [hmm]; split <;> omega
    have hx : ∀ i, i < len → ∃ y : Ac, (∀ j, j < 12 → w.cell? (a.add (i * 12 + j)) = (ac y)[j]?) ∧ Ats w y.x.A y.x.c y.x.l ∧ y.Ok := fun i hil => by
      obtain ⟨cs', hc, ht⟩ := hi i (by omega)
      obtain ⟨y, rfl, hy⟩ := open_act ht
      rw [z12] at hc
      obtain ⟨_, _, hat⟩ := World.cells?_some hc
      refine ⟨y, fun j hj => ?_, hy⟩
      rw [← Wd.add_add]
      exact hat j hj
    let f : Nat → Ac := fun i => if h : i < len then Classical.choose (hx i h) else default
    have hf : ∀ i, i < len → (∀ j, j < 12 → w.cell? (a.add (i * 12 + j)) = (ac (f i))[j]?) ∧ Ats w (f i).x.A (f i).x.c (f i).x.l ∧ (f i).Ok := fun i hil => by
      have : f i = Classical.choose (hx i hil) := by simp only [f, hil, dif_pos]
      rw [this]
      exact Classical.choose_spec (hx i hil)
    refine ⟨some a, cap, (List.range len).map f, by rw [hcs]; simp, ⟨?_, fun y hy => ?_⟩, fun y hy => ?_⟩
    · refine ⟨arow_len _, fun e => (by cases e), by simpa using hl, hm, fun ad ha i u hu => ?_⟩
      injection ha with ha
      subst ha
      have hi4 : i < len * 12 := by
        have := (List.getElem?_eq_some_iff.1 hu).1
        rw [arow_len] at this
        simpa using this
      have e1 := arow_at ((List.range len).map f) (i / 12) (by simp; omega) (i % 12) (by omega)
      rw [show i / 12 * 12 + i % 12 = i by omega, hu] at e1
      have e2 := (hf (i / 12) (by omega)).1 (i % 12) (by omega)
      rw [show i / 12 * 12 + i % 12 = i by omega] at e2
      rw [e2, e1]
      simp
    · obtain ⟨i, hi, rfl⟩ := List.mem_map.1 hy
      exact (hf i (List.mem_range.1 hi)).2.1
    · obtain ⟨i, hi, rfl⟩ := List.mem_map.1 hy
      exact (hf i (List.mem_range.1 hi)).2.2
theorem Acs.of_slice {fuel : Nat} {x : DataW H × List MemPlace} {a : Option Addr} {len cap : Nat}
    (h : DataW.trod enc' Tryz.prog w base (fun _ => true) held fuel 23 (Value.slice a len cap).cells.toList = some x) :
    ∃ L : List Ac, (Acs w a cap L ∧ ∀ x ∈ L, x.Ok) ∧ L.length = len := by
  obtain ⟨A, c, L, e, h1, h2⟩ := Acs.of_trod (v := .slice a len cap) h
  injection e with e1 e2 e3
  subst e1 e2 e3
  exact ⟨L, ⟨h1, h2⟩, rfl⟩
end
end Go.Proofs.YtdmibolbpgondaaGreat.X15
end

section
set_option linter.unusedSimpArgs false
set_option linter.unusedVariables false
namespace Go.Proofs.YtdmibolbpgondaaGreat.X15
open Go.RowKit Go.Lib Go.Maps Go.Proofs.YtdmibolbpgondaaGreat.Wd Go.Proofs.YtdmibolbpgondaaGreat.P06
open Go.Proofs.YtdmibolbpgondaaGreat.B07 (Pn OkN OkA OkP Spn Sps pns tenA ten Ten)
/-- a slice's block, or b -/
def ub (U : Option Addr) (b : Nat) : Nat := match U with | some a => a.block | none => b
section
variable {w0 w w' W W' : World} {sp bm G S B n : Nat} {L : List Pn} {A : Option Addr} {c : Nat} {M : List Spn} {U : List Nat}
theorem Ph.lt (h : Ph w0 sp G S B L U A c M W) {x : Nat} (hx : x ∈ U) : x < W.heap.size := by
  obtain ⟨col, p, h1, h2, h3, h4, h5, h6, h7⟩ := h.ex
  exact (h6 x hx).2.2.2
/-- a slice told, whose block is new -/
theorem Ps.told (h : Ps w0 sp bm G S B L U A n c M W) (hb : Below W.heap.size W W') {V : Option Addr} (hV : ∀ a, V = some a → W.heap.size ≤ a.block ∧ a.block < W'.heap.size) : Ps w0 sp bm G S B L [ub V bm, bm] A n c M W' := by
  cases V with
  | none => exact (h.below hb).sub (fun x hx => by simp [ub] at hx; subst hx; exact h.mu) (by simp)
  | some a =>
    obtain ⟨h1, h2⟩ := hV a rfl
    exact (h.push hb h1 h2).sub (fun x hx => by
      rcases List.mem_cons.1 hx with rfl | hx
      · exact List.mem_cons_self ..
      · rw [List.mem_singleton.1 hx]; exact List.mem_cons_of_mem _ h.mu) (by simp)
theorem us_ub {V : Option Addr} {d b : Nat} {l : List Nat} (h : Us W V d l) (k : W'.heap[ub V b]? = W.heap[ub V b]?) : Us W' V d l :=
  ⟨rd_block h.1 fun a ha => by subst ha; exact k, h.2⟩
theorem us_cell {d j t : Nat} {ad : Addr} {l : List Nat} (h : Us W' (some ad) d l) (hj : j < l.length) (c : W.cell? (ad.add j) = some (.int .u64 (t : Int))) (h' : Us W (some ad) d l) : W'.cell? (ad.add j) = some (.int .u64 (t : Int)) := by
  obtain ⟨a1, e1, c1, _⟩ := h.get hj
  obtain ⟨a2, e2, c2, _⟩ := h'.get hj
  cases e1
  cases e2
  rw [c2] at c
  rw [c1, c]
/-- what the document's Take leaves behind -/
def Tn (w0 : World) (sp bm G S B : Nat) (L : List Pn) (t : Nat) (V : Option Addr) (d : Nat) (l : List Nat) (A : Option Addr) (n c : Nat) (A5 : Option Addr) (n5 c5 : Nat) (W : World) : Prop :=
  ∃ M5, Ph w0 sp G S B (rest L t) [ub V bm, bm] A5 c5 M5 W ∧ pns M5 = rest L t ∧ M5.length = n5 ∧ Bk W bm 31 (sac G S B A n c) ∧ Us W V d l
theorem Tn.of {t d n : Nat} {V : Option Addr} {l : List Nat} (hP : Ph w0 sp G S B (rest L t) [ub V bm, bm] A c M W) (hn : M.length = n) (hL : pns M = L) (hok : ∀ x ∈ L, Okx x) (hfew : n ≤ 500) (hk : Bk W bm 31 (sac G S B A n c)) (hu : Us W V d l) :
    Calls Tryz.prog 17 #[sag G S B A n c, .int .u64 (t : Int)] W fun e w' => ∃ A1 k1 c1 A2 n2 c2, e = .returned (.tuple #[.slice A1 k1 c1, sag G S B A2 n2 c2]) ∧ Tn w0 sp bm G S B L t V d l A n c A2 n2 c2 w' ∧ Below W.heap.size W w' := by
  refine (hP.dtake hn hL hok t hfew).mono ?_
  rintro e w' ⟨A1, c1, M1, A2, c2, M2, rfl, p1, p2, r1, b, hP2⟩
  exact ⟨A1, _, c1, A2, _, c2, rfl, ⟨M2, hP2, p2, by rw [← p2, B07.pns_len], hk.below b, hu.below b⟩, b⟩
/-- and the list stored -/
theorem Tn.put {t d n : Nat} {V : Option Addr} {l : List Nat} {A5 : Option Addr} {n5 c5 : Nat} (h : Tn w0 sp bm G S B L t V d l A n c A5 n5 c5 W) (hne : ∀ a, V = some a → a.block ≠ bm) {Y : World}
    (hY : (((W.setCell ⟨bm, 0, none⟩ (.int .u64 (G : Int))).setCell ⟨bm, 1, none⟩ (.int .i64 (S : Int))).setCell ⟨bm, 2, none⟩ (.int .i64 (B : Int))).setCell ⟨bm, 3, none⟩ (.slice A5 n5 c5) = Y) :
    ∃ M5, Ps w0 sp bm G S B (rest L t) [ub V bm, bm] A5 n5 c5 M5 Y ∧ Us Y V d l := by
  obtain ⟨M5, hP, p5, l5, hk, hu⟩ := h
  have F : Wd.Fr [bm] W Y := by rw [← hY]; exact (((((Fr.refl _ W).then (Fr.setCell _ ⟨bm, 0, none⟩ _ (by simp))).then (Fr.setCell _ ⟨bm, 1, none⟩ _ (by simp))).then (Fr.setCell _ ⟨bm, 2, none⟩ _ (by simp))).then (Fr.setCell _ ⟨bm, 3, none⟩ _ (by simp)))
  refine ⟨M5, Ph.put hP (by simp) hk n5 p5 l5 hY, ⟨rd_block hu.1 fun a ha => ?_, hu.2⟩⟩
  refine F.block _ ?_ (by simpa using hne a ha)
  subst ha
  exact hP.lt (x := a.block) (by simp [ub])
end
end Go.Proofs.YtdmibolbpgondaaGreat.X15
end
