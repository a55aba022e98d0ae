/-
  Slices of spans: what comes in, rows of the program's own; a parameter that is one, opened.
-/
import Derived.Test.YtdmibolbpgondaaGreatKP06Span
import Derived.Test.YtdmibolbpgondaaGreatKS05Tab
import Derived.Test.YtdmibolbpgondaaGreatKP06Of
set_option linter.unusedSimpArgs false
set_option linter.unusedVariables false
namespace Go.Proofs.YtdmibolbpgondaaGreat.B07
open Go.RowKit Go.Lib Go.ChangeShapes Go.WideShapes Go.Deep Go.Proofs.YtdmibolbpgondaaGreat.Wd Go.Proofs.YtdmibolbpgondaaGreat.V04 Go.Proofs.YtdmibolbpgondaaGreat.P06
open Go.Proofs.YtdmibolbpgondaaGreat.S05 (Fr Sub)

/-- a span as it lies: its fields, where its attributes lie, its attributes -/
structure Spn where
  s : Sp
  A : Option Addr
  c : Nat
  l : List At
instance : Inhabited Spn := ⟨⟨⟨0, 0, 0, ByteArray.empty, ByteArray.empty, 0, 0, 0, 0⟩, none, 0, []⟩⟩
def Spn.pn (x : Spn) : Pn := (x.s, x.l)
def pns (L : List Spn) : List Pn := L.map Spn.pn
theorem pns_len (L : List Spn) : (pns L).length = L.length := by simp [pns]
theorem pns_get (L : List Spn) {k : Nat} (h : k < L.length) : (pns L)[k]'(by rw [pns_len]; exact h) = (L[k].s, L[k].l) := by simp [pns, Spn.pn]
abbrev tenA (x : Spn) : Array Value := spc x.s (.slice x.A x.l.length x.c)
def ten (x : Spn) : List Value := (tenA x).toList
theorem ten_len (x : Spn) : (ten x).length = 10 := rfl
theorem ten_one (x : Spn) : ∀ v ∈ ten x, v.oneCell' = true := by
  intro v hv
  simp only [ten, tenA, spc, List.mem_cons, List.not_mem_nil, or_false] at hv
  rcases hv with rfl | rfl | rfl | rfl | rfl | rfl | rfl | rfl | rfl | rfl <;> rfl
theorem tm_len (L : List Spn) : (L.flatMap ten).length = L.length * 10 := by
  induction L with
  | nil => rfl
  | cons x L ih => simp [ten_len, ih]; omega
theorem tm_one (L : List Spn) : ∀ u ∈ L.flatMap ten, u.oneCell' = true := by
  intro u hu
  obtain ⟨x, _, hx⟩ := List.mem_flatMap.1 hu
  exact ten_one x u hx
theorem tm_at : ∀ (L : List Spn) (k : Nat) (h : k < L.length) (j : Nat), j < 10 → (L.flatMap ten)[k * 10 + j]? = (ten L[k])[j]?
  | x :: L, 0, h, j, hj => by
    rw [List.flatMap_cons, List.getElem?_append_left (by rw [ten_len]; omega)]
    simp
  | x :: L, k + 1, h, j, hj => by
    rw [List.flatMap_cons, List.getElem?_append_right (by rw [ten_len]; omega), ten_len, show (k + 1) * 10 + j - 10 = k * 10 + j by omega, tm_at L k (by simpa using h) j hj]
    simp

/-- a slice reads as spans -/
structure Sps (w : World) (A : Option Addr) (c : Nat) (L : List Spn) : Prop where
  rd : Rd 10 w A L.length c (L.flatMap ten)
  ats : ∀ x ∈ L, Ats w x.A x.c x.l
variable {w w' : World} {A : Option Addr} {c : Nat} {L : List Spn}
theorem Sps.nil (w : World) : Sps w none 0 [] := ⟨Rd.nil 10 w, fun _ h => by cases h⟩
theorem Sps.below (h : Sps w A c L) (hb : Below w.heap.size w w') : Sps w' A c L := ⟨h.rd.below hb, fun x hx => (h.ats x hx).below hb⟩
theorem Sps.drewN (h : Sps w A c L) (k : Nat) : Sps (w.drewN k) A c L := ⟨h.rd.drewN k, fun x hx => (h.ats x hx).drewN k⟩
/-- ten cells in a row -/
structure Ten (w : World) (p : Addr) (x : Spn) : Prop where
  c0 : w.cell? p = some (.int .u64 x.s.T)
  c1 : w.cell? ⟨p.block, p.off + 1, none⟩ = some (.int .u64 x.s.I)
  c2 : w.cell? ⟨p.block, p.off + 2, none⟩ = some (.int .u64 x.s.P)
  c3 : w.cell? ⟨p.block, p.off + 3, none⟩ = some (.string x.s.sv)
  c4 : w.cell? ⟨p.block, p.off + 4, none⟩ = some (.string x.s.nm)
  c5 : w.cell? ⟨p.block, p.off + 5, none⟩ = some (.int .i64 x.s.kd)
  c6 : w.cell? ⟨p.block, p.off + 6, none⟩ = some (.int .i64 x.s.st)
  c7 : w.cell? ⟨p.block, p.off + 7, none⟩ = some (.int .u64 x.s.t0)
  c8 : w.cell? ⟨p.block, p.off + 8, none⟩ = some (.int .u64 x.s.t1)
  c9 : w.cell? ⟨p.block, p.off + 9, none⟩ = some (.slice x.A x.l.length x.c)
theorem add_pos (a : Addr) (j : Nat) (h : j ≠ 0) : a.add j = ⟨a.block, a.off + j, none⟩ := by unfold Addr.add; rw [if_neg h]
theorem Sps.get (h : Sps w A c L) {k : Nat} (hk : k < L.length) : ∃ ad p, A = some ad ∧ ad.add (k * 10) = p ∧ Ten w p L[k] := by
  cases hA : A with
  | none =>
    have := (h.rd.none_ hA).1
    omega
  | some ad =>
    have H : ∀ j, j < 10 → w.cell? ((ad.add (k * 10)).add j) = (ten L[k])[j]? := fun j hj => by
      have e := tm_at L k hk j hj
      have hlt : j < (ten L[k]).length := by rw [ten_len]; exact hj
      rw [List.getElem?_eq_getElem hlt] at e ⊢
      rw [Wd.add_add]
      exact h.rd.at_ ad hA _ _ e
    refine ⟨ad, _, rfl, rfl, ?_⟩
    generalize ad.add (k * 10) = p at H
    have e0 : p.add 0 = p := by unfold Addr.add; simp
    have H0 := H 0 (by omega)
    rw [e0] at H0
    refine ⟨H0, ?_, ?_, ?_, ?_, ?_, ?_, ?_, ?_, ?_⟩
    · have := H 1 (by omega); rw [add_pos _ _ (by decide)] at this; exact this
    · have := H 2 (by omega); rw [add_pos _ _ (by decide)] at this; exact this
    · have := H 3 (by omega); rw [add_pos _ _ (by decide)] at this; exact this
    · have := H 4 (by omega); rw [add_pos _ _ (by decide)] at this; exact this
    · have := H 5 (by omega); rw [add_pos _ _ (by decide)] at this; exact this
    · have := H 6 (by omega); rw [add_pos _ _ (by decide)] at this; exact this
    · have := H 7 (by omega); rw [add_pos _ _ (by decide)] at this; exact this
    · have := H 8 (by omega); rw [add_pos _ _ (by decide)] at this; exact this
    · have := H 9 (by omega); rw [add_pos _ _ (by decide)] at this; exact this

/-- a row of spans of the program's own -/
structure OwnS (B : Nat) (t : TypeId) (w : World) (A : Option Addr) (c : Nat) (L : List Spn) : Prop where
  row : w.ownsRow B t 10 (.slice A L.length c) L.length (L.flatMap ten)
  ats : ∀ x ∈ L, Hd B w x.A x.c x.l
  apart : ∀ a, A = some a → ∀ x ∈ L, ∀ a', x.A = some a' → a'.block ≠ a.block
theorem OwnS.nil (B : Nat) (t : TypeId) (w : World) : OwnS B t w none 0 [] := ⟨World.ownsRow_nil _ _ _ _, fun _ h => (by cases h), fun _ h => (by cases h)⟩
theorem OwnS.sps {B : Nat} {t : TypeId} (h : OwnS B t w A c L) : Sps w A c L := ⟨Rd.own h.row, fun x hx => (h.ats x hx).ats⟩
theorem OwnS.below {B : Nat} {t : TypeId} (h : OwnS B t w A c L) (hb : Below w.heap.size w w') : OwnS B t w' A c L := ⟨own_below h.row hb, fun x hx => (h.ats x hx).below hb, h.apart⟩
theorem Hd.fr {B : Nat} {l : List At} {O : List Nat} (h : Hd B w A c l) (f : Fr O w w') (hd : ∀ a, A = some a → a.block ∉ O) : Hd B w' A c l := by
  rcases h with h | ⟨g, rfl, hB, hg, hH, r⟩
  · exact .inl h
  · refine .inr ⟨g, rfl, hB, Nat.lt_of_lt_of_le hg f.size, fun j hj => ?_, r⟩
    have h1 := hH j hj
    have e := f.block g hg (hd _ rfl)
    refine ⟨?_, ?_⟩
    · rw [World.cell?_of_block (by exact e)]; exact h1.1
    · have := h1.2
      unfold World.frozen? at this ⊢
      rw [e]
      exact this
theorem Hd.lt {B : Nat} {l : List At} (h : Hd B w A c l) : ∀ a, A = some a → B ≤ a.block ∧ a.block < w.heap.size := fun a e => by
  rcases h with ⟨h, _⟩ | ⟨g, hA, hB, hg, _⟩
  · rw [h] at e; cases e
  · rw [hA] at e
    injection e with e
    subst e
    exact ⟨hB, hg⟩
/-- one span more -/
theorem OwnS.app {B : Nat} {t : TypeId} {w2 : World} {A' : Option Addr} {c' : Nat} {x : Spn} (h : OwnS B t w A c L) (hx : Hd B w x.A x.c x.l) (hxa : ∀ a, A = some a → ∀ a', x.A = some a' → a'.block ≠ a.block) {w1 : World} (hb : Below w.heap.size w w1)
    (hrow : w2.ownsRow B t 10 (.slice A' (L.length + 1) c') (L.length + 1) (L.flatMap ten ++ ten x)) (hg : w1.grownBy w2 (Value.slice A L.length c).ownBlock)
    (hat : (Value.slice A' (L.length + 1) c').ownBlock = (Value.slice A L.length c).ownBlock ∨ (Value.slice A' (L.length + 1) c').ownBlock = some w1.heap.size) : OwnS B t w2 A' c' (L ++ [x]) := by
  have hs1 := hb.size
  have keep : ∀ (y : Spn), Hd B w y.A y.c y.l → (∀ a, A = some a → ∀ a', y.A = some a' → a'.block ≠ a.block) → Hd B w2 y.A y.c y.l ∧ ∀ a, A' = some a → ∀ a', y.A = some a' → a'.block ≠ a.block := fun y hy hne => by
    have hlt := B07.Hd.lt hy
    refine ⟨?_, fun a e a' e' hc => ?_⟩
    · rcases hy with hy | ⟨g, hA, hB, hg', hH, r⟩
      · exact .inl hy
      · have e : w2.heap[g]? = w.heap[g]? := by
          rw [hg.block g (by omega) (fun e => ?_), hb.block g hg']
          cases A with
          | none => cases e
          | some a =>
            injection e with e
            exact hne a rfl _ hA e
        refine .inr ⟨g, hA, hB, by have := hg.size; omega, fun j hj => ?_, r⟩
        have h1 := hH j hj
        refine ⟨?_, ?_⟩
        · rw [World.cell?_of_block (by exact e)]; exact h1.1
        · have := h1.2
          unfold World.frozen? at this ⊢
          rw [e]
          exact this
    · subst e
      have hl := (hlt a' e').2
      rcases hat with h1 | h1
      · cases A with
        | none => cases h1
        | some a0 =>
          injection h1 with h1
          exact hne a0 rfl a' e' (by rw [hc]; exact h1)
      · injection h1 with h1
        omega
  refine ⟨by simpa using hrow, fun y hy => ?_, fun a e y hy => ?_⟩
  · rcases List.mem_append.1 hy with hy | hy
    · exact (keep y (h.ats y hy) (fun a e => h.apart a e y hy)).1
    · simp at hy; subst hy; exact (keep y hx hxa).1
  · rcases List.mem_append.1 hy with hy | hy
    · exact (keep y (h.ats y hy) (fun a e => h.apart a e y hy)).2 a e
    · simp at hy; subst hy; exact (keep y hx hxa).2 a e

/-! ### a parameter that is a slice of spans -/
/-- all numbers of a span are within their types -/
def OkP (x : Pn) : Prop := OkN x.1 ∧ ∀ a ∈ x.2, OkA a
section
variable {H : Type} {enc' : TypeId × Value → H} {base : Nat} {spare : Nat → Bool} {held : Bool}
set_option maxRecDepth 100000 in
theorem open_attr {n : Nat} {cs : List Value} {x : DataW H × List MemPlace} (h : DataW.trod enc' Tryz.prog w base spare held n 81 cs = some x) : ∃ y : At, cs = enc y ∧ OkA y := by
  have z9 : Tryz.prog.cellsOf 9 = 1 := by kernel_rfl
  have z44 : Tryz.prog.cellsOf 79 = 3 := by kernel_rfl
  have z46 : Tryz.prog.cellsOf 81 = 4 := by kernel_rfl
  have z3 : Tryz.prog.cellsOf 3 = 1 := by kernel_rfl
  have z2 : Tryz.prog.cellsOf 2 = 1 := by kernel_rfl
  obtain ⟨xs, m, _, _, hl, hxl, hg⟩ := DataW.trod_struct Tryz.underlying81 h
  rw [z46] at hl
  match cs, hl with
  | [d0, d1, d2, d3], _ =>
    match xs, hxl with
    | [y0, y1], _ =>
      have g0 := hg 0 _ rfl
      have g1 := hg 1 _ rfl
      simp only [z9, z44, List.drop_zero, List.drop_succ_cons, List.take_succ_cons, List.take_zero, List.getElem?_cons_zero, List.getElem?_cons_succ, List.getElem_toArray, List.getElem_cons_zero, List.getElem_cons_succ] at g0 g1
      obtain ⟨key, e0, _, _⟩ := DataW.trod_string Tryz.underlying9 g0
      obtain ⟨ys, m2, _, _, _, hyl, hg2⟩ := DataW.trod_struct Tryz.underlying79 g1
      match ys, hyl with
      | [u0, u1, u2], _ =>
        have k0 := hg2 0 _ rfl
        have k1 := hg2 1 _ rfl
        have k2 := hg2 2 _ rfl
        simp only [z9, z3, z2, List.drop_zero, List.drop_succ_cons, List.take_succ_cons, List.take_zero, List.getElem?_cons_zero, List.getElem?_cons_succ, List.getElem_toArray, List.getElem_cons_zero, List.getElem_cons_succ] at k0 k1 k2
        obtain ⟨K, f0, _, _⟩ := DataW.trod_int (k := .i64) Tryz.underlying3 k0
        obtain ⟨N, f1, _, wN⟩ := DataW.trod_int (k := .i64) Tryz.underlying2 k1
        obtain ⟨S, f2, _, _⟩ := DataW.trod_string Tryz.underlying9 k2
        simp only [List.cons.injEq, and_true] at e0 f0 f1 f2
        subst e0 f0 f1 f2
        have bN : -9223372036854775808 ≤ N ∧ N ≤ 9223372036854775807 := by simpa [Lit.wf, IntKind.min, IntKind.max, IntKind.signed, IntKind.bits] using wN
        exact ⟨⟨key, K, N, S⟩, rfl, bN⟩
set_option maxRecDepth 100000 in
theorem open_attrs {n : Nat} {v : Value} {x : DataW H × List MemPlace} (h : DataW.trod enc' Tryz.prog w base spare held n 32 [v] = some x) : ∃ (A : Option Addr) (c : Nat) (l : List At), v = .slice A l.length c ∧ Ats w A c l ∧ ∀ a ∈ l, OkA a := by
  have z46 : Tryz.prog.cellsOf 81 = 4 := by kernel_rfl
  rcases open_slice Tryz.underlying32 h with ⟨h0, _⟩ | ⟨a, len, cap, m, n', D, Pl, hcs, hb, hl, hm, hmm, _, hi⟩
  · simp only [List.cons.injEq, and_true] at h0
    exact ⟨none, 0, [], h0, Ats.nil w, fun _ h => by cases h⟩
  · simp only [List.cons.injEq, and_true] at hcs
    have hlm : len ≤ m := by rw [hmm]; split <;> omega
    have hx : ∀ i, i < len → ∃ y : At, (∀ j, j < 4 → w.cell? (a.add (i * 4 + j)) = (enc y)[j]?) ∧ OkA y := fun i hil => by
      obtain ⟨cs', hc, ht⟩ := hi i (by omega)
      obtain ⟨y, rfl, hy⟩ := open_attr ht
      rw [z46] at hc
      obtain ⟨_, _, hat⟩ := World.cells?_some hc
      refine ⟨y, fun j hj => ?_, hy⟩
      rw [← Wd.add_add]
      exact hat j hj
    let f : Nat → At := fun i => if h : i < len then Classical.choose (hx i h) else default
    have hf : ∀ i, i < len → (∀ j, j < 4 → w.cell? (a.add (i * 4 + j)) = (enc (f i))[j]?) ∧ OkA (f i) := fun i hil => by
      have : f i = Classical.choose (hx i hil) := by simp only [f, hil, dif_pos]
      rw [this]
      exact Classical.choose_spec (hx i hil)
    refine ⟨some a, cap, (List.range len).map f, by rw [hcs]; simp, ?_, fun y hy => ?_⟩
    · refine ⟨fm_len _, fun e => (by cases e), by simpa using hl, hm, fun ad ha i u hu => ?_⟩
      injection ha with ha
      subst ha
      have hi4 : i < len * 4 := by
        have := (List.getElem?_eq_some_iff.1 hu).1
        rw [fm_len] at this
        simpa using this
      have e1 := fm_at ((List.range len).map f) (i / 4) (by simp; omega) (i % 4) (by omega)
      rw [show i / 4 * 4 + i % 4 = i by omega, hu] at e1
      have e2 := (hf (i / 4) (by omega)).1 (i % 4) (by omega)
      rw [show i / 4 * 4 + i % 4 = i by omega] at e2
      rw [e2, e1]
      simp
    · obtain ⟨i, hi, rfl⟩ := List.mem_map.1 hy
      exact (hf i (List.mem_range.1 hi)).2
set_option maxRecDepth 100000 in
theorem open_one {n : Nat} {cs : List Value} {x : DataW H × List MemPlace} (h : DataW.trod enc' Tryz.prog w base spare held n 34 cs = some x) : ∃ y : Spn, cs = ten y ∧ Ats w y.A y.c y.l ∧ OkP y.pn := by
  have z9 : Tryz.prog.cellsOf 9 = 1 := by kernel_rfl
  have z3 : Tryz.prog.cellsOf 3 = 1 := by kernel_rfl
  have z22 : Tryz.prog.cellsOf 22 = 1 := by kernel_rfl
  have z23 : Tryz.prog.cellsOf 32 = 1 := by kernel_rfl
  have z10 : Tryz.prog.cellsOf 34 = 10 := by kernel_rfl
  obtain ⟨xs, n, _, _, hl, hlen, hg⟩ := DataW.trod_struct Tryz.underlying34 h
  rw [z10] at hl
  match cs, hl with
  | [c0, c1, c2, c3, c4, c5, c6, c7, c8, c9], _ =>
    match xs, hlen with
    | [y0, y1, y2, y3, y4, y5, y6, y7, y8, y9], _ =>
      have g0 := hg 0 _ rfl
      have g1 := hg 1 _ rfl
      have g2 := hg 2 _ rfl
      have g3 := hg 3 _ rfl
      have g4 := hg 4 _ rfl
      have g5 := hg 5 _ rfl
      have g6 := hg 6 _ rfl
      have g7 := hg 7 _ rfl
      have g8 := hg 8 _ rfl
      have g9 := hg 9 _ rfl
      simp only [z9, z3, z22, z23, List.drop_zero, List.drop_succ_cons, List.take_succ_cons, List.take_zero, List.getElem?_cons_zero, List.getElem?_cons_succ, List.getElem_toArray, List.getElem_cons_zero, List.getElem_cons_succ] at g0 g1 g2 g3 g4 g5 g6 g7 g8 g9
      obtain ⟨n0, e0, _, w0⟩ := DataW.trod_int (k := .u64) Tryz.underlying22 g0
      obtain ⟨n1, e1, _, w1⟩ := DataW.trod_int (k := .u64) Tryz.underlying22 g1
      obtain ⟨n2, e2, _, w2⟩ := DataW.trod_int (k := .u64) Tryz.underlying22 g2
      obtain ⟨n3, e3, _, _⟩ := DataW.trod_string Tryz.underlying9 g3
      obtain ⟨n4, e4, _, _⟩ := DataW.trod_string Tryz.underlying9 g4
      obtain ⟨n5, e5, _, _⟩ := DataW.trod_int (k := .i64) Tryz.underlying3 g5
      obtain ⟨n6, e6, _, _⟩ := DataW.trod_int (k := .i64) Tryz.underlying3 g6
      obtain ⟨n7, e7, _, w7⟩ := DataW.trod_int (k := .u64) Tryz.underlying22 g7
      obtain ⟨n8, e8, _, w8⟩ := DataW.trod_int (k := .u64) Tryz.underlying22 g8
      obtain ⟨A, c, l, e9, hA, hl⟩ := open_attrs g9
      simp only [List.cons.injEq, and_true] at e0 e1 e2 e3 e4 e5 e6 e7 e8
      subst e0 e1 e2 e3 e4 e5 e6 e7 e8 e9
      have bd : ∀ z : Int, (Lit.int .u64 z).wf = true → 0 ≤ z ∧ z ≤ 18446744073709551615 := fun z hz => by simpa [Lit.wf, IntKind.min, IntKind.max, IntKind.signed, IntKind.bits] using hz
      have b0 := bd _ w0
      have b1 := bd _ w1
      have b2 := bd _ w2
      have b7 := bd _ w7
      have b8 := bd _ w8
      exact ⟨⟨⟨n0, n1, n2, n3, n4, n5, n6, n7, n8⟩, A, c, l⟩, rfl, hA, ⟨b0.1, b0.2, b1.1, b1.2, b2.1, b2.2, b7.1, b7.2, b8.1, b8.2⟩, hl⟩
set_option maxRecDepth 100000 in
/-- a parameter []tallyroomref06.Span -/
theorem Sps.of_trod {n : Nat} {v : Value} {x : DataW H × List MemPlace} (h : DataW.trod enc' Tryz.prog w base spare held n 29 [v] = some x) : ∃ (A : Option Addr) (c : Nat) (L : List Spn), v = .slice A L.length c ∧ Sps w A c L ∧ ∀ x ∈ pns L, OkP x := by
  have z10 : Tryz.prog.cellsOf 34 = 10 := by kernel_rfl
  rcases open_slice Tryz.underlying29 h with ⟨h0, _⟩ | ⟨a, len, cap, m, n', D, Pl, hcs, hb, hl, hm, hmm, _, hi⟩
  · simp only [List.cons.injEq, and_true] at h0
    exact ⟨none, 0, [], h0, Sps.nil w, fun _ h => by simp [pns] at h⟩
  · simp only [List.cons.injEq, and_true] at hcs
    have hlm : len ≤ m := by rw [hmm]; split <;> omega
    have hx : ∀ i, i < len → ∃ y : Spn, (∀ j, j < 10 → w.cell? (a.add (i * 10 + j)) = (ten y)[j]?) ∧ Ats w y.A y.c y.l ∧ OkP y.pn := fun i hil => by
      obtain ⟨cs', hc, ht⟩ := hi i (by omega)
      obtain ⟨y, rfl, hy⟩ := open_one ht
      rw [z10] at hc
      obtain ⟨_, _, hat⟩ := World.cells?_some hc
      refine ⟨y, fun j hj => ?_, hy⟩
      rw [← Wd.add_add]
      exact hat j hj
    let f : Nat → Spn := fun i => if h : i < len then Classical.choose (hx i h) else default
    have hf : ∀ i, i < len → (∀ j, j < 10 → w.cell? (a.add (i * 10 + j)) = (ten (f i))[j]?) ∧ Ats w (f i).A (f i).c (f i).l ∧ OkP (f i).pn := fun i hil => by
      have : f i = Classical.choose (hx i hil) := by simp only [f, hil, dif_pos]
      rw [this]
      exact Classical.choose_spec (hx i hil)
    refine ⟨some a, cap, (List.range len).map f, by rw [hcs]; simp, ⟨?_, fun y hy => ?_⟩, fun y hy => ?_⟩
    · refine ⟨tm_len _, fun e => (by cases e), by simpa using hl, hm, fun ad ha i u hu => ?_⟩
      injection ha with ha
      subst ha
      have hi4 : i < len * 10 := by
        have := (List.getElem?_eq_some_iff.1 hu).1
        rw [tm_len] at this
        simpa using this
      have e1 := tm_at ((List.range len).map f) (i / 10) (by simp; omega) (i % 10) (by omega)
      rw [show i / 10 * 10 + i % 10 = i by omega, hu] at e1
      have e2 := (hf (i / 10) (by omega)).1 (i % 10) (by omega)
      rw [show i / 10 * 10 + i % 10 = i by omega] at e2
      rw [e2, e1]
      simp
    · obtain ⟨i, hi, rfl⟩ := List.mem_map.1 hy
      exact (hf i (List.mem_range.1 hi)).2.1
    · obtain ⟨z, hz, rfl⟩ := List.mem_map.1 hy
      obtain ⟨i, hi, rfl⟩ := List.mem_map.1 hz
      exact (hf i (List.mem_range.1 hi)).2.2
end
end Go.Proofs.YtdmibolbpgondaaGreat.B07
