/-
  A span, as the machine holds it; Far, Of, To, Took, Failed.
  A span in plain lists; its numbers within their types.
  A span that comes in, opened: its nine fields, and its attributes.
-/
import Derived.Test.YtdmibolbpgondaaGreatKP06Row
import Derived.BigCall
import Derived.Test.YtdmibolbpgondaaGreatKT03Walk
import Derived.Deep.RegionHeld3
import Derived.Deep.Slices
import Derived.Deep.Fields
import Derived.ChangeOld
section
set_option linter.unusedSimpArgs false
set_option linter.unusedVariables false
namespace Go.Proofs.YtdmibolbpgondaaGreat.P06
open Go.Shelf Go.RowKit Go.Lib Go.Sort Go.Proofs.YtdmibolbpgondaaGreat.Wd Go.Proofs.YtdmibolbpgondaaGreat.V04

/-- all of a span but its attributes -/
structure Sp where
  T : Int
  I : Int
  P : Int
  sv : ByteArray
  nm : ByteArray
  kd : Int
  st : Int
  t0 : Int
  t1 : Int
abbrev spc (s : Sp) (v : Value) : Array Value := #[.int .u64 s.T, .int .u64 s.I, .int .u64 s.P, .string s.sv, .string s.nm, .int .i64 s.kd, .int .i64 s.st, .int .u64 s.t0, .int .u64 s.t1, v]
abbrev spv (s : Sp) (v : Value) : Value := .agg (spc s v)

/-- how long -/
def took (s : Sp) : Int := if s.t1 < s.t0 then 0 else s.t1 - s.t0
/-- is it more than is looked at? -/
def far (s : Sp) (l : List At) : Bool := decide (s.sv.size > 5000) || decide (s.nm.size > 5000) || decide (l.length > 40) || l.any fun x => decide (x.key.size > 300) || decide (x.S.size > 5000)
set_option maxHeartbeats 2000000 in
set_option maxRecDepth 20000 in
theorem far_any (s : Sp) (A : Option Addr) (c : Nat) (l : List At) (w : World) (h : Ats w A c l) (hm : l.length ≤ 9223372036854775807) :
    Calls Tryz.prog 9 #[spv s (.slice A l.length c)] w fun e w' => e = .returned (.bool (far s l)) ∧ Below w.heap.size w w' := by
  by_cases h1 : (5000 : Int) < (s.sv.size : Int) ∨ (5000 : Int) < (s.nm.size : Int) ∨ (40 : Int) < (l.length : Int)
  · have e : far s l = true := by unfold far; simp; omega
    rw [e]
    go_enter Tryz.func9, Tryz.ntmps9
    go_wp2
    all_goals first | (exfalso; omega) | skip
    all_goals go_ret
    all_goals exact ⟨rfl, by go_grown⟩
  · have e : far s l = l.any fun x => decide (x.key.size > 300) || decide (x.S.size > 5000) := by
      unfold far
      rw [decide_eq_false (by omega : ¬ s.sv.size > 5000), decide_eq_false (by omega : ¬ s.nm.size > 5000), decide_eq_false (by omega : ¬ l.length > 40)]
      simp
    rw [e]
    clear e
    have k1 : ¬ ((5000 : Int) < (s.sv.size : Int)) := by omega
    have k2 : ¬ ((5000 : Int) < (s.nm.size : Int)) := by omega
    have k3 : ¬ ((40 : Int) < (l.length : Int)) := by omega
    obtain ⟨r, hr⟩ : ∃ r, (l.any fun x => decide (x.key.size > 300) || decide (x.S.size > 5000)) = r := ⟨_, rfl⟩
    rw [hr]
    have HR := Lib.hid hr
    clear hr h1
    obtain ⟨n, hn⟩ : ∃ n, l.length = n := ⟨_, rfl⟩
    have HN := Lib.hid hn
    rw [hn] at k3 hm ⊢
    clear hn
    go_enter Tryz.func9, Tryz.ntmps9
    go_wp2
    have hA : Ats (w.alloc (.cells (spc s (.slice A n c)) 34)) A c l := h.below (by go_grown)
    have b0 : Below w.heap.size w (w.alloc (.cells (spc s (.slice A n c)) 34)) := by go_grown
    have c9 : (w.alloc (.cells (spc s (.slice A n c)) 34)).cell? ⟨w.heap.size, 9, none⟩ = some (.slice A n c) := by simp
    generalize w.alloc (.cells (spc s (.slice A n c)) 34) = X at hA b0 c9 ⊢
    go_loopw [3] (fun v wr => ∃ k : Nat, v = .int .i64 k ∧ k ≤ n ∧ wr = X ∧ Hid (((l.drop k).any fun x => decide (x.key.size > 300) || decide (x.S.size > 5000)) = r)) (fun v _ => n - (intOf v).toNat)
    case atStart => exact ⟨0, rfl, Nat.zero_le _, rfl, HR⟩
    case round =>
      obtain ⟨k, rfl, hk, rfl, HI⟩ := hrel
      by_cases hlt : k < n
      · have hltz : (k : Int) < (n : Int) := by omega
        have hkl : k < l.length := by rw [un HN]; exact hlt
        obtain ⟨ad, p, rfl, hp, F⟩ := hA.get hkl
        have hI : ((decide (l[k].key.size > 300) || decide (l[k].S.size > 5000)) || (l.drop (k + 1)).any fun x => decide (x.key.size > 300) || decide (x.S.size > 5000)) = r := by
          have := un HI
          rw [List.drop_eq_getElem_cons hkl, List.any_cons] at this
          exact this
        have HJ := Lib.hid hI
        clear hI HI
        have f0 := F.c0
        have f3 : wr.cell? ⟨p.block, p.off + 1 + 2, none⟩ = some (.string l[k].S) := F.c3
        clear F
        generalize l[k] = x at *
        by_cases q1 : (300 : Int) < (x.key.size : Int)
        · go_wp2
          go_ret
          refine ⟨ret_bool ?_, b0⟩
          rw [← un HJ, decide_eq_true (by omega : x.key.size > 300)]
          simp
        · by_cases q2 : (5000 : Int) < (x.S.size : Int)
          · go_wp2
            go_ret
            refine ⟨ret_bool ?_, b0⟩
            rw [← un HJ, decide_eq_true (by omega : x.S.size > 5000)]
            simp
          · go_wp2
            go_roundw
            case rel =>
              refine ⟨k + 1, by go_num, by omega, by first | rfl | trivial, ?_⟩
              have := un HJ
              rw [decide_eq_false (by omega : ¬ x.key.size > 300), decide_eq_false (by omega : ¬ x.S.size > 5000)] at this
              exact Lib.hid (by simpa using this)
            case measure => first | go_num | (simp [intOf]; omega)
      · have hltz : ¬ ((k : Int) < (n : Int)) := by omega
        go_wp2
        go_ret
        refine ⟨ret_bool ?_, b0⟩
        rw [← un HI, List.drop_of_length_le (by rw [un HN]; omega)]
        rfl
end Go.Proofs.YtdmibolbpgondaaGreat.P06
end

section
namespace Go.Proofs.YtdmibolbpgondaaGreat.B07
open Go.Proofs.YtdmibolbpgondaaGreat.P06

/-- a span: its nine fields, its attributes -/
abbrev Pn := Sp × List At
/-- the numbers of a span, of an attribute are within their types -/
structure OkN (s : Sp) : Prop where
  a0 : 0 ≤ s.T
  a1 : s.T ≤ 18446744073709551615
  b0 : 0 ≤ s.I
  b1 : s.I ≤ 18446744073709551615
  c0 : 0 ≤ s.P
  c1 : s.P ≤ 18446744073709551615
  d0 : 0 ≤ s.t0
  d1 : s.t0 ≤ 18446744073709551615
  e0 : 0 ≤ s.t1
  e1 : s.t1 ≤ 18446744073709551615
def OkA (a : At) : Prop := -9223372036854775808 ≤ a.N ∧ a.N ≤ 9223372036854775807
end Go.Proofs.YtdmibolbpgondaaGreat.B07
end

section
set_option linter.unusedSimpArgs false
set_option linter.unusedVariables false
namespace Go.Proofs.YtdmibolbpgondaaGreat.P06
open Go.RowKit Go.Lib Go.ChangeShapes Go.WideShapes Go.Deep Go.Proofs.YtdmibolbpgondaaGreat.Wd

/-- its times fit their kind -/
structure OkS (s : Sp) : Prop where
  a0 : 0 ≤ s.t0
  a1 : s.t0 ≤ 18446744073709551615
  b0 : 0 ≤ s.t1
  b1 : s.t1 ≤ 18446744073709551615
section
variable {H : Type} {enc' : TypeId × Value → H} {w : World} {base : Nat} {spare : Nat → Bool} {held : Bool}
set_option maxRecDepth 100000 in
theorem open_attr {n : Nat} {cs : List Value} {x : DataW H × List MemPlace} (h : DataW.trod enc' Tryz.prog w base spare held n 81 cs = some x) : ∃ y : At, cs = enc y := by
  have z9 : Tryz.prog.cellsOf 9 = 1 := by kernel_rfl
  have z44 : Tryz.prog.cellsOf 79 = 3 := by kernel_rfl
  have z46 : Tryz.prog.cellsOf 81 = 4 := by kernel_rfl
  have z3 : Tryz.prog.cellsOf 3 = 1 := by kernel_rfl
  have z2 : Tryz.prog.cellsOf 2 = 1 := by kernel_rfl
  obtain ⟨xs, m, _, _, hl, hxl, hg⟩ := DataW.trod_struct Tryz.underlying81 h
  rw [z46] at hl
  match cs, hl with
  | [d0, d1, d2, d3], _ =>
    match xs, hxl with
    | [y0, y1], _ =>
      have g0 := hg 0 _ rfl
      have g1 := hg 1 _ rfl
      simp only [z9, z44, List.drop_zero, List.drop_succ_cons, List.take_succ_cons, List.take_zero, List.getElem?_cons_zero, List.getElem?_cons_succ, List.getElem_toArray, List.getElem_cons_zero, List.getElem_cons_succ] at g0 g1
      obtain ⟨key, e0, _, _⟩ := DataW.trod_string Tryz.underlying9 g0
      obtain ⟨ys, m2, _, _, _, hyl, hg2⟩ := DataW.trod_struct Tryz.underlying79 g1
      match ys, hyl with
      | [u0, u1, u2], _ =>
        have k0 := hg2 0 _ rfl
        have k1 := hg2 1 _ rfl
        have k2 := hg2 2 _ rfl
        simp only [z9, z3, z2, List.drop_zero, List.drop_succ_cons, List.take_succ_cons, List.take_zero, List.getElem?_cons_zero, List.getElem?_cons_succ, List.getElem_toArray, List.getElem_cons_zero, List.getElem_cons_succ] at k0 k1 k2
        obtain ⟨K, f0, _, _⟩ := DataW.trod_int (k := .i64) Tryz.underlying3 k0
        obtain ⟨N, f1, _, _⟩ := DataW.trod_int (k := .i64) Tryz.underlying2 k1
        obtain ⟨S, f2, _, _⟩ := DataW.trod_string Tryz.underlying9 k2
        simp only [List.cons.injEq, and_true] at e0 f0 f1 f2
        subst e0 f0 f1 f2
        exact ⟨⟨key, K, N, S⟩, rfl⟩
set_option maxRecDepth 100000 in
theorem open_attrs {n : Nat} {v : Value} {x : DataW H × List MemPlace} (h : DataW.trod enc' Tryz.prog w base spare held n 32 [v] = some x) : ∃ (A : Option Addr) (c : Nat) (l : List At), v = .slice A l.length c ∧ Ats w A c l := by
  have z46 : Tryz.prog.cellsOf 81 = 4 := by kernel_rfl
  rcases open_slice Tryz.underlying32 h with ⟨h0, _⟩ | ⟨a, len, cap, m, n', D, Pl, hcs, hb, hl, hm, hmm, _, hi⟩
  · simp only [List.cons.injEq, and_true] at h0
    exact ⟨none, 0, [], h0, Ats.nil w⟩
  · simp only [List.cons.injEq, and_true] at hcs
    have hlm : len ≤ m := by rw [hmm]; split <;> omega
    have hx : ∀ i, i < len → ∃ y : At, ∀ j, j < 4 → w.cell? (a.add (i * 4 + j)) = (enc y)[j]? := fun i hil => by
      obtain ⟨cs', hc, ht⟩ := hi i (by omega)
      obtain ⟨y, rfl⟩ := open_attr ht
      rw [z46] at hc
      obtain ⟨_, _, hat⟩ := World.cells?_some hc
      refine ⟨y, fun j hj => ?_⟩
      rw [← Wd.add_add]
      exact hat j hj
    let f : Nat → At := fun i => if h : i < len then Classical.choose (hx i h) else default
    have hf : ∀ i, i < len → ∀ j, j < 4 → w.cell? (a.add (i * 4 + j)) = (enc (f i))[j]? := fun i hil => by
      have : f i = Classical.choose (hx i hil) := by simp only [f, hil, dif_pos]
      rw [this]
      exact Classical.choose_spec (hx i hil)
    refine ⟨some a, cap, (List.range len).map f, by rw [hcs]; simp, ?_⟩
    refine ⟨fm_len _, fun e => (by cases e), by simpa using hl, hm, fun ad ha i u hu => ?_⟩
    injection ha with ha
    subst ha
    have hi4 : i < len * 4 := by
      have := (List.getElem?_eq_some_iff.1 hu).1
      rw [fm_len] at this
      simpa using this
    have e1 := fm_at ((List.range len).map f) (i / 4) (by simp; omega) (i % 4) (by omega)
    rw [show i / 4 * 4 + i % 4 = i by omega, hu] at e1
    have e2 := hf (i / 4) (by omega) (i % 4) (by omega)
    rw [show i / 4 * 4 + i % 4 = i by omega] at e2
    rw [e2, e1]
    simp
set_option maxRecDepth 100000 in
theorem open_span {r : Reach} {b0 : Nat} {v : Value} {d : DataW H} {p : List MemPlace} (hv : Value.okWide Tryz.prog w r b0 34 v) (h : DataW.Trod enc' Tryz.prog w base spare held 34 v d p) :
    ∃ (s : Sp) (A : Option Addr) (c : Nat) (l : List At), v = spv s (.slice A l.length c) ∧ Ats w A c l ∧ OkS s := by
  have z9 : Tryz.prog.cellsOf 9 = 1 := by kernel_rfl
  have z3 : Tryz.prog.cellsOf 3 = 1 := by kernel_rfl
  have z22 : Tryz.prog.cellsOf 22 = 1 := by kernel_rfl
  have z23 : Tryz.prog.cellsOf 32 = 1 := by kernel_rfl
  obtain ⟨cs, rfl, hsz⟩ := okWide_struct Tryz.underlying34 hv
  obtain ⟨l⟩ := cs
  match l, hsz.trans (show Tryz.prog.cellsOf 34 = 10 by kernel_rfl) with
  | [c0, c1, c2, c3, c4, c5, c6, c7, c8, c9], _ =>
    obtain ⟨fuel, hf⟩ := h
    obtain ⟨xs, n, _, _, _, hlen, hg⟩ := DataW.trod_struct Tryz.underlying34 hf
    match xs, hlen with
    | [y0, y1, y2, y3, y4, y5, y6, y7, y8, y9], _ =>
      have g0 := hg 0 _ rfl
      have g1 := hg 1 _ rfl
      have g2 := hg 2 _ rfl
      have g3 := hg 3 _ rfl
      have g4 := hg 4 _ rfl
      have g5 := hg 5 _ rfl
      have g6 := hg 6 _ rfl
      have g7 := hg 7 _ rfl
      have g8 := hg 8 _ rfl
      have g9 := hg 9 _ rfl
      simp only [Value.cells, z9, z3, z22, z23, List.drop_zero, List.drop_succ_cons, List.take_succ_cons, List.take_zero, List.getElem?_cons_zero, List.getElem?_cons_succ, List.getElem_toArray, List.getElem_cons_zero, List.getElem_cons_succ] at g0 g1 g2 g3 g4 g5 g6 g7 g8 g9
      obtain ⟨n0, e0, _, _⟩ := DataW.trod_int (k := .u64) Tryz.underlying22 g0
      obtain ⟨n1, e1, _, _⟩ := DataW.trod_int (k := .u64) Tryz.underlying22 g1
      obtain ⟨n2, e2, _, _⟩ := DataW.trod_int (k := .u64) Tryz.underlying22 g2
      obtain ⟨n3, e3, _, _⟩ := DataW.trod_string Tryz.underlying9 g3
      obtain ⟨n4, e4, _, _⟩ := DataW.trod_string Tryz.underlying9 g4
      obtain ⟨n5, e5, _, _⟩ := DataW.trod_int (k := .i64) Tryz.underlying3 g5
      obtain ⟨n6, e6, _, _⟩ := DataW.trod_int (k := .i64) Tryz.underlying3 g6
      obtain ⟨n7, e7, _, w7⟩ := DataW.trod_int (k := .u64) Tryz.underlying22 g7
      obtain ⟨n8, e8, _, w8⟩ := DataW.trod_int (k := .u64) Tryz.underlying22 g8
      obtain ⟨A, c, l, e9, hA⟩ := open_attrs g9
      simp only [List.cons.injEq, and_true] at e0 e1 e2 e3 e4 e5 e6 e7 e8
      subst e0 e1 e2 e3 e4 e5 e6 e7 e8 e9
      have b7 : 0 ≤ n7 ∧ n7 ≤ 18446744073709551615 := by simpa [Lit.wf, IntKind.min, IntKind.max, IntKind.signed, IntKind.bits] using w7
      have b8 : 0 ≤ n8 ∧ n8 ≤ 18446744073709551615 := by simpa [Lit.wf, IntKind.min, IntKind.max, IntKind.signed, IntKind.bits] using w8
      exact ⟨⟨n0, n1, n2, n3, n4, n5, n6, n7, n8⟩, A, c, l, rfl, hA, b7.1, b7.2, b8.1, b8.2⟩
end
end Go.Proofs.YtdmibolbpgondaaGreat.P06
end
