/-
  The document's way of reading, field by field, in plain lists: it answers as the reader does.
  The document's Get of layer 7.
-/
import Derived.Test.YtndcdidepdcmnaaKB7Back
import Derived.Test.YtndcdidepdcmnaaKB7RefT
import Derived.Test.YtndcdidepdcmnaaKS05Find
import Derived.Test.YtndcdidepdcmnaaKV04RefGet
import Derived.Test.YtndcdidepdcmnaaKB7Lists
section
set_option linter.unusedSimpArgs false
set_option linter.unusedVariables false
namespace Go.Proofs.Ytndcdidepdcmnaa.B07
open Go.Proofs.Ytndcdidepdcmnaa.V01 Go.Proofs.Ytndcdidepdcmnaa.Wd Go.Proofs.Ytndcdidepdcmnaa.V04 Go.Proofs.Ytndcdidepdcmnaa.P06
open Go.Proofs.Ytndcdidepdcmnaa.S05 (ix tb tx one readF)

theorem bnd_num_ok {α : Type} {l : List UInt8} {n k : Nat} (hg : getF 0 0 (nat8 l) = (n, k, 0)) (f : Nat → R7 α) (ms : Nat × Bool) : bnd num f (l, ms) = f n (l.drop k, ms) := by
  unfold bnd num
  simp [hg]
theorem bnd_num_err {α : Type} {l : List UInt8} {n k e : Nat} (hg : getF 0 0 (nat8 l) = (n, k, e)) (he : e ≠ 0) (f : Nat → R7 α) (ms : Nat × Bool) : bnd num f (l, ms) = .error e := by
  unfold bnd num
  simp [hg, he]
theorem bnd_oct_nil {α : Type} (f : Nat → R7 α) (ms : Nat × Bool) : bnd oct f ([], ms) = .error 10 := rfl
theorem bnd_oct_cons {α : Type} (f : Nat → R7 α) (x : UInt8) (r : List UInt8) (ms : Nat × Bool) : bnd oct f (x :: r, ms) = f x.toNat (r, ms) := rfl
theorem bnd_val_ok {α : Type} {l : List UInt8} {K N : Int} {S : ByteArray} {k : Nat} (hg : getV l = ⟨K, N, S, k, 0⟩) (f : V3 → R7 α) (ms : Nat × Bool) : bnd val f (l, ms) = f ⟨K, N, S⟩ (l.drop k, ms) := by
  unfold bnd val
  simp [hg]
theorem bnd_val_err {α : Type} {l : List UInt8} {K N : Int} {S : ByteArray} {k e : Nat} (hg : getV l = ⟨K, N, S, k, e⟩) (he : e ≠ 0) (f : V3 → R7 α) (ms : Nat × Bool) : bnd val f (l, ms) = .error e := by
  unfold bnd val
  simp [hg, he]

/-- a text's number -/
def fldT (t : List ByteArray) : R7 Nat := bnd num fun n => if n < t.length then bnd (met n) fun _ => ret n else err 11
def isT (j : Nat) : Bool := decide (j = 3 ∨ j = 4)
def isO (j : Nat) : Bool := decide (j = 5 ∨ j = 6)
/-- the field of a number -/
def fld (t : List ByteArray) (j : Nat) : R7 Nat := if isO j then oct else if isT j then fldT t else if j = 9 then cnt 16 else num
def flds (t : List ByteArray) : Nat → Nat → List Nat → R7 (List Nat)
  | 0, _, acc => ret acc
  | f + 1, j, acc => bnd (fld t j) fun v => flds t f (j + 1) (acc ++ [v])
def nth (vs : List Nat) (j : Nat) : Nat := vs.getD j 0
def spV (t : List ByteArray) (vs : List Nat) : Sp := ⟨nth vs 0, nth vs 1, nth vs 2, t.getD (nth vs 3) ByteArray.empty, t.getD (nth vs 4) ByteArray.empty, nth vs 5, nth vs 6, nth vs 7, nth vs 8⟩
theorem txt_fldT {α : Type} (t : List ByteArray) (f : ByteArray → R7 α) : bnd (txt t) f = bnd (fldT t) fun n => f (t.getD n ByteArray.empty) := by
  unfold txt fldT
  rw [bnd_assoc, bnd_assoc]
  congr 1
  funext n
  by_cases h : n < t.length
  · rw [if_pos h, txtK_some (List.getElem?_eq_getElem h), bnd_assoc, bnd_assoc]
    congr 1
    funext _
    rw [bnd_ret, bnd_ret]
    congr 1
    simp [List.getD_eq_getElem?_getD, h]
  · rw [if_neg h, txtK_none (List.getElem?_eq_none (by omega)), bnd_err, bnd_err]
theorem spn_flds (t : List ByteArray) : spn t = bnd (flds t 10 0 []) fun vs => bnd (atsK t (nth vs 9) []) fun l => ret (spV t vs, l) := by
  have h0 : fld t 0 = num := rfl
  have h1 : fld t 1 = num := rfl
  have h2 : fld t 2 = num := rfl
  have h3 : fld t 3 = fldT t := rfl
  have h4 : fld t 4 = fldT t := rfl
  have h5 : fld t 5 = oct := rfl
  have h6 : fld t 6 = oct := rfl
  have h7 : fld t 7 = num := rfl
  have h8 : fld t 8 = num := rfl
  have h9 : fld t 9 = cnt 16 := rfl
  simp only [flds, h0, h1, h2, h3, h4, h5, h6, h7, h8, h9, bnd_assoc, bnd_ret, List.nil_append, List.cons_append]
  unfold spn
  simp only [txt_fldT, ats, bnd_assoc]
  rfl
/-- what is asked at the end -/
theorem getB_fin {b : List UInt8} {t : List ByteArray} {k : Nat} (hl : b.length ≤ 65536) (hr : readF b = (t, k, 0)) {L : List Pn} {r : List UInt8} {ms : Nat × Bool} (h : sps t (b.drop k, 0, false) = .ok (L, (r, ms))) :
    getB b = (if r = [] ∧ texts L = t then .ok L else .error 11) ∧ (∀ x ∈ L, Fit7 t x) ∧ L.length ≤ 1024 := by
  obtain ⟨_, hn, _, _⟩ := read_inv hr
  obtain ⟨n, ⟨b1, ms1⟩, h1, h2⟩ := bnd_inv h
  obtain ⟨c1, c2, c3⟩ := cnt_inv h1
  obtain ⟨M, m1, m2, m3, m4, m5⟩ := spsK_inv hn n [] L b1 r ms1 ms h2
  simp only [List.nil_append] at m1
  subst m1
  rw [c3] at m5
  refine ⟨?_, m4, by omega⟩
  have hq := meets_eq hn m4
  rw [← m5] at hq
  obtain ⟨m, sk⟩ := ms
  unfold getB
  rw [if_neg (by omega), hr]
  simp only [ne_eq, not_true_eq_false, if_false, h, fin]
  by_cases hc : r = [] ∧ texts L = t
  · rw [if_pos hc]
    have := hq.1 hc.2
    rw [if_neg]
    rintro (h3 | h3 | h3)
    · exact h3 hc.1
    · rw [h3] at this; cases this.1
    · exact this.2 h3
  · rw [if_neg hc, if_pos]
    by_cases hr0 : r = []
    · right
      by_cases hsk : sk = true
      · exact .inl hsk
      · refine .inr (Classical.byContradiction fun hlt => hc ⟨hr0, hq.2 ⟨by simpa using hsk, hlt⟩⟩)
    · exact .inl hr0
theorem getB_err {b : List UInt8} {t : List ByteArray} {k e : Nat} (hl : b.length ≤ 65536) (hr : readF b = (t, k, 0)) (h : sps t (b.drop k, 0, false) = .error e) : getB b = .error e := by
  unfold getB
  rw [if_neg (by omega), hr]
  simp only [ne_eq, not_true_eq_false, if_false, h, fin]

/-! ### one field more -/
section
variable {α : Type} {t : List ByteArray} {j : Nat} {vs : List Nat} {K : List Nat → R7 α} {l : List UInt8} {ms : Nat × Bool}
theorem flds_step (hj : j < 10) : bnd (flds t (10 - j) j vs) K = bnd (fld t j) fun v => bnd (flds t (10 - (j + 1)) (j + 1) (vs ++ [v])) K := by
  rw [show 10 - j = 10 - (j + 1) + 1 by omega]
  conv => lhs; unfold flds
  rw [bnd_assoc]
theorem flds_err {n k e : Nat} (hj : j < 10) (hO : isO j = false) (hg : getF 0 0 (nat8 l) = (n, k, e)) (he : e ≠ 0) : bnd (flds t (10 - j) j vs) K (l, ms) = .error e := by
  rw [flds_step hj]
  unfold fld
  rw [hO, if_neg (by simp)]
  split
  · unfold fldT
    rw [bnd_assoc]
    exact bnd_num_err hg he _ _
  · split
    · unfold cnt
      rw [bnd_assoc]
      exact bnd_num_err hg he _ _
    · exact bnd_num_err hg he _ _
theorem flds_bad {n k : Nat} (hj : j < 10) (hO : isO j = false) (hg : getF 0 0 (nat8 l) = (n, k, 0)) (hb : (isT j = true ∧ t.length ≤ n) ∨ (j = 9 ∧ 16 < n)) : bnd (flds t (10 - j) j vs) K (l, ms) = .error 11 := by
  rw [flds_step hj]
  unfold fld
  rw [hO, if_neg (by simp)]
  rcases hb with ⟨h1, h2⟩ | ⟨h1, h2⟩
  · rw [if_pos h1]
    unfold fldT
    rw [bnd_assoc, bnd_num_ok hg, if_neg (by omega)]
    rfl
  · subst h1
    rw [if_neg (by decide), if_pos rfl]
    unfold cnt
    rw [bnd_assoc, bnd_num_ok hg, if_pos h2]
    rfl
theorem flds_ok {n k : Nat} (hj : j < 10) (hO : isO j = false) (hg : getF 0 0 (nat8 l) = (n, k, 0)) (h1 : isT j = true → n < t.length) (h2 : j = 9 → n ≤ 16) : ∃ ms', bnd (flds t (10 - j) j vs) K (l, ms) = bnd (flds t (10 - (j + 1)) (j + 1) (vs ++ [n])) K (l.drop k, ms') := by
  rw [flds_step hj]
  unfold fld
  rw [hO, if_neg (by simp)]
  by_cases hT : isT j = true
  · rw [if_pos hT]
    unfold fldT
    rw [bnd_assoc, bnd_num_ok hg, if_pos (h1 hT)]
    exact ⟨_, rfl⟩
  · rw [if_neg hT]
    by_cases h9 : j = 9
    · rw [if_pos h9]
      unfold cnt
      rw [bnd_assoc, bnd_num_ok hg, if_neg (by have := h2 h9; omega)]
      exact ⟨_, rfl⟩
    · rw [if_neg h9, bnd_num_ok hg]
      exact ⟨_, rfl⟩
theorem flds_O_nil (hj : j < 10) (hO : isO j = true) : bnd (flds t (10 - j) j vs) K ([], ms) = .error 10 := by
  rw [flds_step hj]
  unfold fld
  rw [hO, if_pos rfl]
  rfl
theorem flds_O_cons (hj : j < 10) (hO : isO j = true) (x : UInt8) (r : List UInt8) : bnd (flds t (10 - j) j vs) K (x :: r, ms) = bnd (flds t (10 - (j + 1)) (j + 1) (vs ++ [x.toNat])) K (r, ms) := by
  rw [flds_step hj]
  unfold fld
  rw [hO, if_pos rfl]
  rfl
end
/-- an attribute more -/
theorem atsK_err {α : Type} {t : List ByteArray} {m n k e : Nat} {acc : List At} {f : List At → R7 α} {l : List UInt8} {ms : Nat × Bool} (hg : getF 0 0 (nat8 l) = (n, k, e)) (he : e ≠ 0) : bnd (atsK t (m + 1) acc) f (l, ms) = .error e := by
  unfold atsK
  rw [bnd_assoc, txt_fldT]
  unfold fldT
  rw [bnd_assoc]
  exact bnd_num_err hg he _ _
theorem atsK_bad {α : Type} {t : List ByteArray} {m n k : Nat} {acc : List At} {f : List At → R7 α} {l : List UInt8} {ms : Nat × Bool} (hg : getF 0 0 (nat8 l) = (n, k, 0)) (hn : t.length ≤ n) : bnd (atsK t (m + 1) acc) f (l, ms) = .error 11 := by
  unfold atsK
  rw [bnd_assoc, txt_fldT]
  unfold fldT
  rw [bnd_assoc, bnd_num_ok hg, if_neg (by omega)]
  rfl
theorem atsK_val {α : Type} {t : List ByteArray} {m n k : Nat} {acc : List At} {f : List At → R7 α} {l : List UInt8} {ms : Nat × Bool} (hg : getF 0 0 (nat8 l) = (n, k, 0)) (hn : n < t.length) :
    ∃ ms', bnd (atsK t (m + 1) acc) f (l, ms) = bnd val (fun v => bnd (atsK t m (acc ++ [⟨t.getD n ByteArray.empty, v.K, v.N, v.S⟩])) f) (l.drop k, ms') := by
  refine ⟨meet ms n, ?_⟩
  conv => lhs; unfold atsK
  rw [bnd_assoc, txt_fldT]
  unfold fldT
  rw [bnd_assoc, bnd_num_ok hg, if_pos hn]
  simp only [bnd_assoc, bnd_ret]
  rfl
/-- the array of fields, as it lies -/
def arr (vs : List Nat) : Array Go.Value := ((vs ++ List.replicate (10 - vs.length) 0).map fun (x : Nat) => Go.Value.int .u64 (x : Int)).toArray
theorem arr_get {vs : List Nat} {j : Nat} (hj : j < 10) (hv : vs.length ≤ 10) : (arr vs)[j]? = some (.int .u64 ((nth vs j : Nat) : Int)) := by
  unfold arr nth
  simp only [List.getElem?_toArray, List.getElem?_map]
  by_cases h : j < vs.length
  · rw [List.getElem?_append_left h]
    simp [List.getD_eq_getElem?_getD, h]
  · rw [List.getElem?_append_right (by omega)]
    have : j - vs.length < 10 - vs.length := by omega
    simp [List.getElem?_replicate, this, List.getD_eq_getElem?_getD, h]
theorem arr_set {vs : List Nat} {v : Nat} (hv : vs.length < 10) : (arr vs).setIfInBounds vs.length (.int .u64 (v : Int)) = arr (vs ++ [v]) := by
  unfold arr
  apply Array.ext'
  simp only [Array.toList_setIfInBounds]
  have e : List.replicate (10 - vs.length) 0 = 0 :: List.replicate (10 - (vs ++ [v]).length) 0 := by
    rw [show 10 - vs.length = 10 - (vs ++ [v]).length + 1 by simp; omega]
    rfl
  rw [e]
  simp
end Go.Proofs.Ytndcdidepdcmnaa.B07
end

section
set_option linter.unusedSimpArgs false
set_option linter.unusedVariables false
namespace Go.Proofs.Ytndcdidepdcmnaa.B07
open Go.RowKit Go.Lib Go.Maps Go.Proofs.Ytndcdidepdcmnaa.Wd Go.Proofs.Ytndcdidepdcmnaa.V01 Go.Proofs.Ytndcdidepdcmnaa.V04 Go.Proofs.Ytndcdidepdcmnaa.P06
open Go.Proofs.Ytndcdidepdcmnaa.S05 (Fr Sub refread_any Told2 readF)

/-- what the document's Get answers, in memory -/
def RGetOut (w : World) (r : Except Nat (List Pn)) (x : Ending) (w' : World) : Prop :=
  (match r with
   | .error e => e ≠ 0 ∧ x = .returned (.tuple #[.slice none 0 0, .int .i64 (e : Int)])
   | .ok L => ∃ A c Ls, x = .returned (.tuple #[.slice A L.length c, .int .i64 0]) ∧ pns Ls = L ∧ OwnS w.heap.size 53 w' A c Ls ∧ (∀ y ∈ L, y.2.length ≤ 16) ∧ L.length ≤ 1024) ∧ Below w.heap.size w w'

/-- a cut of the bytes, and the number that it begins with -/
theorem cut_get {w : World} {A : Option Addr} {c len : Nat} {b : List UInt8} (hb : Bs w A c b) (hlen : b.length = len) (hl : len ≤ 65536) {u n k e : Nat} (hu : u ≤ len) (hg : getF 0 0 (nat8 (b.drop u)) = (n, k, e)) :
    (c = u → Calls Try.prog 37 #[.slice A 0 0] w fun x w' => x = .returned (.tuple #[.int .u64 n, .int .i64 k, .int .i64 e]) ∧ w = w') ∧
    (c ≠ u → Calls Try.prog 37 #[.slice (A.map (·.add u)) (len - u) (c - u)] w fun x w' => x = .returned (.tuple #[.int .u64 n, .int .i64 k, .int .i64 e]) ∧ w = w') := by
  have hd := hb.drop u (by omega)
  have hcap := hb.cap
  have hdl : (b.drop u).length = len - u := by rw [List.length_drop, hlen]
  refine ⟨fun hc => ?_, fun hc => ?_⟩
  · have e0 : cutA A c u = A := by unfold cutA; rw [if_pos hc]
    rw [e0, hc, Nat.sub_self] at hd
    exact S05.rget_at A 0 0 (b.drop u) n k e w hd (by omega) (by omega) hg
  · have e0 : cutA A c u = A.map (·.add u) := by unfold cutA; rw [if_neg hc]
    rw [e0] at hd
    exact S05.rget_at _ _ (len - u) (b.drop u) n k e w hd hdl (by omega) hg

/-- where the loop over spans is -/
structure GL (w1 : World) (X : Except Nat (List Pn × S7)) (b : List UInt8) (t : List ByteArray) (n i u : Nat) (A : Option Addr) (c : Nat) (L : List Spn) (wr : World) : Prop where
  own : OwnS w1.heap.size 53 wr A c L
  len : L.length = i
  sm : ∀ x ∈ L, x.l.length ≤ 16
  bel : Below w1.heap.size w1 wr
  hu : u ≤ b.length
  eq : ∃ ms, X = spsK t (n - i) (pns L) (b.drop u, ms)

/-- where the loop over a span's fields is -/
structure FL (W0 : World) (X : Except Nat (List Pn × S7)) (b : List UInt8) (t : List ByteArray) (K : List Nat → R7 (List Pn)) (j u : Nat) (vs : List Nat) (wr : World) : Prop where
  len : vs.length = j
  hj : j ≤ 10
  bel : Below W0.heap.size W0 wr
  b1 : Bk wr W0.heap.size 53 zsp
  b2 : Bk wr (W0.heap.size + 1) 87 (arr vs)
  hu : u ≤ b.length
  eq : ∃ ms, X = bnd (flds t (10 - j) j vs) K (b.drop u, ms)
  rng : ∀ x ∈ vs, x ≤ 18446744073709551615
  t3 : 3 < j → nth vs 3 < t.length
  t4 : 4 < j → nth vs 4 < t.length
  o5 : 5 < j → nth vs 5 < 256
  o6 : 6 < j → nth vs 6 < 256
  c9 : 9 < j → nth vs 9 ≤ 16
theorem nth_app {vs : List Nat} {v k : Nat} : nth (vs ++ [v]) k = if k = vs.length then v else nth vs k := by
  unfold nth
  simp only [List.getD_eq_getElem?_getD]
  by_cases h : k < vs.length
  · rw [List.getElem?_append_left h, if_neg (by omega)]
  · by_cases h1 : k = vs.length
    · rw [if_pos h1, h1]; simp
    · rw [if_neg h1, List.getElem?_eq_none (by simp; omega), List.getElem?_eq_none (by omega)]
theorem FL.start (W0 : World) {X : Except Nat (List Pn × S7)} {b : List UInt8} {t : List ByteArray} {K : List Nat → R7 (List Pn)} {u : Nat} {ms : Nat × Bool} (hu : u ≤ b.length) (heq : X = bnd (flds t 10 0 []) K (b.drop u, ms)) :
    FL W0 X b t K 0 u [] ((W0.alloc (.cells zsp 53)).alloc (.cells (arr []) 87)) := by
  refine ⟨rfl, by omega, by go_grown, ?_, ?_, hu, ⟨_, heq⟩, fun _ h => (by cases h), fun h => (by omega), fun h => (by omega), fun h => (by omega), fun h => (by omega), fun h => (by omega)⟩
  · exact (Bk.new W0 _ _).below ((Below.refl _ _).alloc (Nat.le_refl _) _)
  · simpa using Bk.new (W0.alloc (.cells zsp 53)) 87 (arr [])
theorem FL.next {W0 : World} {X : Except Nat (List Pn × S7)} {b : List UInt8} {t : List ByteArray} {K : List Nat → R7 (List Pn)} {j u : Nat} {vs : List Nat} {wr : World} (h : FL W0 X b t K j u vs wr) {v u' : Nat} (hj : j < 10) (hv : v ≤ 18446744073709551615) (hu : u' ≤ b.length)
    (heq : ∃ ms, X = bnd (flds t (10 - (j + 1)) (j + 1) (vs ++ [v])) K (b.drop u', ms)) (hT : isT j = true → v < t.length) (hO : isO j = true → v < 256) (h9 : j = 9 → v ≤ 16) :
    FL W0 X b t K (j + 1) u' (vs ++ [v]) (wr.setCell ⟨W0.heap.size + 1, j, none⟩ (.int .u64 v)) := by
  have hl := h.len
  refine ⟨by simp [hl], by omega, ?_, h.b1.other _ _ _ (by omega), ?_, hu, heq, ?_, ?_, ?_, ?_, ?_, ?_⟩
  · refine ⟨h.bel.os, h.bel.tape, h.bel.output, by simpa using h.bel.size, fun g hg => ?_⟩
    rw [heap_set _ _ _ _ _ (by omega)]
    exact h.bel.block g hg
  · have := h.b2.set j (.int .u64 (v : Int))
    rw [← hl, arr_set (by omega)] at this
    rw [← hl]
    exact this
  · intro x hx
    rcases List.mem_append.1 hx with hx | hx
    · exact h.rng x hx
    · simp at hx; omega
  all_goals
    intro hlt
    rw [nth_app, hl]
    split
  · next e => exact hT (by rw [← e]; rfl)
  · exact h.t3 (by omega)
  · next e => exact hT (by rw [← e]; rfl)
  · exact h.t4 (by omega)
  · next e => exact hO (by rw [← e]; rfl)
  · exact h.o5 (by omega)
  · next e => exact hO (by rw [← e]; rfl)
  · exact h.o6 (by omega)
  · next e => exact h9 e.symm
  · exact h.c9 (by omega)

theorem blk_add (a : Addr) (n : Nat) : (a.add n).block = a.block := by unfold Addr.add; split <;> rfl
/-- nine set -/
def put9 (w : World) (g : Nat) (s : Sp) : World :=
  ((((((((w.setCell ⟨g, 0, none⟩ (.int .u64 s.T)).setCell ⟨g, 1, none⟩ (.int .u64 s.I)).setCell ⟨g, 2, none⟩ (.int .u64 s.P)).setCell ⟨g, 3, none⟩ (.string s.sv)).setCell ⟨g, 4, none⟩ (.string s.nm)).setCell ⟨g, 5, none⟩ (.int .i64 s.kd)).setCell ⟨g, 6, none⟩ (.int .i64 s.st)).setCell ⟨g, 7, none⟩ (.int .u64 s.t0)).setCell ⟨g, 8, none⟩ (.int .u64 s.t1)
theorem heap_put9 (w : World) (b : Nat) (s : Sp) (g : Nat) (hne : b ≠ g) : (put9 w b s).heap[g]? = w.heap[g]? := by
  unfold put9
  simp only [heap_set _ _ _ _ _ hne]
theorem size_put9 (w : World) (b : Nat) (s : Sp) : (put9 w b s).heap.size = w.heap.size := by
  unfold put9
  simp
theorem bk_put9 {w : World} {g : Nat} {t : TypeId} (h : Bk w g t zsp) (s : Sp) : Bk (put9 w g s) g t (spc s (.slice none 0 0)) := by
  have := ((((((((h.set 0 (.int .u64 s.T)).set 1 (.int .u64 s.I)).set 2 (.int .u64 s.P)).set 3 (.string s.sv)).set 4 (.string s.nm)).set 5 (.int .i64 s.kd)).set 6 (.int .i64 s.st)).set 7 (.int .u64 s.t0)).set 8 (.int .u64 s.t1)
  unfold put9
  simpa using this
theorem put9_os (w : World) (g : Nat) (s : Sp) : (put9 w g s).os = w.os ∧ (put9 w g s).tape = w.tape ∧ (put9 w g s).output = w.output := by
  unfold put9
  simp [World.setCell]
/-- where the loop over a span's attributes is -/
structure AL (W0 : World) (X : Except Nat (List Pn × S7)) (b : List UInt8) (t : List ByteArray) (K2 : List At → R7 (List Pn)) (vs : List Nat) (s : Sp) (N j u : Nat) (A : Option Addr) (c : Nat) (l : List At) (wr : World) : Prop where
  len : l.length = j
  bel : Below W0.heap.size W0 wr
  b1 : Bk wr W0.heap.size 53 (spc s (.slice A j c))
  b2 : Bk wr (W0.heap.size + 1) 87 (arr vs)
  own : wr.ownsRow (W0.heap.size + 1 + 1) 58 4 (.slice A j c) j (l.flatMap enc)
  lt : W0.heap.size + 1 + 1 ≤ wr.heap.size
  hu : u ≤ b.length
  eq : ∃ ms, X = bnd (atsK t (N - j) l) K2 (b.drop u, ms)
theorem AL.start {W0 : World} {X : Except Nat (List Pn × S7)} {b : List UInt8} {t : List ByteArray} {K : List Nat → R7 (List Pn)} {K2 : List At → R7 (List Pn)} {u : Nat} {vs : List Nat} {wr : World} (h : FL W0 X b t K 10 u vs wr) (s : Sp) {N : Nat} (hK : K vs = bnd (atsK t N []) K2) :
    AL W0 X b t K2 vs s N 0 u none 0 [] (put9 wr W0.heap.size s) := by
  obtain ⟨ms, heq⟩ := h.eq
  have heq : X = K vs (b.drop u, ms) := heq
  have ho := put9_os wr W0.heap.size s
  refine ⟨rfl, ⟨ho.1.trans h.bel.os, ho.2.1.trans h.bel.tape, ho.2.2.trans h.bel.output, by rw [size_put9]; exact h.bel.size, fun g hg => ?_⟩, bk_put9 h.b1 s, ?_, ⟨by simp, .inl ⟨rfl, rfl⟩⟩, ?_, h.hu, ms, by rw [heq, hK]; rfl⟩
  · rw [heap_put9 _ _ _ _ (by omega)]
    exact h.bel.block g hg
  · unfold Bk
    rw [heap_put9 _ _ _ _ (by omega)]
    exact h.b2
  · rw [size_put9]
    exact h.b2.lt
theorem AL.step {W0 : World} {X : Except Nat (List Pn × S7)} {b : List UInt8} {t : List ByteArray} {K2 : List At → R7 (List Pn)} {vs : List Nat} {s : Sp} {N j u : Nat} {A : Option Addr} {c : Nat} {l : List At} {wr w1 w2 : World} (h : AL W0 X b t K2 vs s N j u A c l wr) {A3 : Option Addr} {c3 u' : Nat} {x : At}
    (h1 : Below wr.heap.size wr w1) (hg : w1.grownBy w2 (Value.slice A j c).ownBlock) (ho : w2.ownsRow (W0.heap.size + 1 + 1) 58 4 (.slice A3 (j + 1) c3) (j + 1) (l.flatMap enc ++ enc x)) (hu : u' ≤ b.length)
    (heq : ∃ ms, X = bnd (atsK t (N - (j + 1)) (l ++ [x])) K2 (b.drop u', ms)) :
    AL W0 X b t K2 vs s N (j + 1) u' A3 c3 (l ++ [x]) (w2.setCell ⟨W0.heap.size, 9, none⟩ (.slice A3 (j + 1) c3)) := by
  have hb : ∀ (g : Nat) (t : TypeId) (cs : Array Value), g < W0.heap.size + 1 + 1 → Bk wr g t cs → Bk w2 g t cs := fun g t cs hlt hB => by
    have hB1 := hB.below h1
    unfold Bk at *
    rw [hg.block g (Array.getElem?_eq_some_iff.1 hB1).1 (fun e => by have := (h.own.lt g e.symm).1; omega)]
    exact hB1
  have hbel : Below W0.heap.size W0 w2 := by
    have := (h.bel.trans (h1.mono (h.bel.size)))
    exact this.grown hg this.size fun j hj => by have := (h.own.lt j hj).1; omega
  refine ⟨by simp [h.len], ?_, ?_, (hb _ _ _ (by omega) h.b2).other _ _ _ (by omega), ?_, ?_, hu, heq⟩
  · refine ⟨hbel.os, hbel.tape, hbel.output, by simpa using hbel.size, fun g hg' => ?_⟩
    rw [heap_set _ _ _ _ _ (by omega)]
    exact hbel.block g hg'
  · have := (hb _ _ _ (by omega) h.b1).set 9 (.slice A3 (j + 1) c3)
    simpa using this
  · refine own_heap ?_ fun g h1 h2 => heap_set _ _ _ _ _ (by omega)
    rw [fm_app]
    simpa using ho
  · have h2 := h.lt
    have h3 := h1.size
    have h4 := hg.size
    simp
    omega
theorem vcut_get {w : World} {A : Option Addr} {c len : Nat} {b : List UInt8} (hb : Bs w A c b) (hlen : b.length = len) (hl : len ≤ 3000) {u : Nat} (hu : u ≤ len) :
    (c = u → Calls Try.prog 38 #[.slice A 0 0] w fun x w' => x = .returned (getV (b.drop u)).v ∧ Below w.heap.size w w') ∧
    (c ≠ u → Calls Try.prog 38 #[.slice (A.map (·.add u)) (len - u) (c - u)] w fun x w' => x = .returned (getV (b.drop u)).v ∧ Below w.heap.size w w') := by
  have hd := hb.drop u (by omega)
  have hcap := hb.cap
  have hdl : (b.drop u).length = len - u := by rw [List.length_drop, hlen]
  refine ⟨fun hc => ?_, fun hc => ?_⟩
  · have e0 : cutA A c u = A := by unfold cutA; rw [if_pos hc]
    rw [e0, hc, Nat.sub_self] at hd
    exact rvget_any A 0 0 (b.drop u) w hd (by omega) (by omega)
  · have e0 : cutA A c u = A.map (·.add u) := by unfold cutA; rw [if_neg hc]
    rw [e0] at hd
    exact rvget_any _ _ (len - u) (b.drop u) w hd hdl (by omega)

end Go.Proofs.Ytndcdidepdcmnaa.B07
end
