/-
  The document's way of reading, field by field, in plain lists: it answers as the reader does.
  The document's Get of layer 7.
  The walk of BatchGets, the document's Get being given.
  The document's Get of layer 7.
  BatchGets.
-/
import Derived.Test.YtndcdidepdcmnaaKB7Back
import Derived.Test.YtndcdidepdcmnaaKB7RefT
import Derived.Test.YtndcdidepdcmnaaKS05RefRead
import Derived.Test.YtndcdidepdcmnaaKV04RefGet
import Derived.Test.YtndcdidepdcmnaaKB7Lists
import Derived.Test.YtndcdidepdcmnaaKB7Alive
import Derived.Test.YtndcdidepdcmnaaKP06Region
section
set_option linter.unusedSimpArgs false
set_option linter.unusedVariables false
namespace Go.Proofs.Ytndcdidepdcmnaa.B07
open Go.Proofs.Ytndcdidepdcmnaa.V01 Go.Proofs.Ytndcdidepdcmnaa.Wd Go.Proofs.Ytndcdidepdcmnaa.V04 Go.Proofs.Ytndcdidepdcmnaa.P06
open Go.Proofs.Ytndcdidepdcmnaa.S05 (ix tb tx one readF)

theorem bnd_num_ok {α : Type} {l : List UInt8} {n k : Nat} (hg : getF 0 0 (nat8 l) = (n, k, 0)) (f : Nat → R7 α) (ms : Nat × Bool) : bnd num f (l, ms) = f n (l.drop k, ms) := by
  unfold bnd num
  simp [hg]
theorem bnd_num_err {α : Type} {l : List UInt8} {n k e : Nat} (hg : getF 0 0 (nat8 l) = (n, k, e)) (he : e ≠ 0) (f : Nat → R7 α) (ms : Nat × Bool) : bnd num f (l, ms) = .error e := by
  unfold bnd num
  simp [hg, he]
theorem bnd_oct_nil {α : Type} (f : Nat → R7 α) (ms : Nat × Bool) : bnd oct f ([], ms) = .error 10 := rfl
theorem bnd_oct_cons {α : Type} (f : Nat → R7 α) (x : UInt8) (r : List UInt8) (ms : Nat × Bool) : bnd oct f (x :: r, ms) = f x.toNat (r, ms) := rfl
theorem bnd_val_ok {α : Type} {l : List UInt8} {K N : Int} {S : ByteArray} {k : Nat} (hg : getV l = ⟨K, N, S, k, 0⟩) (f : V3 → R7 α) (ms : Nat × Bool) : bnd val f (l, ms) = f ⟨K, N, S⟩ (l.drop k, ms) := by
  unfold bnd val
  simp [hg]
theorem bnd_val_err {α : Type} {l : List UInt8} {K N : Int} {S : ByteArray} {k e : Nat} (hg : getV l = ⟨K, N, S, k, e⟩) (he : e ≠ 0) (f : V3 → R7 α) (ms : Nat × Bool) : bnd val f (l, ms) = .error e := by
  unfold bnd val
  simp [hg, he]

/-- a text's number -/
def fldT (t : List ByteArray) : R7 Nat := bnd num fun n => if n < t.length then bnd (met n) fun _ => ret n else err 11
def isT (j : Nat) : Bool := decide (j = 3 ∨ j = 4)
def isO (j : Nat) : Bool := decide (j = 5 ∨ j = 6)
/-- the field of a number -/
def fld (t : List ByteArray) (j : Nat) : R7 Nat := if isO j then oct else if isT j then fldT t else if j = 9 then cnt 16 else num
def flds (t : List ByteArray) : Nat → Nat → List Nat → R7 (List Nat)
  | 0, _, acc => ret acc
  | f + 1, j, acc => bnd (fld t j) fun v => flds t f (j + 1) (acc ++ [v])
def nth (vs : List Nat) (j : Nat) : Nat := vs.getD j 0
def spV (t : List ByteArray) (vs : List Nat) : Sp := ⟨nth vs 0, nth vs 1, nth vs 2, t.getD (nth vs 3) ByteArray.empty, t.getD (nth vs 4) ByteArray.empty, nth vs 5, nth vs 6, nth vs 7, nth vs 8⟩
theorem txt_fldT {α : Type} (t : List ByteArray) (f : ByteArray → R7 α) : bnd (txt t) f = bnd (fldT t) fun n => f (t.getD n ByteArray.empty) := by
  unfold txt fldT
  rw [bnd_assoc, bnd_assoc]
  congr 1
  funext n
  by_cases h : n < t.length
  · rw [if_pos h, txtK_some (List.getElem?_eq_getElem h), bnd_assoc, bnd_assoc]
    congr 1
    funext _
    rw [bnd_ret, bnd_ret]
    congr 1
    simp [List.getD_eq_getElem?_getD, h]
  · rw [if_neg h, txtK_none (List.getElem?_eq_none (by omega)), bnd_err, bnd_err]
theorem spn_flds (t : List ByteArray) : spn t = bnd (flds t 10 0 []) fun vs => bnd (atsK t (nth vs 9) []) fun l => ret (spV t vs, l) := by
  have h0 : fld t 0 = num := rfl
  have h1 : fld t 1 = num := rfl
  have h2 : fld t 2 = num := rfl
  have h3 : fld t 3 = fldT t := rfl
  have h4 : fld t 4 = fldT t := rfl
  have h5 : fld t 5 = oct := rfl
  have h6 : fld t 6 = oct := rfl
  have h7 : fld t 7 = num := rfl
  have h8 : fld t 8 = num := rfl
  have h9 : fld t 9 = cnt 16 := rfl
  simp only [flds, h0, h1, h2, h3, h4, h5, h6, h7, h8, h9, bnd_assoc, bnd_ret, List.nil_append, List.cons_append]
  unfold spn
  simp only [txt_fldT, ats, bnd_assoc]
  rfl
/-- what is asked at the end -/
theorem getB_fin {b : List UInt8} {t : List ByteArray} {k : Nat} (hl : b.length ≤ 65536) (hr : readF b = (t, k, 0)) {L : List Pn} {r : List UInt8} {ms : Nat × Bool} (h : sps t (b.drop k, 0, false) = .ok (L, (r, ms))) :
    getB b = (if r = [] ∧ texts L = t then .ok L else .error 11) ∧ (∀ x ∈ L, Fit7 t x) ∧ L.length ≤ 1024 := by
  obtain ⟨_, hn, _, _⟩ := read_inv hr
  obtain ⟨n, ⟨b1, ms1⟩, h1, h2⟩ := bnd_inv h
  obtain ⟨c1, c2, c3⟩ := cnt_inv h1
  obtain ⟨M, m1, m2, m3, m4, m5⟩ := spsK_inv hn n [] L b1 r ms1 ms h2
  simp only [List.nil_append] at m1
  subst m1
  rw [c3] at m5
  refine ⟨?_, m4, by omega⟩
  have hq := meets_eq hn m4
  rw [← m5] at hq
  obtain ⟨m, sk⟩ := ms
  unfold getB
  rw [if_neg (by omega), hr]
  simp only [ne_eq, not_true_eq_false, if_false, h, fin]
  by_cases hc : r = [] ∧ texts L = t
  · rw [if_pos hc]
    have := hq.1 hc.2
    rw [if_neg]
    rintro (h3 | h3 | h3)
    · exact h3 hc.1
    · rw [h3] at this; cases this.1
    · exact this.2 h3
  · rw [if_neg hc, if_pos]
    by_cases hr0 : r = []
    · right
      by_cases hsk : sk = true
      · exact .inl hsk
      · refine .inr (Classical.byContradiction fun hlt => hc ⟨hr0, hq.2 ⟨by simpa using hsk, hlt⟩⟩)
    · exact .inl hr0
theorem getB_err {b : List UInt8} {t : List ByteArray} {k e : Nat} (hl : b.length ≤ 65536) (hr : readF b = (t, k, 0)) (h : sps t (b.drop k, 0, false) = .error e) : getB b = .error e := by
  unfold getB
  rw [if_neg (by omega), hr]
  simp only [ne_eq, not_true_eq_false, if_false, h, fin]

/-! ### one field more -/
section
variable {α : Type} {t : List ByteArray} {j : Nat} {vs : List Nat} {K : List Nat → R7 α} {l : List UInt8} {ms : Nat × Bool}
theorem flds_step (hj : j < 10) : bnd (flds t (10 - j) j vs) K = bnd (fld t j) fun v => bnd (flds t (10 - (j + 1)) (j + 1) (vs ++ [v])) K := by
  rw [show 10 - j = 10 - (j + 1) + 1 by omega]
  conv => lhs; unfold flds
  rw [bnd_assoc]
theorem flds_err {n k e : Nat} (hj : j < 10) (hO : isO j = false) (hg : getF 0 0 (nat8 l) = (n, k, e)) (he : e ≠ 0) : bnd (flds t (10 - j) j vs) K (l, ms) = .error e := by
  rw [flds_step hj]
  unfold fld
  rw [hO, if_neg (by simp)]
  split
  · unfold fldT
    rw [bnd_assoc]
    exact bnd_num_err hg he _ _
  · split
    · unfold cnt
      rw [bnd_assoc]
      exact bnd_num_err hg he _ _
    · exact bnd_num_err hg he _ _
theorem flds_bad {n k : Nat} (hj : j < 10) (hO : isO j = false) (hg : getF 0 0 (nat8 l) = (n, k, 0)) (hb : (isT j = true ∧ t.length ≤ n) ∨ (j = 9 ∧ 16 < n)) : bnd (flds t (10 - j) j vs) K (l, ms) = .error 11 := by
  rw [flds_step hj]
  unfold fld
  rw [hO, if_neg (by simp)]
  rcases hb with ⟨h1, h2⟩ | ⟨h1, h2⟩
  · rw [if_pos h1]
    unfold fldT
    rw [bnd_assoc, bnd_num_ok hg, if_neg (by omega)]
    rfl
  · subst h1
    rw [if_neg (by decide), if_pos rfl]
    unfold cnt
    rw [bnd_assoc, bnd_num_ok hg, if_pos h2]
    rfl
theorem flds_ok {n k : Nat} (hj : j < 10) (hO : isO j = false) (hg : getF 0 0 (nat8 l) = (n, k, 0)) (h1 : isT j = true → n < t.length) (h2 : j = 9 → n ≤ 16) : ∃ ms', bnd (flds t (10 - j) j vs) K (l, ms) = bnd (flds t (10 - (j + 1)) (j + 1) (vs ++ [n])) K (l.drop k, ms') := by
  rw [flds_step hj]
  unfold fld
  rw [hO, if_neg (by simp)]
  by_cases hT : isT j = true
  · rw [if_pos hT]
    unfold fldT
    rw [bnd_assoc, bnd_num_ok hg, if_pos (h1 hT)]
    exact ⟨_, rfl⟩
  · rw [if_neg hT]
    by_cases h9 : j = 9
    · rw [if_pos h9]
      unfold cnt
      rw [bnd_assoc, bnd_num_ok hg, if_neg (by have := h2 h9; omega)]
      exact ⟨_, rfl⟩
    · rw [if_neg h9, bnd_num_ok hg]
      exact ⟨_, rfl⟩
theorem flds_O_nil (hj : j < 10) (hO : isO j = true) : bnd (flds t (10 - j) j vs) K ([], ms) = .error 10 := by
  rw [flds_step hj]
  unfold fld
  rw [hO, if_pos rfl]
  rfl
theorem flds_O_cons (hj : j < 10) (hO : isO j = true) (x : UInt8) (r : List UInt8) : bnd (flds t (10 - j) j vs) K (x :: r, ms) = bnd (flds t (10 - (j + 1)) (j + 1) (vs ++ [x.toNat])) K (r, ms) := by
  rw [flds_step hj]
  unfold fld
  rw [hO, if_pos rfl]
  rfl
end
/-- an attribute more -/
theorem atsK_err {α : Type} {t : List ByteArray} {m n k e : Nat} {acc : List At} {f : List At → R7 α} {l : List UInt8} {ms : Nat × Bool} (hg : getF 0 0 (nat8 l) = (n, k, e)) (he : e ≠ 0) : bnd (atsK t (m + 1) acc) f (l, ms) = .error e := by
  unfold atsK
  rw [bnd_assoc, txt_fldT]
  unfold fldT
  rw [bnd_assoc]
  exact bnd_num_err hg he _ _
theorem atsK_bad {α : Type} {t : List ByteArray} {m n k : Nat} {acc : List At} {f : List At → R7 α} {l : List UInt8} {ms : Nat × Bool} (hg : getF 0 0 (nat8 l) = (n, k, 0)) (hn : t.length ≤ n) : bnd (atsK t (m + 1) acc) f (l, ms) = .error 11 := by
  unfold atsK
  rw [bnd_assoc, txt_fldT]
  unfold fldT
  rw [bnd_assoc, bnd_num_ok hg, if_neg (by omega)]
  rfl
theorem atsK_val {α : Type} {t : List ByteArray} {m n k : Nat} {acc : List At} {f : List At → R7 α} {l : List UInt8} {ms : Nat × Bool} (hg : getF 0 0 (nat8 l) = (n, k, 0)) (hn : n < t.length) :
    ∃ ms', bnd (atsK t (m + 1) acc) f (l, ms) = bnd val (fun v => bnd (atsK t m (acc ++ [⟨t.getD n ByteArray.empty, v.K, v.N, v.S⟩])) f) (l.drop k, ms') := by
  refine ⟨meet ms n, ?_⟩
  conv => lhs; unfold atsK
  rw [bnd_assoc, txt_fldT]
  unfold fldT
  rw [bnd_assoc, bnd_num_ok hg, if_pos hn]
  simp only [bnd_assoc, bnd_ret]
  rfl
/-- the array of fields, as it lies -/
def arr (vs : List Nat) : Array Go.Value := ((vs ++ List.replicate (10 - vs.length) 0).map fun (x : Nat) => Go.Value.int .u64 (x : Int)).toArray
theorem arr_get {vs : List Nat} {j : Nat} (hj : j < 10) (hv : vs.length ≤ 10) : (arr vs)[j]? = some (.int .u64 ((nth vs j : Nat) : Int)) := by
  unfold arr nth
  simp only [List.getElem?_toArray, List.getElem?_map]
  by_cases h : j < vs.length
  · rw [List.getElem?_append_left h]
    simp [List.getD_eq_getElem?_getD, h]
  · rw [List.getElem?_append_right (by omega)]
    have : j - vs.length < 10 - vs.length := by omega
    simp [List.getElem?_replicate, this, List.getD_eq_getElem?_getD, h]
theorem arr_set {vs : List Nat} {v : Nat} (hv : vs.length < 10) : (arr vs).setIfInBounds vs.length (.int .u64 (v : Int)) = arr (vs ++ [v]) := by
  unfold arr
  apply Array.ext'
  simp only [Array.toList_setIfInBounds]
  have e : List.replicate (10 - vs.length) 0 = 0 :: List.replicate (10 - (vs ++ [v]).length) 0 := by
    rw [show 10 - vs.length = 10 - (vs ++ [v]).length + 1 by simp; omega]
    rfl
  rw [e]
  simp
end Go.Proofs.Ytndcdidepdcmnaa.B07
end

section
set_option linter.unusedSimpArgs false
set_option linter.unusedVariables false
namespace Go.Proofs.Ytndcdidepdcmnaa.B07
open Go.RowKit Go.Lib Go.Maps Go.Proofs.Ytndcdidepdcmnaa.Wd Go.Proofs.Ytndcdidepdcmnaa.V01 Go.Proofs.Ytndcdidepdcmnaa.V04 Go.Proofs.Ytndcdidepdcmnaa.P06
open Go.Proofs.Ytndcdidepdcmnaa.S05 (Fr Sub refread_any Told2 readF)

/-- what the document's Get answers, in memory -/
def RGetOut (w : World) (r : Except Nat (List Pn)) (x : Ending) (w' : World) : Prop :=
  (match r with
   | .error e => e ≠ 0 ∧ x = .returned (.tuple #[.slice none 0 0, .int .i64 (e : Int)])
   | .ok L => ∃ A c Ls, x = .returned (.tuple #[.slice A L.length c, .int .i64 0]) ∧ pns Ls = L ∧ OwnS w.heap.size 53 w' A c Ls ∧ (∀ y ∈ L, y.2.length ≤ 16) ∧ L.length ≤ 1024) ∧ Below w.heap.size w w'

/-- a cut of the bytes, and the number that it begins with -/
theorem cut_get {w : World} {A : Option Addr} {c len : Nat} {b : List UInt8} (hb : Bs w A c b) (hlen : b.length = len) (hl : len ≤ 65536) {u n k e : Nat} (hu : u ≤ len) (hg : getF 0 0 (nat8 (b.drop u)) = (n, k, e)) :
    (c = u → Calls Try.prog 37 #[.slice A 0 0] w fun x w' => x = .returned (.tuple #[.int .u64 n, .int .i64 k, .int .i64 e]) ∧ w = w') ∧
    (c ≠ u → Calls Try.prog 37 #[.slice (A.map (·.add u)) (len - u) (c - u)] w fun x w' => x = .returned (.tuple #[.int .u64 n, .int .i64 k, .int .i64 e]) ∧ w = w') := by
  have hd := hb.drop u (by omega)
  have hcap := hb.cap
  have hdl : (b.drop u).length = len - u := by rw [List.length_drop, hlen]
  refine ⟨fun hc => ?_, fun hc => ?_⟩
  · have e0 : cutA A c u = A := by unfold cutA; rw [if_pos hc]
    rw [e0, hc, Nat.sub_self] at hd
    exact S05.rget_at A 0 0 (b.drop u) n k e w hd (by omega) (by omega) hg
  · have e0 : cutA A c u = A.map (·.add u) := by unfold cutA; rw [if_neg hc]
    rw [e0] at hd
    exact S05.rget_at _ _ (len - u) (b.drop u) n k e w hd hdl (by omega) hg

/-- where the loop over spans is -/
structure GL (w1 : World) (X : Except Nat (List Pn × S7)) (b : List UInt8) (t : List ByteArray) (n i u : Nat) (A : Option Addr) (c : Nat) (L : List Spn) (wr : World) : Prop where
  own : OwnS w1.heap.size 53 wr A c L
  len : L.length = i
  sm : ∀ x ∈ L, x.l.length ≤ 16
  bel : Below w1.heap.size w1 wr
  hu : u ≤ b.length
  eq : ∃ ms, X = spsK t (n - i) (pns L) (b.drop u, ms)

/-- where the loop over a span's fields is -/
structure FL (W0 : World) (X : Except Nat (List Pn × S7)) (b : List UInt8) (t : List ByteArray) (K : List Nat → R7 (List Pn)) (j u : Nat) (vs : List Nat) (wr : World) : Prop where
  len : vs.length = j
  hj : j ≤ 10
  bel : Below W0.heap.size W0 wr
  b1 : Bk wr W0.heap.size 53 zsp
  b2 : Bk wr (W0.heap.size + 1) 87 (arr vs)
  hu : u ≤ b.length
  eq : ∃ ms, X = bnd (flds t (10 - j) j vs) K (b.drop u, ms)
  rng : ∀ x ∈ vs, x ≤ 18446744073709551615
  t3 : 3 < j → nth vs 3 < t.length
  t4 : 4 < j → nth vs 4 < t.length
  o5 : 5 < j → nth vs 5 < 256
  o6 : 6 < j → nth vs 6 < 256
  c9 : 9 < j → nth vs 9 ≤ 16
theorem nth_app {vs : List Nat} {v k : Nat} : nth (vs ++ [v]) k = if k = vs.length then v else nth vs k := by
  unfold nth
  simp only [List.getD_eq_getElem?_getD]
  by_cases h : k < vs.length
  · rw [List.getElem?_append_left h, if_neg (by omega)]
  · by_cases h1 : k = vs.length
    · rw [if_pos h1, h1]; simp
    · rw [if_neg h1, List.getElem?_eq_none (by simp; omega), List.getElem?_eq_none (by omega)]
theorem FL.start (W0 : World) {X : Except Nat (List Pn × S7)} {b : List UInt8} {t : List ByteArray} {K : List Nat → R7 (List Pn)} {u : Nat} {ms : Nat × Bool} (hu : u ≤ b.length) (heq : X = bnd (flds t 10 0 []) K (b.drop u, ms)) :
    FL W0 X b t K 0 u [] ((W0.alloc (.cells zsp 53)).alloc (.cells (arr []) 87)) := by
  refine ⟨rfl, by omega, by go_grown, ?_, ?_, hu, ⟨_, heq⟩, fun _ h => (by cases h), fun h => (by omega), fun h => (by omega), fun h => (by omega), fun h => (by omega), fun h => (by omega)⟩
  · exact (Bk.new W0 _ _).below ((Below.refl _ _).alloc (Nat.le_refl _) _)
  · simpa using Bk.new (W0.alloc (.cells zsp 53)) 87 (arr [])
theorem FL.next {W0 : World} {X : Except Nat (List Pn × S7)} {b : List UInt8} {t : List ByteArray} {K : List Nat → R7 (List Pn)} {j u : Nat} {vs : List Nat} {wr : World} (h : FL W0 X b t K j u vs wr) {v u' : Nat} (hj : j < 10) (hv : v ≤ 18446744073709551615) (hu : u' ≤ b.length)
    (heq : ∃ ms, X = bnd (flds t (10 - (j + 1)) (j + 1) (vs ++ [v])) K (b.drop u', ms)) (hT : isT j = true → v < t.length) (hO : isO j = true → v < 256) (h9 : j = 9 → v ≤ 16) :
    FL W0 X b t K (j + 1) u' (vs ++ [v]) (wr.setCell ⟨W0.heap.size + 1, j, none⟩ (.int .u64 v)) := by
  have hl := h.len
  refine ⟨by simp [hl], by omega, ?_, h.b1.other _ _ _ (by omega), ?_, hu, heq, ?_, ?_, ?_, ?_, ?_, ?_⟩
  · refine ⟨h.bel.os, h.bel.tape, h.bel.output, by simpa using h.bel.size, fun g hg => ?_⟩
    rw [heap_set _ _ _ _ _ (by omega)]
    exact h.bel.block g hg
  · have := h.b2.set j (.int .u64 (v : Int))
    rw [← hl, arr_set (by omega)] at this
    rw [← hl]
    exact this
  · intro x hx
    rcases List.mem_append.1 hx with hx | hx
    · exact h.rng x hx
    · simp at hx; omega
  all_goals
    intro hlt
    rw [nth_app, hl]
    split
  · next e => exact hT (by rw [← e]; rfl)
  · exact h.t3 (by omega)
  · next e => exact hT (by rw [← e]; rfl)
  · exact h.t4 (by omega)
  · next e => exact hO (by rw [← e]; rfl)
  · exact h.o5 (by omega)
  · next e => exact hO (by rw [← e]; rfl)
  · exact h.o6 (by omega)
  · next e => exact h9 e.symm
  · exact h.c9 (by omega)

theorem blk_add (a : Addr) (n : Nat) : (a.add n).block = a.block := by unfold Addr.add; split <;> rfl
/-- nine set -/
def put9 (w : World) (g : Nat) (s : Sp) : World :=
  ((((((((w.setCell ⟨g, 0, none⟩ (.int .u64 s.T)).setCell ⟨g, 1, none⟩ (.int .u64 s.I)).setCell ⟨g, 2, none⟩ (.int .u64 s.P)).setCell ⟨g, 3, none⟩ (.string s.sv)).setCell ⟨g, 4, none⟩ (.string s.nm)).setCell ⟨g, 5, none⟩ (.int .i64 s.kd)).setCell ⟨g, 6, none⟩ (.int .i64 s.st)).setCell ⟨g, 7, none⟩ (.int .u64 s.t0)).setCell ⟨g, 8, none⟩ (.int .u64 s.t1)
theorem heap_put9 (w : World) (b : Nat) (s : Sp) (g : Nat) (hne : b ≠ g) : (put9 w b s).heap[g]? = w.heap[g]? := by
  unfold put9
  simp only [heap_set _ _ _ _ _ hne]
theorem size_put9 (w : World) (b : Nat) (s : Sp) : (put9 w b s).heap.size = w.heap.size := by
  unfold put9
  simp
theorem bk_put9 {w : World} {g : Nat} {t : TypeId} (h : Bk w g t zsp) (s : Sp) : Bk (put9 w g s) g t (spc s (.slice none 0 0)) := by
  have := ((((((((h.set 0 (.int .u64 s.T)).set 1 (.int .u64 s.I)).set 2 (.int .u64 s.P)).set 3 (.string s.sv)).set 4 (.string s.nm)).set 5 (.int .i64 s.kd)).set 6 (.int .i64 s.st)).set 7 (.int .u64 s.t0)).set 8 (.int .u64 s.t1)
  unfold put9
  simpa using this
theorem put9_os (w : World) (g : Nat) (s : Sp) : (put9 w g s).os = w.os ∧ (put9 w g s).tape = w.tape ∧ (put9 w g s).output = w.output := by
  unfold put9
  simp [World.setCell]
/-- where the loop over a span's attributes is -/
structure AL (W0 : World) (X : Except Nat (List Pn × S7)) (b : List UInt8) (t : List ByteArray) (K2 : List At → R7 (List Pn)) (vs : List Nat) (s : Sp) (N j u : Nat) (A : Option Addr) (c : Nat) (l : List At) (wr : World) : Prop where
  len : l.length = j
  bel : Below W0.heap.size W0 wr
  b1 : Bk wr W0.heap.size 53 (spc s (.slice A j c))
  b2 : Bk wr (W0.heap.size + 1) 87 (arr vs)
  own : wr.ownsRow (W0.heap.size + 1 + 1) 58 4 (.slice A j c) j (l.flatMap enc)
  lt : W0.heap.size + 1 + 1 ≤ wr.heap.size
  hu : u ≤ b.length
  eq : ∃ ms, X = bnd (atsK t (N - j) l) K2 (b.drop u, ms)
theorem AL.start {W0 : World} {X : Except Nat (List Pn × S7)} {b : List UInt8} {t : List ByteArray} {K : List Nat → R7 (List Pn)} {K2 : List At → R7 (List Pn)} {u : Nat} {vs : List Nat} {wr : World} (h : FL W0 X b t K 10 u vs wr) (s : Sp) {N : Nat} (hK : K vs = bnd (atsK t N []) K2) :
    AL W0 X b t K2 vs s N 0 u none 0 [] (put9 wr W0.heap.size s) := by
  obtain ⟨ms, heq⟩ := h.eq
  have heq : X = K vs (b.drop u, ms) := heq
  have ho := put9_os wr W0.heap.size s
  refine ⟨rfl, ⟨ho.1.trans h.bel.os, ho.2.1.trans h.bel.tape, ho.2.2.trans h.bel.output, by rw [size_put9]; exact h.bel.size, fun g hg => ?_⟩, bk_put9 h.b1 s, ?_, ⟨by simp, .inl ⟨rfl, rfl⟩⟩, ?_, h.hu, ms, by rw [heq, hK]; rfl⟩
  · rw [heap_put9 _ _ _ _ (by omega)]
    exact h.bel.block g hg
  · unfold Bk
    rw [heap_put9 _ _ _ _ (by omega)]
    exact h.b2
  · rw [size_put9]
    exact h.b2.lt
theorem AL.step {W0 : World} {X : Except Nat (List Pn × S7)} {b : List UInt8} {t : List ByteArray} {K2 : List At → R7 (List Pn)} {vs : List Nat} {s : Sp} {N j u : Nat} {A : Option Addr} {c : Nat} {l : List At} {wr w1 w2 : World} (h : AL W0 X b t K2 vs s N j u A c l wr) {A3 : Option Addr} {c3 u' : Nat} {x : At}
    (h1 : Below wr.heap.size wr w1) (hg : w1.grownBy w2 (Value.slice A j c).ownBlock) (ho : w2.ownsRow (W0.heap.size + 1 + 1) 58 4 (.slice A3 (j + 1) c3) (j + 1) (l.flatMap enc ++ enc x)) (hu : u' ≤ b.length)
    (heq : ∃ ms, X = bnd (atsK t (N - (j + 1)) (l ++ [x])) K2 (b.drop u', ms)) :
    AL W0 X b t K2 vs s N (j + 1) u' A3 c3 (l ++ [x]) (w2.setCell ⟨W0.heap.size, 9, none⟩ (.slice A3 (j + 1) c3)) := by
  have hb : ∀ (g : Nat) (t : TypeId) (cs : Array Value), g < W0.heap.size + 1 + 1 → Bk wr g t cs → Bk w2 g t cs := fun g t cs hlt hB => by
    have hB1 := hB.below h1
    unfold Bk at *
    rw [hg.block g (Array.getElem?_eq_some_iff.1 hB1).1 (fun e => by have := (h.own.lt g e.symm).1; omega)]
    exact hB1
  have hbel : Below W0.heap.size W0 w2 := by
    have := (h.bel.trans (h1.mono (h.bel.size)))
    exact this.grown hg this.size fun j hj => by have := (h.own.lt j hj).1; omega
  refine ⟨by simp [h.len], ?_, ?_, (hb _ _ _ (by omega) h.b2).other _ _ _ (by omega), ?_, ?_, hu, heq⟩
  · refine ⟨hbel.os, hbel.tape, hbel.output, by simpa using hbel.size, fun g hg' => ?_⟩
    rw [heap_set _ _ _ _ _ (by omega)]
    exact hbel.block g hg'
  · have := (hb _ _ _ (by omega) h.b1).set 9 (.slice A3 (j + 1) c3)
    simpa using this
  · refine own_heap ?_ fun g h1 h2 => heap_set _ _ _ _ _ (by omega)
    rw [fm_app]
    simpa using ho
  · have h2 := h.lt
    have h3 := h1.size
    have h4 := hg.size
    simp
    omega
theorem vcut_get {w : World} {A : Option Addr} {c len : Nat} {b : List UInt8} (hb : Bs w A c b) (hlen : b.length = len) (hl : len ≤ 3000) {u : Nat} (hu : u ≤ len) :
    (c = u → Calls Try.prog 38 #[.slice A 0 0] w fun x w' => x = .returned (getV (b.drop u)).v ∧ Below w.heap.size w w') ∧
    (c ≠ u → Calls Try.prog 38 #[.slice (A.map (·.add u)) (len - u) (c - u)] w fun x w' => x = .returned (getV (b.drop u)).v ∧ Below w.heap.size w w') := by
  have hd := hb.drop u (by omega)
  have hcap := hb.cap
  have hdl : (b.drop u).length = len - u := by rw [List.length_drop, hlen]
  refine ⟨fun hc => ?_, fun hc => ?_⟩
  · have e0 : cutA A c u = A := by unfold cutA; rw [if_pos hc]
    rw [e0, hc, Nat.sub_self] at hd
    exact rvget_any A 0 0 (b.drop u) w hd (by omega) (by omega)
  · have e0 : cutA A c u = A.map (·.add u) := by unfold cutA; rw [if_neg hc]
    rw [e0] at hd
    exact rvget_any _ _ (len - u) (b.drop u) w hd hdl (by omega)

end Go.Proofs.Ytndcdidepdcmnaa.B07
end

section
set_option linter.unusedSimpArgs false
set_option linter.unusedVariables false
namespace Go.Proofs.Ytndcdidepdcmnaa.B07
open Go.RowKit Go.Lib Go.Maps Go.Proofs.Ytndcdidepdcmnaa.Wd Go.Proofs.Ytndcdidepdcmnaa.V01 Go.Proofs.Ytndcdidepdcmnaa.V04 Go.Proofs.Ytndcdidepdcmnaa.P06 Go.Proofs.Ytndcdidepdcmnaa.Q07

set_option maxRecDepth 20000 in
set_option maxHeartbeats 8000000 in
theorem gets_walk (hrg : ∀ (A : Option Addr) (c len : Nat) (b : List UInt8) (w : World), Bs w A c b → b.length = len → len ≤ 3000 → Calls Try.prog 14 #[.slice A len c] w (RGetOut w (getB b)))
    (B : Option Addr) (d : Nat) (b : List UInt8) (w : World) (hB : Bs w B d b) :
    Calls Try.prog 4 #[.slice B b.length d] w fun e w' => e = .returned (.bool true) ∧ Below w.heap.size w w' := by
  have hmax : b.length ≤ 9223372036854775807 := by
    have h3 := hB.max
    have h4 := hB.cap
    unfold maxLen at h3
    omega
  obtain ⟨len, hlen⟩ : ∃ n, b.length = n := ⟨_, rfl⟩
  rw [hlen] at hmax ⊢
  have HLen := Lib.hid hlen
  have HRG := Lib.hid hrg
  clear hlen hrg
  go_enter Try.func4, Try.ntmps4
  go_wp2_with fail
  refine (alive_any _).mono ?_
  rintro e w1 ⟨rfl, b1⟩
  have hB1 := hB.below b1
  clear hB
  by_cases h3 : 3000 < len
  · have hz3 : (3000 : Int) < (len : Int) := by omega
    go_wp2
    go_ret
    exact ⟨rfl, b1⟩
  · have hz3 : ¬ ((3000 : Int) < (len : Int)) := by omega
    have hgb := get_any B d len b w1 hB1 HLen.out (by omega)
    go_wp2_with fail
    refine hgb.mono ?_
    rintro e w2 ⟨h2, b2⟩
    have bb2 := b1.trans (b2.mono b1.size)
    have hB2 := hB1.below b2
    have hg2 := HRG.out B d len b w2 hB2 HLen.out (by omega)
    clear hgb hB1 b1
    cases hgr : getB b with
    | error f =>
      rw [hgr] at h2 hg2
      obtain ⟨hf0, rfl⟩ := h2
      clear hgr
      go_wp2_with fail
      refine hg2.mono ?_
      rintro e w3 ⟨⟨hf1, rfl⟩, b3⟩
      have bb3 := bb2.trans (b3.mono bb2.size)
      have hto := tos_any w3 none 0 0 [] (Sps.nil _) rfl (by omega) (fun x hx => (by cases hx))
      clear hg2
      go_wp2_with fail
      refine hto.mono ?_
      rintro e w6 ⟨A6, c6, M6, rfl, hM6, hMp6, own6, b6⟩
      have bb6 := bb3.trans (b6.mono bb3.size)
      have hM0 : M6 = [] := List.eq_nil_of_length_eq_zero hM6
      have hsm := sames_any w6 A6 none c6 0 0 0 M6 [] true own6.sps (Sps.nil _) hM6 rfl (by omega) (by omega) (fun x hx => by rw [hM0] at hx; cases hx) (fun x hx => (by cases hx)) (by rw [hM0]; simp)
      clear hto own6
      go_wp2_with fail
      refine hsm.mono ?_
      rintro e w7 ⟨rfl, b7⟩
      have bb7 := bb6.trans (b7.mono bb6.size)
      go_wp2
      go_ret
      exact ⟨rfl, bb7⟩
    | ok X =>
      rw [hgr] at h2 hg2
      obtain ⟨A5, c5, Ls, rfl, hLs, own5, hL16, hL1024⟩ := h2
      clear hgr
      obtain ⟨nx, hnx⟩ : ∃ nx, X.length = nx := ⟨_, rfl⟩
      have HNX := Lib.hid hnx
      rw [hnx] at hL1024
      go_wp2_with fail
      refine hg2.mono ?_
      rintro e w3 ⟨⟨A8, c8, Ms, rfl, hMs, own8, -, -⟩, b3⟩
      have bb3 := bb2.trans (b3.mono bb2.size)
      have hS3 := own5.sps.below b3
      have hLsl : Ls.length = nx := by rw [← pns_len, hLs, HNX.out]
      have hMsl : Ms.length = nx := by rw [← pns_len, hMs, HNX.out]
      have h16 : ∀ (Q : List Spn), pns Q = X → ∀ x ∈ Q, x.l.length ≤ 40 := fun Q hQ x hx => by
        have h1 : x.pn ∈ pns Q := List.mem_map.2 ⟨x, hx, rfl⟩
        rw [hQ] at h1
        have := hL16 _ h1
        have h2 : x.l.length ≤ 16 := this
        omega
      have hto := tos_any w3 A5 c5 nx Ls hS3 hLsl (by omega) (h16 Ls hLs)
      clear hg2 own5
      rw [hnx]
      clear hnx
      go_wp2_with fail
      refine hto.mono ?_
      rintro e w6 ⟨A6, c6, M6, rfl, hM6, hMp6, own6, b6⟩
      have bb6 := bb3.trans (b6.mono bb3.size)
      have hS6 := own8.sps.below b6
      have hsm := sames_any w6 A6 A8 c6 c8 nx nx M6 Ms true own6.sps hS6 hM6 hMsl (by omega) (by omega) (h16 M6 (by rw [hMp6, hLs])) (h16 Ms hMs) (by rw [hMp6, hLs, hMs]; simp)
      clear hto own6 hS3 own8
      go_wp2_with fail
      refine hsm.mono ?_
      rintro e w7 ⟨rfl, b7⟩
      have bb7 := bb6.trans (b7.mono bb6.size)
      go_wp2
      go_ret
      exact ⟨rfl, bb7⟩
end Go.Proofs.Ytndcdidepdcmnaa.B07
end

section
set_option linter.unusedSimpArgs false
set_option linter.unusedVariables false
namespace Go.Proofs.Ytndcdidepdcmnaa.B07
open Go.RowKit Go.Lib Go.Maps Go.Proofs.Ytndcdidepdcmnaa.Wd Go.Proofs.Ytndcdidepdcmnaa.V01 Go.Proofs.Ytndcdidepdcmnaa.V04 Go.Proofs.Ytndcdidepdcmnaa.P06
open Go.Proofs.Ytndcdidepdcmnaa.S05 (Fr Sub refread_any Told2 readF)

set_option maxRecDepth 20000 in
set_option maxHeartbeats 16000000 in
theorem rgetb_any (A : Option Addr) (c len : Nat) (b : List UInt8) (w : World) (hb : Bs w A c b) (hlen : b.length = len) (hl : len ≤ 3000) : Calls Try.prog 14 #[.slice A len c] w (RGetOut w (getB b)) := by
  have mixed : Try.prog.follows .mixedOrders = true := by kernel_rfl
  obtain ⟨i0, hi, hz0, hz1, hz2⟩ := info_parts rspan_info
  obtain ⟨i1, hi1, hy0, hy1, hy2⟩ := info_parts rattr_info
  have hz : ¬ ((65536 : Int) < (len : Int)) := by omega
  have hrd := refread_any A c len b w hb hlen (by omega)
  have hcap := hb.cap
  have hmax := hb.max
  unfold maxLen at hmax
  rw [hlen] at hcap
  obtain ⟨⟨t, k0, e0⟩, hr⟩ : ∃ r, readF b = r := ⟨_, rfl⟩
  have hle := readF_le b
  rw [hr] at hrd hle
  dsimp only at hle
  rw [hlen] at hle
  have HL := Lib.hid hlen
  go_enter Try.func14, Try.ntmps14
  go_wp2_with fail
  refine hrd.mono ?_
  rintro x w1 ⟨hT, b1⟩
  have hb1 := hb.below b1
  clear hrd hb
  rcases hT with ⟨he, rfl⟩ | ⟨he, At, ct, rfl, ownt⟩
  · dsimp only at he ⊢
    have hez : ¬ ((e0 : Int) = 0) := by omega
    have hgb : getB b = .error e0 := by
      unfold getB
      rw [if_neg (by omega), hr]
      exact if_pos he
    have HG := Lib.hid hgb
    clear hgb hr
    go_wp2
    go_ret2
    rw [HG.out]
    exact ⟨⟨he, rfl⟩, b1⟩
  · dsimp only at he ownt ⊢
    subst he
    have hnd := (read_inv hr).2.1
    have ht4 := (read_inv hr).2.2.1
    have htz := (read_inv hr).2.2.2
    have hSt := Ss.own ownt
    obtain ⟨lt, hlt⟩ : ∃ lt, t.length = lt := ⟨_, rfl⟩
    obtain ⟨X, hX⟩ : ∃ X, sps t (b.drop k0, 0, false) = X := ⟨_, rfl⟩
    have hXe := fun (e : Nat) (h : X = .error e) => getB_err (by omega) hr (hX.trans h)
    have hXo := fun (L : List Pn) (r : List UInt8) (ms : Nat × Bool) (h : X = .ok (L, (r, ms))) => getB_fin (by omega) hr (hX.trans h)
    obtain ⟨⟨n, kn, en⟩, hgn⟩ : ∃ r, getF 0 0 (nat8 (b.drop k0)) = r := ⟨_, rfl⟩
    have hk0 : k0 ≤ len := hle.2 rfl
    obtain ⟨cg1, cg2⟩ := cut_get hb1 HL.out (by omega) hk0 hgn
    have hgb := getF_le (b.drop k0)
    rw [hgn, List.length_drop, HL.out] at hgb
    dsimp only at hgb
    rw [hlt] at ownt ht4 ⊢
    have HLT := Lib.hid hlt
    have HXE := Lib.hid hXe
    have HXO := Lib.hid hXo
    have HX := Lib.hid hX
    have HGN := Lib.hid hgn
    have y0 : (0 : Int) ≤ (k0 : Int) := by omega
    have y1 : ((k0 : Int)).toNat = k0 := by omega
    have y2 : (k0 : Int) ≤ (len : Int) := by omega
    have y3 : (len : Int) ≤ (c : Int) := by omega
    have HGB := Lib.hid hgb
    have HND := Lib.hid hnd
    have HTZ := Lib.hid htz
    have hkn : kn ≤ len - k0 := hgb.2.1
    clear hlt hr hXe hXo hX hgn hle ownt hgb hnd htz hmax
    by_cases hcu : c = k0
    · -- nothing is left: the number lacks
      have hd0 : b.drop k0 = [] := List.drop_of_length_le (by rw [HL.out]; omega)
      have hen : n = 0 ∧ kn = 0 ∧ en = 10 := by
        have := HGN.out
        rw [hd0] at this
        injection this with h1 h2
        injection h2 with h2 h3
        exact ⟨h1.symm, h2.symm, h3.symm⟩
      obtain ⟨rfl, rfl, rfl⟩ := hen
      have hXv : X = .error 10 := by
        rw [← HX.out]
        unfold sps cnt
        rw [bnd_assoc]
        exact bnd_num_err HGN.out (by decide) _ _
      have hgbv := HXE.out 10 hXv
      have HG := Lib.hid hgbv
      have hl0 : len = k0 := by omega
      have cg := cg1 hcu
      clear hgbv hXv cg1 cg2
      subst hcu
      subst hl0
      go_wp2_with fail
      refine cg.mono ?_
      rintro x w2 ⟨rfl, rfl⟩
      clear cg
      go_wp2
      go_ret2
      rw [HG.out]
      exact ⟨⟨by decide, rfl⟩, b1⟩
    · have hcuz : ¬ ((c : Int) = (k0 : Int)) := by omega
      have cg := cg2 hcu
      clear cg1 cg2
      go_wp2_with fail
      refine cg.mono ?_
      rintro x w2 ⟨rfl, rfl⟩
      clear cg
      by_cases hen : en = 0
      · subst hen
        by_cases hn24 : 1024 < n
        · have hnz : (1024 : Int) < (n : Int) := by omega
          have hXv : X = .error 11 := by
            rw [← HX.out]
            unfold sps cnt
            rw [bnd_assoc, bnd_num_ok HGN.out, if_pos hn24]
            rfl
          have hgbv := HXE.out 11 hXv
          have HG := Lib.hid hgbv
          clear hgbv hXv
          go_wp2
          go_ret2
          rw [HG.out]
          exact ⟨⟨by decide, rfl⟩, b1⟩
        · have hnz : ¬ ((1024 : Int) < (n : Int)) := by omega
          have hXv : X = spsK t n [] (b.drop (k0 + kn), 0, false) := by
            rw [← HX.out]
            unfold sps cnt
            rw [bnd_assoc, bnd_num_ok HGN.out, if_neg hn24, List.drop_drop]
            rfl
          have hR0 : GL w1 X b t n 0 (k0 + kn) none 0 [] w1 := ⟨OwnS.nil _ _ _, rfl, fun _ h => (by cases h), Below.refl _ _, by rw [HL.out]; omega, _, hXv⟩
          have hkk : k0 + kn ≤ len := by omega
          have hnw : n ≤ 1024 := by omega
          clear hXv HX HGN
          go_wp2_with fail
          go_loopw [5, 10, 11] (fun v5 v10 v11 wr => ∃ (u i : Nat) (Al : Option Addr) (cl : Nat) (L : List Spn), v5 = .int .i64 (u : Nat) ∧ v10 = .slice Al i cl ∧ v11 = .int .i64 (i : Nat) ∧ i ≤ n ∧ GL w1 X b t n i u Al cl L wr) (fun _ _ v _ => n - (intOf v).toNat)
          case atStart => exact ⟨k0 + kn, 0, none, 0, [], by simp, rfl, rfl, Nat.zero_le _, hR0⟩
          case round =>
            obtain ⟨u, i, Al, cl, L, rfl, rfl, rfl, hin, R⟩ := hrel
            by_cases hlt : i < n
            · have hltz : (i : Int) < (n : Int) := by omega
              obtain ⟨ms0, hX0⟩ := R.eq
              have hX1 : X = bnd (flds t 10 0 []) (fun vs => bnd (atsK t (nth vs 9) []) fun l => spsK t (n - (i + 1)) (pns L ++ [(spV t vs, l)])) (b.drop u, ms0) := by
                rw [hX0, show n - i = n - (i + 1) + 1 by omega]
                conv => lhs; unfold spsK
                rw [spn_flds, bnd_assoc]
                simp only [bnd_assoc, bnd_ret]
              obtain ⟨K, hK⟩ : ∃ K : List Nat → R7 (List Pn), (fun vs => bnd (atsK t (nth vs 9) []) fun l => spsK t (n - (i + 1)) (pns L ++ [(spV t vs, l)])) = K := ⟨_, rfl⟩
              rw [hK] at hX1
              have hF0 := FL.start wr R.hu hX1
              have HK := Lib.hid hK
              clear hX0 hX1 hK
              obtain ⟨W0, rfl⟩ : ∃ W0, W0 = wr := ⟨wr, rfl⟩
              go_wp2_with fail
              go_loopw [5, 14] (fun v5 v14 wq => ∃ (u j : Nat) (vs : List Nat), v5 = .int .i64 (u : Nat) ∧ v14 = .int .i64 (j : Nat) ∧ FL W0 X b t K j u vs wq) (fun _ v _ => 10 - (intOf v).toNat)
              case atStart => exact ⟨u, 0, [], rfl, rfl, hF0⟩
              case round =>
                clear hF0 hR0
                obtain ⟨p, j, vs, rfl, rfl, F⟩ := hrel
                have hpl := F.hu
                rw [HL.out] at hpl
                have hj10 := F.hj
                have bA : Below w.heap.size w wr := b1.trans ((R.bel.trans (F.bel.mono R.bel.size)).mono b1.size)
                have hbw := hb1.below (R.bel.trans (F.bel.mono R.bel.size))
                by_cases hjl : j < 10
                · have hjz : (j : Int) < 10 := by omega
                  obtain ⟨xj, hcj⟩ : ∃ x, wr.cell? ⟨W0.heap.size + 1, j, none⟩ = some x := ⟨_, (F.b2.cell j).trans (arr_get hjl (by rw [F.len]; omega))⟩
                  have hfj : wr.frozen? ⟨W0.heap.size + 1, j, none⟩ = false := F.b2.frozen j
                  obtain ⟨msj, hXj⟩ := F.eq
                  have HXJ := Lib.hid hXj
                  clear hXj
                  have v1 : (0 : Int) ≤ (j : Int) := by omega
                  have p1 : (0 : Int) ≤ (p : Int) := by omega
                  by_cases hO : isO j = true
                  · by_cases hp : p < len
                    · have hpz : (p : Int) < (len : Int) := by omega
                      have hpn : ¬ ((len : Int) ≤ (p : Int)) := by omega
                      have hpb : p < b.length := by rw [HL.out]; exact hp
                      obtain ⟨ad, rfl, hcb⟩ := hbw.get hpb
                      have hd : b.drop p = b[p] :: b.drop (p + 1) := List.drop_eq_getElem_cons hpb
                      have hXn := HXJ.out
                      rw [hd, flds_O_cons hjl hO] at hXn
                      have hlt8 : b[p].toNat < 256 := UInt8.toNat_lt _
                      have hN := F.next (v := b[p].toNat) (u' := p + 1) hjl (by omega) (by omega) ⟨_, hXn⟩ (fun h => (by exfalso; revert h hO; unfold isT isO; simp; omega)) (fun _ => hlt8) (fun h => (by exfalso; revert hO; unfold isO; simp; omega))
                      obtain ⟨bv, hbv⟩ : ∃ bv, b[p].toNat = bv := ⟨_, rfl⟩
                      rw [hbv] at hcb hN hlt8
                      clear hd hXn hbv
                      have hj56 : j = 5 ∨ j = 6 := by unfold isO at hO; simpa using hO
                      rcases hj56 with rfl | rfl
                      · go_wp2
                        exact ⟨⟨p + 1, 6, _, by simp, rfl, hN⟩, by simp [intOf]⟩
                      · go_wp2
                        exact ⟨⟨p + 1, 7, _, by simp, rfl, hN⟩, by simp [intOf]⟩
                    · have hpz : (len : Int) ≤ (p : Int) := by omega
                      have hd : b.drop p = [] := List.drop_of_length_le (by rw [HL.out]; omega)
                      have hXn := HXJ.out
                      rw [hd, flds_O_nil hjl hO] at hXn
                      have HG := Lib.hid (HXE.out _ hXn)
                      clear hd hXn
                      have hj56 : j = 5 ∨ j = 6 := by unfold isO at hO; simpa using hO
                      rcases hj56 with rfl | rfl
                      · go_wp2
                        go_ret2
                        rw [HG.out]
                        exact ⟨⟨by decide, rfl⟩, bA⟩
                      · go_wp2
                        go_ret2
                        rw [HG.out]
                        exact ⟨⟨by decide, rfl⟩, bA⟩
                  · have hO' : isO j = false := by simpa using hO
                    have hj5 : ¬ (j = 5 ∨ j = 6) := by unfold isO at hO; simpa using hO
                    have hn5 : ¬ ((j : Int) = 5) := by omega
                    have hn6 : ¬ ((j : Int) = 6) := by omega
                    have hm5 : ((j : Int) == 5) = false := by simp; omega
                    have hm6 : ((j : Int) == 6) = false := by simp; omega
                    obtain ⟨⟨m, k, e⟩, hg⟩ : ∃ r, getF 0 0 (nat8 (b.drop p)) = r := ⟨_, rfl⟩
                    obtain ⟨cg1, cg2⟩ := cut_get hbw HL.out (by omega) hpl hg
                    have hgb := getF_le (b.drop p)
                    rw [hg, List.length_drop, HL.out] at hgb
                    dsimp only at hgb
                    have y11 : ((p : Int)).toNat = p := by omega
                    have y12 : (p : Int) ≤ (len : Int) := by omega
                    obtain ⟨hm64, hkl, -⟩ := hgb
                    have HG0 := Lib.hid hg
                    clear hg
                    by_cases hcp : c = p
                    · have hd0 : b.drop p = [] := List.drop_of_length_le (by rw [HL.out]; omega)
                      have hen : m = 0 ∧ k = 0 ∧ e = 10 := by
                        have := HG0.out
                        rw [hd0] at this
                        injection this with h1 h2
                        injection h2 with h2 h3
                        exact ⟨h1.symm, h2.symm, h3.symm⟩
                      obtain ⟨rfl, rfl, rfl⟩ := hen
                      have HG := Lib.hid (HXE.out _ (HXJ.out.trans (flds_err hjl hO' HG0.out (by decide))))
                      have hl0 : len = p := by omega
                      have cg := cg1 hcp
                      clear cg1 cg2
                      subst hcp
                      subst hl0
                      go_wp2_with fail
                      refine cg.mono ?_
                      rintro x w2 ⟨rfl, rfl⟩
                      clear cg
                      go_wp2
                      go_ret2
                      rw [HG.out]
                      exact ⟨⟨by decide, rfl⟩, bA⟩
                    · have hcpz : ¬ ((c : Int) = (p : Int)) := by omega
                      have cg := cg2 hcp
                      clear cg1 cg2
                      go_wp2_with fail
                      refine cg.mono ?_
                      rintro x w2 ⟨rfl, rfl⟩
                      clear cg
                      by_cases hen : e = 0
                      · subst hen
                        have hokv : (isT j = true → m < t.length) → (j = 9 → m ≤ 16) → FL W0 X b t K (j + 1) (p + k) (vs ++ [m]) (wr.setCell ⟨W0.heap.size + 1, j, none⟩ (.int .u64 m)) := fun h1 h2 => by
                          obtain ⟨ms', hq⟩ := flds_ok (t := t) (vs := vs) (K := K) (ms := msj) hjl hO' HG0.out h1 h2
                          rw [List.drop_drop] at hq
                          exact F.next hjl hm64 (by rw [HL.out]; omega) ⟨ms', HXJ.out.trans hq⟩ h1 (fun h => (by rw [h] at hO'; cases hO')) h2
                        have hbadv : (isT j = true ∧ t.length ≤ m) ∨ (j = 9 ∧ 16 < m) → getB b = .error 11 := fun h => HXE.out _ (HXJ.out.trans (flds_bad hjl hO' HG0.out h))
                        rw [HLT.out] at hokv hbadv
                        have HOK := Lib.hid hokv
                        have HBD := Lib.hid hbadv
                        clear hokv hbadv
                        have hz64 : (lt : Int) < 18446744073709551616 := by omega
                        by_cases h9 : j = 9
                        · subst h9
                          by_cases hm16 : 16 < m
                          · have hmz : (16 : Int) < (m : Int) := by omega
                            have HG := Lib.hid (HBD.out (.inr ⟨rfl, hm16⟩))
                            go_wp2
                            go_ret2
                            rw [HG.out]
                            exact ⟨⟨by decide, rfl⟩, bA⟩
                          · have hmz : decide ((16 : Int) < (m : Int)) = false := by simp; omega
                            have hN := Lib.hid (HOK.out (fun h => (by cases h)) (fun _ => by omega))
                            clear hm16 HOK HBD
                            go_wp2
                            exact ⟨⟨p + k, 10, _, by simp, rfl, hN.out⟩, by simp [intOf]⟩
                        · by_cases h34 : j = 3 ∨ j = 4
                          · by_cases hml : lt ≤ m
                            · have hmz : (lt : Int) ≤ (m : Int) := by omega
                              have HG := Lib.hid (HBD.out (.inl ⟨by unfold isT; simpa using h34, hml⟩))
                              rcases h34 with rfl | rfl
                              · go_wp2
                                go_ret2
                                rw [HG.out]
                                exact ⟨⟨by decide, rfl⟩, bA⟩
                              · go_wp2
                                go_ret2
                                rw [HG.out]
                                exact ⟨⟨by decide, rfl⟩, bA⟩
                            · have hmz : ¬ ((lt : Int) ≤ (m : Int)) := by omega
                              have hN := HOK.out (fun _ => by omega) (fun h => by omega)
                              rcases h34 with rfl | rfl
                              · go_wp2
                                exact ⟨⟨p + k, 4, _, by simp, rfl, hN⟩, by simp [intOf]⟩
                              · go_wp2
                                exact ⟨⟨p + k, 5, _, by simp, rfl, hN⟩, by simp [intOf]⟩
                          · have hn3 : ((j : Int) == 3) = false := by simp; omega
                            have hn4 : ((j : Int) == 4) = false := by simp; omega
                            have hn9 : ((j : Int) == 9) = false := by simp; omega
                            have hN := HOK.out (fun h => (by exfalso; revert h; unfold isT; simp; omega)) (fun h => (by omega))
                            go_wp2
                            exact ⟨⟨p + k, j + 1, _, by simp, by simp, hN⟩, by simp [intOf]; omega⟩
                      · have hez : ¬ ((e : Int) = 0) := by omega
                        have HG := Lib.hid (HXE.out _ (HXJ.out.trans (flds_err hjl hO' HG0.out hen)))
                        go_wp2
                        go_ret2
                        rw [HG.out]
                        exact ⟨⟨hen, rfl⟩, bA⟩
                · have hj : j = 10 := by omega
                  subst hj
                  have hjz : ¬ ((10 : Int) < 10) := by omega
                  obtain ⟨msj, hXj⟩ := F.eq
                  have hXj : X = K vs (b.drop p, msj) := hXj
                  have l3 := F.t3 (by omega)
                  have l4 := F.t4 (by omega)
                  have o5 := F.o5 (by omega)
                  have o6 := F.o6 (by omega)
                  have c9 := F.c9 (by omega)
                  have hvl : vs.length ≤ 10 := by rw [F.len]; omega
                  have rg : ∀ k, nth vs k ≤ 18446744073709551615 := fun k => by
                    unfold nth
                    rw [List.getD_eq_getElem?_getD]
                    cases h : vs[k]? with
                    | none => simp
                    | some x => exact F.rng x (List.mem_of_getElem? h)
                  have d0 := (F.b2.cell 0).trans (arr_get (by omega) hvl)
                  have d1 := (F.b2.cell 1).trans (arr_get (by omega) hvl)
                  have d2 := (F.b2.cell 2).trans (arr_get (by omega) hvl)
                  have d3 := (F.b2.cell 3).trans (arr_get (by omega) hvl)
                  have d4 := (F.b2.cell 4).trans (arr_get (by omega) hvl)
                  have d5 := (F.b2.cell 5).trans (arr_get (by omega) hvl)
                  have d6 := (F.b2.cell 6).trans (arr_get (by omega) hvl)
                  have d7 := (F.b2.cell 7).trans (arr_get (by omega) hvl)
                  have d8 := (F.b2.cell 8).trans (arr_get (by omega) hvl)
                  have d9 := (F.b2.cell 9).trans (arr_get (by omega) hvl)
                  have g0 := F.b1.frozen 0
                  have g1 := F.b1.frozen 1
                  have g2 := F.b1.frozen 2
                  have g3 := F.b1.frozen 3
                  have g4 := F.b1.frozen 4
                  have g5 := F.b1.frozen 5
                  have g6 := F.b1.frozen 6
                  have g7 := F.b1.frozen 7
                  have g8 := F.b1.frozen 8
                  have a0 := F.b1.cell 0
                  have a1 := F.b1.cell 1
                  have a2 := F.b1.cell 2
                  have a3 := F.b1.cell 3
                  have a4 := F.b1.cell 4
                  have a5 := F.b1.cell 5
                  have a6 := F.b1.cell 6
                  have a7 := F.b1.cell 7
                  have a8 := F.b1.cell 8
                  obtain ⟨adt, rfl, hs3⟩ := (hSt.below (R.bel.trans (F.bel.mono R.bel.size))).get l3
                  obtain ⟨_, e2, hs4⟩ := (hSt.below (R.bel.trans (F.bel.mono R.bel.size))).get l4
                  cases e2
                  have habl : adt.block < W0.heap.size := by
                    obtain ⟨_, e3, hs5⟩ := (hSt.below R.bel).get (by omega : nth vs 3 < t.length)
                    cases e3
                    have := World.block_lt_of_cell? _ _ hs5
                    rwa [blk_add] at this
                  have far3 : ∀ (W : World) (o : Nat) (v : Go.Value), (W.setCell ⟨W0.heap.size, o, none⟩ v).cell? (adt.add (nth vs 3)) = W.cell? (adt.add (nth vs 3)) := fun W o v => World.cell?_setCell_far _ _ _ _ (by rw [blk_add]; dsimp only; omega)
                  have far4 : ∀ (W : World) (o : Nat) (v : Go.Value), (W.setCell ⟨W0.heap.size, o, none⟩ v).cell? (adt.add (nth vs 4)) = W.cell? (adt.add (nth vs 4)) := fun W o v => World.cell?_setCell_far _ _ _ _ (by rw [blk_add]; dsimp only; omega)
                  obtain ⟨sv, hsv⟩ : ∃ sv, t.getD (nth vs 3) ByteArray.empty = sv := ⟨_, rfl⟩
                  obtain ⟨nm, hnm⟩ : ∃ nm, t.getD (nth vs 4) ByteArray.empty = nm := ⟨_, rfl⟩
                  have e3 : t[nth vs 3] = sv := by rw [← hsv, List.getD_eq_getElem?_getD, List.getElem?_eq_getElem l3]; rfl
                  have e4 : t[nth vs 4] = nm := by rw [← hnm, List.getD_eq_getElem?_getD, List.getElem?_eq_getElem l4]; rfl
                  rw [e3] at hs3
                  rw [e4] at hs4
                  obtain ⟨s, hs⟩ : ∃ s : Sp, (⟨nth vs 0, nth vs 1, nth vs 2, sv, nm, nth vs 5, nth vs 6, nth vs 7, nth vs 8⟩ : Sp) = s := ⟨_, rfl⟩
                  have hsp : spV t vs = s := by rw [← hs, ← hsv, ← hnm]; rfl
                  obtain ⟨N, hN⟩ : ∃ N, nth vs 9 = N := ⟨_, rfl⟩
                  obtain ⟨K2, hK2⟩ : ∃ K2 : List At → R7 (List Pn), (fun l => spsK t (n - (i + 1)) (pns L ++ [(s, l)])) = K2 := ⟨_, rfl⟩
                  have hKv : K vs = bnd (atsK t N []) K2 := by rw [← HK.out, ← hK2, ← hN, ← hsp]
                  have hA0 := AL.start F s hKv
                  have HS := Lib.hid hs
                  have HN := Lib.hid hN
                  have HK2 := Lib.hid hK2
                  have HA0 := Lib.hid hA0
                  have hdn : (arr vs)[9]? = some (.int .u64 (N : Int)) := by rw [← hN]; exact arr_get (by omega) hvl
                  have HD := Lib.hid hdn
                  rw [hN] at c9
                  clear e3 e4 hsv hnm hs hsp hN hK2 hKv hA0 hdn
                  have n3 : (0 : Int) ≤ (nth vs 3 : Int) := by omega
                  have n4 : (0 : Int) ≤ (nth vs 4 : Int) := by omega
                  rw [HLT.out] at l3 l4
                  have m3 : (nth vs 3 : Int) < (lt : Int) := by omega
                  have m4 : (nth vs 4 : Int) < (lt : Int) := by omega
                  go_wp2_with fail
                  have hA1 : AL W0 X b t K2 vs s N 0 p none 0 [] _ := HA0.out
                  rw [← HS.out] at hA1
                  clear d0 d1 d2 d3 d4 d5 d6 d7 d8 d9 g0 g1 g2 g3 g4 g5 g6 g7 g8 a0 a1 a2 a3 a4 a5 a6 a7 a8 far3 far4 n3 n4 m3 m4 hs3 hs4 HA0 l3 l4 o5 o6 rg hvl hjz hjl hXj HXO
                  go_loopw [5, 18] (fun v5 v18 wq => ∃ (u j : Nat) (A2 : Option Addr) (c2 : Nat) (l : List At), v5 = .int .i64 (u : Nat) ∧ v18 = .int .i64 (j : Nat) ∧ j ≤ N ∧ AL W0 X b t K2 vs s N j u A2 c2 l wq) (fun _ v _ => N - (intOf v).toNat)
                  case atStart => exact ⟨p, 0, none, 0, [], rfl, rfl, Nat.zero_le _, by rw [← HS.out]; exact hA1⟩
                  case round =>
                    clear hA1 F bA hbw
                    obtain ⟨q, j, A2, c2, l, rfl, rfl, hjN, F⟩ := hrel
                    have hql := F.hu
                    rw [HL.out] at hql
                    have bA : Below w.heap.size w wr := b1.trans ((R.bel.trans (F.bel.mono R.bel.size)).mono b1.size)
                    have hbw := hb1.below (R.bel.trans (F.bel.mono R.bel.size))
                    have d9 : wr.cell? ⟨W0.heap.size + 1, 9, none⟩ = some (.int .u64 (N : Int)) := (F.b2.cell 9).trans HD.out
                    by_cases hjl : j < N
                    · have hjz : (j : Int) < (N : Int) := by omega
                      obtain ⟨msj, hXj⟩ := F.eq
                      rw [show N - j = N - (j + 1) + 1 by omega] at hXj
                      have HXJ := Lib.hid hXj
                      clear hXj
                      have p1 : (0 : Int) ≤ (q : Int) := by omega
                      obtain ⟨⟨m, k, e⟩, hg⟩ : ∃ r, getF 0 0 (nat8 (b.drop q)) = r := ⟨_, rfl⟩
                      obtain ⟨cg1, cg2⟩ := cut_get hbw HL.out (by omega) hql hg
                      have hgb := getF_le (b.drop q)
                      rw [hg, List.length_drop, HL.out] at hgb
                      dsimp only at hgb
                      have y11 : ((q : Int)).toNat = q := by omega
                      have y12 : (q : Int) ≤ (len : Int) := by omega
                      obtain ⟨hm64, hkl, -⟩ := hgb
                      have HG0 := Lib.hid hg
                      clear hg
                      by_cases hcp : c = q
                      · have hd0 : b.drop q = [] := List.drop_of_length_le (by rw [HL.out]; omega)
                        have hen : m = 0 ∧ k = 0 ∧ e = 10 := by
                          have := HG0.out
                          rw [hd0] at this
                          injection this with h1 h2
                          injection h2 with h2 h3
                          exact ⟨h1.symm, h2.symm, h3.symm⟩
                        obtain ⟨rfl, rfl, rfl⟩ := hen
                        have HG := Lib.hid (HXE.out _ (HXJ.out.trans (atsK_err HG0.out (by decide))))
                        have hl0 : len = q := by omega
                        have cg := cg1 hcp
                        clear cg1 cg2
                        subst hcp
                        subst hl0
                        go_wp2_with fail
                        refine cg.mono ?_
                        rintro x w2 ⟨rfl, rfl⟩
                        clear cg
                        go_wp2
                        go_ret2
                        rw [HG.out]
                        exact ⟨⟨by decide, rfl⟩, bA⟩
                      · have hcpz : ¬ ((c : Int) = (q : Int)) := by omega
                        have cg := cg2 hcp
                        clear cg1 cg2
                        go_wp2_with fail
                        refine cg.mono ?_
                        rintro x w2 ⟨rfl, rfl⟩
                        clear cg
                        by_cases hen : e = 0
                        · subst hen
                          by_cases hml : lt ≤ m
                          · have hmz : (lt : Int) ≤ (m : Int) := by omega
                            have HG := Lib.hid (HXE.out _ (HXJ.out.trans (atsK_bad HG0.out (by rw [HLT.out]; exact hml))))
                            go_wp2
                            go_ret2
                            rw [HG.out]
                            exact ⟨⟨by decide, rfl⟩, bA⟩
                          · have hmz : ¬ ((lt : Int) ≤ (m : Int)) := by omega
                            have hmt : m < t.length := by rw [HLT.out]; omega
                            obtain ⟨ms2, hX2⟩ := atsK_val (m := N - (j + 1)) (acc := l) (f := K2) (ms := msj) HG0.out hmt
                            rw [List.drop_drop] at hX2
                            obtain ⟨r, hr⟩ : ∃ r, q + k = r := ⟨_, rfl⟩
                            have z0 : (q : Int) + (k : Int) = (r : Int) := by omega
                            have hrl : r ≤ len := by omega
                            have z1 : (0 : Int) ≤ (r : Int) := by omega
                            have z2 : ((r : Int)).toNat = r := by omega
                            have z3 : (r : Int) ≤ (len : Int) := by omega
                            rw [hr] at hX2
                            have HX2 := Lib.hid (HXJ.out.trans hX2)
                            clear hX2 hr
                            obtain ⟨vg1, vg2⟩ := vcut_get hbw HL.out (by omega) hrl
                            have hvb := getV_bd (b.drop r)
                            rw [List.length_drop, HL.out] at hvb
                            by_cases hcq : c = r
                            · have hd0 : b.drop r = [] := List.drop_of_length_le (by rw [HL.out]; omega)
                              have vg := vg1 hcq
                              have ev : (getV []).v = .tuple #[.agg #[.int .i64 0, .int .i64 0, .string emp], .int .i64 0, .int .i64 10] := rfl
                              rw [hd0, ev] at vg
                              clear ev
                              have hX3 := HX2.out
                              rw [hd0, bnd_val_err (K := 0) (N := 0) (S := emp) (k := 0) (e := 10) rfl (by decide)] at hX3
                              have HG := Lib.hid (HXE.out _ hX3)
                              have hl0 : len = r := by omega
                              clear vg1 vg2 hX3 hvb hd0
                              subst hcq
                              subst hl0
                              go_wp2_with fail
                              refine vg.mono ?_
                              rintro x w2 ⟨rfl, b2⟩
                              clear vg
                              have bA2 := bA.trans (b2.mono bA.size)
                              go_wp2
                              go_ret2
                              rw [HG.out]
                              refine ⟨⟨by decide, rfl⟩, ?_⟩
                              exact bA2.trans ((below_box w2 _ (Nat.le_refl _)).mono bA2.size)
                            · obtain ⟨⟨K1, N1, S1, k1, e1⟩, hv⟩ : ∃ rr, getV (b.drop r) = rr := ⟨_, rfl⟩
                              have vg := vg2 hcq
                              have ev : (⟨K1, N1, S1, k1, e1⟩ : Rdv).v = .tuple #[.agg #[.int .i64 K1, .int .i64 N1, .string S1], .int .i64 k1, .int .i64 e1] := rfl
                              rw [hv] at vg hvb
                              rw [ev] at vg
                              clear ev
                              dsimp only at hvb
                              have z4 : ¬ ((c : Int) = (r : Int)) := by omega
                              clear vg1 vg2
                              have HV := Lib.hid hv
                              clear hv
                              go_wp2_with fail
                              refine vg.mono ?_
                              rintro x w2 ⟨rfl, b2⟩
                              clear vg
                              have bA2 := bA.trans (b2.mono bA.size)
                              by_cases he1 : e1 = 0
                              · subst he1
                                have hk1 := hvb.2 rfl
                                have hX3 := HX2.out
                                rw [bnd_val_ok HV.out, List.drop_drop] at hX3
                                obtain ⟨key, hkey⟩ : ∃ key, t.getD m ByteArray.empty = key := ⟨_, rfl⟩
                                rw [hkey] at hX3
                                obtain ⟨_, e2, hsm⟩ := (hSt.below (R.bel.trans (F.bel.mono R.bel.size))).get hmt
                                cases e2
                                have ek : t[m] = key := by rw [← hkey, List.getD_eq_getElem?_getD, List.getElem?_eq_getElem hmt]; rfl
                                rw [ek] at hsm
                                have HX3 := Lib.hid hX3
                                have HVB := Lib.hid hvb
                                clear hX3 hvb hkey ek
                                have pl := World.block_lt_of_cell? _ _ hsm
                                have w2s := b2.size
                                have bb := below_box w2 (.cells #[.int .i64 K1, .int .i64 N1, .string S1] 56) (Nat.le_refl _)
                                have hb3 := b2.trans (bb.mono w2s)
                                have hBx := Bk.new w2 56 #[.int .i64 K1, .int .i64 N1, .string S1]
                                have hBs : w2.heap.size < (w2.alloc (.cells #[.int .i64 K1, .int .i64 N1, .string S1] 56)).heap.size := hBx.lt
                                go_wp2_with fail
                                generalize hW3 : w2.alloc (.cells #[.int .i64 K1, .int .i64 N1, .string S1] 56) = W3 at *
                                generalize hB : w2.heap.size = B at *
                                have b9 := F.b1.below hb3
                                have hb3' : Below wr.heap.size wr W3.drew := ⟨hb3.os, hb3.tape, hb3.output, hb3.size, hb3.block⟩
                                have x9 : W3.drew.cell? ⟨W0.heap.size, 9, none⟩ = some (.slice A2 j c2) := b9.cell 9
                                have f0 : W3.drew.cell? (adt.add m) = some (.string key) := (hb3'.cell pl).trans hsm
                                have f1 : W3.drew.cell? ⟨B, 0, none⟩ = some (.int .i64 K1) := hBx.cell 0
                                have f2 : W3.drew.cell? ⟨B, 1, none⟩ = some (.int .i64 N1) := hBx.cell 1
                                have f3 : W3.drew.cell? ⟨B, 2, none⟩ = some (.string S1) := hBx.cell 2
                                have e0 : (0 : Int) ≤ (m : Int) := by omega
                                have e1 : ((m : Int)).toNat = m := by omega
                                have e2 : (m : Int) < (lt : Int) := by omega
                                have hbl : Below W3.drew.heap.size W3.drew ((W3.alloc (.cells #[.string key, .int .i64 K1, .int .i64 N1, .string S1] 58)).drew) := ((Below.refl _ _).alloc (Nat.le_refl _) _ : Below W3.drew.heap.size W3.drew (W3.drew.alloc _))
                                have bW := hb3'.trans (hbl.mono hb3'.size)
                                have ho3 := own_below F.own hb3
                                have ho1 : (W3.alloc (.cells #[.string key, .int .i64 K1, .int .i64 N1, .string S1] 58)).drew.ownsRow (W0.heap.size + 1 + 1) 58 4 (.slice A2 j c2) j (l.flatMap enc) := ho3.alloc (.cells #[.string key, .int .i64 K1, .int .i64 N1, .string S1] 58)
                                have hlit : Rd 4 (W3.alloc (.cells #[.string key, .int .i64 K1, .int .i64 N1, .string S1] 58)).drew (some ⟨W3.heap.size, 0, none⟩) 1 1 (enc ⟨key, K1, N1, S1⟩) := Rd.lit4 W3.drew 58 ⟨key, K1, N1, S1⟩
                                have hlt3 := F.lt
                                have dd1 : j + 1 ≤ maxLen := by unfold maxLen; omega
                                have dd2 : (j + 1) * 48 ≤ 140737488355328 := by omega
                                have dd3 : W0.heap.size + 1 + 1 ≤ (W3.alloc (.cells #[.string key, .int .i64 K1, .int .i64 N1, .string S1] 58)).drew.heap.size := Nat.le_trans hlt3 bW.size
                                have keep1 : ∀ (q : Addr) (v : Value), W3.drew.cell? q = some v → (W3.alloc (.cells #[.string key, .int .i64 K1, .int .i64 N1, .string S1] 58)).drew.cell? q = some v := fun q v h => by rw [hbl.cell (World.block_lt_of_cell? _ _ h)]; exact h
                                have keep2 : ∀ (w2 : World), (W3.alloc (.cells #[.string key, .int .i64 K1, .int .i64 N1, .string S1] 58)).drew.grownBy w2 (Value.slice A2 j c2).ownBlock → ∀ (q : Addr) (v : Value), (q.block < W0.heap.size + 1 + 1 ∨ wr.heap.size ≤ q.block) → W3.drew.cell? q = some v → w2.cell? q = some v := fun w2 hg q v hq h => by
                                  have h1 := keep1 q v h
                                  rw [World.cell?_of_block (hg.block _ (World.block_lt_of_cell? _ _ h1) (fun e => by have := F.own.lt _ e.symm; omega))]
                                  exact h1
                                have pl2 : (adt.add m).block < W0.heap.size + 1 + 1 := by rw [blk_add]; omega
                                have n2 : W0.heap.size < W0.heap.size + 1 + 1 := by omega
                                have n4 : wr.heap.size ≤ B := w2s
                                have SS1 : Aside ((W3.alloc (.cells #[.string key, .int .i64 K1, .int .i64 N1, .string S1] 58)).drew.cell? ⟨W0.heap.size, 9, none⟩ = some (.slice A2 j c2) ∧ (W3.alloc (.cells #[.string key, .int .i64 K1, .int .i64 N1, .string S1] 58)).drew.cell? (adt.add m) = some (.string key) ∧ (W3.alloc (.cells #[.string key, .int .i64 K1, .int .i64 N1, .string S1] 58)).drew.cell? ⟨B, 0, none⟩ = some (.int .i64 K1) ∧ (W3.alloc (.cells #[.string key, .int .i64 K1, .int .i64 N1, .string S1] 58)).drew.cell? ⟨B, 1, none⟩ = some (.int .i64 N1) ∧ (W3.alloc (.cells #[.string key, .int .i64 K1, .int .i64 N1, .string S1] 58)).drew.cell? ⟨B, 2, none⟩ = some (.string S1)) := (show _ ∧ _ from ⟨keep1 _ _ x9, keep1 _ _ f0, keep1 _ _ f1, keep1 _ _ f2, keep1 _ _ f3⟩)
                                have KP : Aside (∀ w2 : World, (W3.alloc (.cells #[.string key, .int .i64 K1, .int .i64 N1, .string S1] 58)).drew.grownBy w2 (Value.slice A2 j c2).ownBlock → w2.cell? ⟨W0.heap.size, 9, none⟩ = some (.slice A2 j c2) ∧ w2.cell? (adt.add m) = some (.string key) ∧ w2.cell? ⟨B, 0, none⟩ = some (.int .i64 K1) ∧ w2.cell? ⟨B, 1, none⟩ = some (.int .i64 N1) ∧ w2.cell? ⟨B, 2, none⟩ = some (.string S1)) := fun w2 hg => ⟨keep2 w2 hg _ _ (.inl n2) x9, keep2 w2 hg _ _ (.inl pl2) f0, keep2 w2 hg _ _ (.inr n4) f1, keep2 w2 hg _ _ (.inr n4) f2, keep2 w2 hg _ _ (.inr n4) f3⟩
                                have KF : Aside (∀ w2 : World, (W3.alloc (.cells #[.string key, .int .i64 K1, .int .i64 N1, .string S1] 58)).drew.grownBy w2 (Value.slice A2 j c2).ownBlock → Bk w2 W0.heap.size 53 (spc s (.slice A2 j c2))) := fun w2 hg => by
                                  have h1 : Bk (W3.alloc (.cells #[.string key, .int .i64 K1, .int .i64 N1, .string S1] 58)).drew W0.heap.size 53 (spc s (.slice A2 j c2)) := (show Bk W3.drew W0.heap.size 53 (spc s (.slice A2 j c2)) from b9).below hbl
                                  unfold Bk at h1 ⊢
                                  rw [hg.block _ (Array.getElem?_eq_some_iff.1 h1).1 (fun e => by have := (F.own.lt _ e.symm).1; omega)]
                                  exact h1
                                clear keep1 keep2 hsm d9
                                refine wp_zed (S := fun w' => w'.cell? ⟨W0.heap.size, 9, none⟩ = some (.slice A2 j c2) ∧ w'.cell? (adt.add m) = some (.string key) ∧ w'.cell? ⟨B, 0, none⟩ = some (.int .i64 K1) ∧ w'.cell? ⟨B, 1, none⟩ = some (.int .i64 N1) ∧ w'.cell? ⟨B, 2, none⟩ = some (.string S1)) (z := 11) mixed ?_
                                refine Zed.take (i := 0) (v := .pointer (some ⟨W0.heap.size, 9, none⟩)) rfl (by kernel_rfl) rfl (by kernel_rfl) (by kernel_rfl) (by kernel_rfl) (fun _ _ _ h => h) ?_ ⟨x9, f0, f1, f2, f3⟩ ?_
                                · refine .inl ⟨rfl, fun W hW => ?_⟩
                                  obtain ⟨q1, q2, q3, q4, q5⟩ := hW
                                  go_simp
                                (try simp only [Act.put, List.setIfInBounds_toArray, List.set_cons_zero, List.set_cons_succ])
                                refine Zed.take (i := 1) (v := .slice A2 j c2) rfl (by kernel_rfl) rfl (by kernel_rfl) (by kernel_rfl) (by kernel_rfl) (fun _ _ _ h => h) ?_ ⟨x9, f0, f1, f2, f3⟩ ?_
                                · refine .inl ⟨rfl, fun W hW => ?_⟩
                                  obtain ⟨q1, q2, q3, q4, q5⟩ := hW
                                  go_simp
                                (try simp only [Act.put, List.setIfInBounds_toArray, List.set_cons_zero, List.set_cons_succ])
                                refine Zed.take (i := 2) (v := .slice (some adt) lt ct) rfl (by kernel_rfl) rfl (by kernel_rfl) (by kernel_rfl) (by kernel_rfl) (fun _ _ _ h => h) ?_ ⟨x9, f0, f1, f2, f3⟩ ?_
                                · refine .inl ⟨rfl, fun W hW => ?_⟩
                                  obtain ⟨q1, q2, q3, q4, q5⟩ := hW
                                  go_simp
                                (try simp only [Act.put, List.setIfInBounds_toArray, List.set_cons_zero, List.set_cons_succ])
                                refine Zed.take (i := 3) (v := .int .u64 (m : Int)) rfl (by kernel_rfl) rfl (by kernel_rfl) (by kernel_rfl) (by kernel_rfl) (fun _ _ _ h => h) ?_ ⟨x9, f0, f1, f2, f3⟩ ?_
                                · refine .inl ⟨rfl, fun W hW => ?_⟩
                                  obtain ⟨q1, q2, q3, q4, q5⟩ := hW
                                  go_simp
                                (try simp only [Act.put, List.setIfInBounds_toArray, List.set_cons_zero, List.set_cons_succ])
                                refine Zed.take (i := 4) (v := .pointer (some (adt.add m))) rfl (by kernel_rfl) rfl (by kernel_rfl) (by kernel_rfl) (by kernel_rfl) (fun _ _ _ h => h) ?_ ⟨x9, f0, f1, f2, f3⟩ ?_
                                · refine .inl ⟨rfl, fun W hW => ?_⟩
                                  obtain ⟨q1, q2, q3, q4, q5⟩ := hW
                                  go_simp
                                (try simp only [Act.put, List.setIfInBounds_toArray, List.set_cons_zero, List.set_cons_succ])
                                refine Zed.take (i := 5) (v := .string key) rfl (by kernel_rfl) rfl (by kernel_rfl) (by kernel_rfl) (by kernel_rfl) (fun _ _ _ h => h) ?_ ⟨x9, f0, f1, f2, f3⟩ ?_
                                · refine .inl ⟨rfl, fun W hW => ?_⟩
                                  obtain ⟨q1, q2, q3, q4, q5⟩ := hW
                                  go_simp
                                (try simp only [Act.put, List.setIfInBounds_toArray, List.set_cons_zero, List.set_cons_succ])
                                refine Zed.take (i := 6) (v := .agg #[.int .i64 K1, .int .i64 N1, .string S1]) rfl (by kernel_rfl) rfl (by kernel_rfl) (by kernel_rfl) (by kernel_rfl) (fun _ _ _ h => h) ?_ ⟨x9, f0, f1, f2, f3⟩ ?_
                                · refine .inl ⟨rfl, fun W hW => ?_⟩
                                  obtain ⟨q1, q2, q3, q4, q5⟩ := hW
                                  go_simp
                                (try simp only [Act.put, List.setIfInBounds_toArray, List.set_cons_zero, List.set_cons_succ])
                                refine Zed.take (i := 7) (v := .agg #[.string key, .int .i64 K1, .int .i64 N1, .string S1]) rfl (by kernel_rfl) rfl (by kernel_rfl) (by kernel_rfl) (by kernel_rfl) (fun _ _ _ h => h) ?_ ⟨x9, f0, f1, f2, f3⟩ ?_
                                · refine .inl ⟨rfl, fun W hW => ?_⟩
                                  obtain ⟨q1, q2, q3, q4, q5⟩ := hW
                                  go_simp
                                (try simp only [Act.put, List.setIfInBounds_toArray, List.set_cons_zero, List.set_cons_succ])
                                refine Zed.step (i := 8) (by kernel_rfl) rfl rfl (fun K hK => ?_)
                                go_simp
                                refine hK _ _ ⟨.inr SS1.out, ?_⟩
                                clear hK K
                                (try simp only [Act.put, List.setIfInBounds_toArray, List.set_cons_zero, List.set_cons_succ])
                                refine Zed.step (i := 9) (by kernel_rfl) rfl rfl (fun K hK => ?_)
                                refine wp_append_rd (.tmp 195) (.tmp 202) 51 rfl (W0.heap.size + 1 + 1) 58 i1 _ 4 48 Try.underlying51 hi1 hy0 hy1 hy2 rfl (Nat.succ_pos 3) (.slice A2 j c2) j (l.flatMap enc) rfl ho1 (some ⟨W3.heap.size, 0, none⟩) 1 1 (enc ⟨key, K1, N1, S1⟩) rfl hlit (enc_one ⟨key, K1, N1, S1⟩) dd1 dd2 dd3 ?_
                                intro A3 c3 w5 hown3 hg3
                                refine hK _ _ ⟨.inr (KP.out w5 hg3), ?_⟩
                                clear hK K
                                have y9 : w5.cell? ⟨W0.heap.size, 9, none⟩ = some (.slice A2 j c2) := (KF.out w5 hg3).cell 9
                                have F2 := (KF.out w5 hg3).frozen 9
                                (try simp only [Act.put, List.setIfInBounds_toArray, List.set_cons_zero, List.set_cons_succ])
                                refine Zed.step (i := 10) (by kernel_rfl) rfl rfl (fun K hK => ?_)
                                go_simp
                                refine hK _ _ ⟨.inr (KP.out w5 hg3), ?_⟩
                                clear hK K
                                (try simp only [Act.put, List.setIfInBounds_toArray, List.set_cons_zero, List.set_cons_succ])
                                refine Zed.step (i := 11) (by kernel_rfl) rfl rfl (fun K hK => ?_)
                                go_simp
                                refine hK _ _ ⟨.inl rfl, Zed.done (by kernel_rfl) ?_ _⟩
                                clear hK K
                                (try simp only [Act.put, List.setIfInBounds_toArray, List.set_cons_zero, List.set_cons_succ])
                                have R2 := F.step (u' := r + k1) (x := ⟨key, K1, N1, S1⟩) bW hg3 hown3 (by rw [HL.out]; omega) ⟨ms2, HX3.out⟩
                                clear hg3 hown3 hlit ho1 ho3 hb3 hb3' hbl bW x9 f0 f1 f2 f3 SS1 KP KF y9 F2 hBx b9 hW3 hB bb
                                go_wp2
                                go_roundw
                                case rel => exact ⟨r + k1, j + 1, A3, c3, _, by go_num, by go_num, by omega, R2⟩
                                case measure => simp [intOf]; omega
                              · have hez : ¬ ((e1 : Int) = 0) := by omega
                                have hX3 := HX2.out
                                rw [bnd_val_err HV.out he1] at hX3
                                have HG := Lib.hid (HXE.out _ hX3)
                                clear hX3
                                go_wp2
                                go_ret2
                                rw [HG.out]
                                refine ⟨⟨he1, rfl⟩, ?_⟩
                                exact bA2.trans ((below_box w2 _ (Nat.le_refl _)).mono bA2.size)
                        · have hez : ¬ ((e : Int) = 0) := by omega
                          have HG := Lib.hid (HXE.out _ (HXJ.out.trans (atsK_err HG0.out hen)))
                          go_wp2
                          go_ret2
                          rw [HG.out]
                          exact ⟨⟨hen, rfl⟩, bA⟩
                    · have hj : j = N := by omega
                      subst hj
                      have hjz : ¬ ((j : Int) < (j : Int)) := by omega
                      have t0 : wr.cell? ⟨W0.heap.size, 0, none⟩ = some (.int .u64 s.T) := F.b1.cell 0
                      have t1 : wr.cell? ⟨W0.heap.size, 1, none⟩ = some (.int .u64 s.I) := F.b1.cell 1
                      have t2 : wr.cell? ⟨W0.heap.size, 2, none⟩ = some (.int .u64 s.P) := F.b1.cell 2
                      have t3 : wr.cell? ⟨W0.heap.size, 3, none⟩ = some (.string s.sv) := F.b1.cell 3
                      have t4 : wr.cell? ⟨W0.heap.size, 4, none⟩ = some (.string s.nm) := F.b1.cell 4
                      have t5 : wr.cell? ⟨W0.heap.size, 5, none⟩ = some (.int .i64 s.kd) := F.b1.cell 5
                      have t6 : wr.cell? ⟨W0.heap.size, 6, none⟩ = some (.int .i64 s.st) := F.b1.cell 6
                      have t7 : wr.cell? ⟨W0.heap.size, 7, none⟩ = some (.int .u64 s.t0) := F.b1.cell 7
                      have t8 : wr.cell? ⟨W0.heap.size, 8, none⟩ = some (.int .u64 s.t1) := F.b1.cell 8
                      have t9 : wr.cell? ⟨W0.heap.size, 9, none⟩ = some (.slice A2 j c2) := F.b1.cell 9
                      have own3 := R.own.below F.bel
                      have hrow3 : wr.ownsRow w1.heap.size 53 10 (.slice Al i cl) i (L.flatMap ten) := by have := own3.row; rw [R.len] at this; exact this
                      have hx10 : spc s (.slice A2 j c2) = tenA ⟨s, A2, c2, l⟩ := by unfold tenA; rw [F.len]
                      have bx := below_box wr (.cells (spc s (.slice A2 j c2)) 53) (Nat.le_refl _)
                      have hrow4 := own_below hrow3 bx
                      have bb3 := R.bel.trans (F.bel.mono R.bel.size)
                      have bb4 := bb3.trans (bx.mono bb3.size)
                      have hlit := Rd.lit10 wr 53 ⟨s, A2, c2, l⟩
                      rw [← hx10] at hlit
                      have hd0 : Hd (W0.heap.size + 1 + 1) wr A2 c2 l := Hd.own (by rw [F.len]; exact F.own)
                      have hxa : ∀ a, Al = some a → ∀ a', A2 = some a' → a'.block ≠ a.block := fun a e a' e' hc => by
                        have h1 := (B07.Hd.lt hd0 a' e').1
                        have h2 := (R.own.row.lt a.block (by rw [e]; rfl)).2
                        omega
                      have hd' := hd0.low (B' := w1.heap.size) (by have := R.bel.size; omega)
                      have hsz := bb4.size
                      obtain ⟨msq, hXq⟩ := F.eq
                      rw [Nat.sub_self] at hXq
                      have hXq : X = K2 l (b.drop q, msq) := hXq
                      have HXQ := Lib.hid hXq
                      have O3 := Lib.hid own3
                      have BX := Lib.hid bx
                      have HDD := Lib.hid hd'
                      have HXA := Lib.hid hxa
                      have B4 := Lib.hid bb4
                      have HFL := Lib.hid F.len
                      have HFU := Lib.hid F.hu
                      clear own3 hrow3 bx bb3 bb4 hd0 hd' hxa hXq hx10 F bA hbw
                      go_wp2_with (at_builtin; refine wpList_append_ten _ rfl (.tmp 210) (.tmp 212) 22 rfl w1.heap.size 53 i0 _ 112 Try.underlying22 hi hz0 hz1 hz2 rfl _ i (L.flatMap ten) rfl hrow4 _ ⟨s, A2, c2, l⟩ rfl hlit ?d1 ?d2 ?d3 ?_)
                      case d1 => unfold maxLen; omega
                      case d2 => omega
                      case d3 => simpa using hsz
                      intro A6 c6 w6 hrow6 hg6 hat6
                      have hR6 : GL w1 X b t n (i + 1) q A6 c6 (L ++ [⟨s, A2, c2, l⟩]) w6 := by
                        have hne : ∀ g, (Value.slice Al i cl).ownBlock = some g → w1.heap.size ≤ g := fun g hg => (hrow4.lt g hg).1
                        refine ⟨?_, by simp [R.len], ?_, B4.out.grown hg6 B4.out.size hne, HFU.out, msq, ?_⟩
                        · exact O3.out.app (x := ⟨s, A2, c2, l⟩) HDD.out HXA.out BX.out (by rw [R.len]; exact hrow6) (by rw [R.len]; exact hg6) (by rw [R.len]; simpa using hat6)
                        · intro x hx
                          rcases List.mem_append.1 hx with hx | hx
                          · exact R.sm x hx
                          · simp only [List.mem_singleton] at hx
                            rw [hx]
                            show l.length ≤ 16
                            rw [HFL.out]
                            exact c9
                        · rw [HXQ.out, ← HK2.out]
                          simp [pns, Spn.pn]
                      clear hrow6 hg6 hat6 hrow4 hlit O3 BX HDD HXA B4
                      go_wp2
                      go_roundw
                      case rel => exact ⟨q, i + 1, A6, c6, _, rfl, rfl, by go_num, by omega, hR6⟩
                      case measure => first | go_num | (simp [intOf]; omega)
            · have hin' : i = n := by omega
              subst hin'
              have hltz : ¬ ((i : Int) < (i : Int)) := by omega
              have bA : Below w.heap.size w wr := b1.trans (R.bel.mono b1.size)
              obtain ⟨ms0, hX0⟩ := R.eq
              rw [Nat.sub_self] at hX0
              have hX0 : X = .ok (pns L, (b.drop u, ms0)) := hX0
              obtain ⟨f1, f2, f3⟩ := HXO.out _ _ _ hX0
              have hz9 : ∀ x ∈ pns L, ∀ s ∈ tex x, s.size ≤ 65536 := fun x hx s hs => by
                have := HTZ.out s ((f2 x hx).tx s hs)
                omega
              have tx := texts_at wr Al cl i L R.own.sps R.len (by omega) (fun x hx => by have := R.sm x hx; omega) hz9
              obtain ⟨TT, hTT⟩ : ∃ TT, texts (pns L) = TT := ⟨_, rfl⟩
              rw [hTT] at tx f1
              obtain ⟨lu, hlu⟩ : ∃ lu, TT.length = lu := ⟨_, rfl⟩
              rw [hlu] at tx
              have HF1 := Lib.hid f1
              have HF2 := Lib.hid f2
              have HF3 := Lib.hid f3
              have HLU := Lib.hid hlu
              have hul := R.hu
              rw [HL.out] at hul
              clear hX0 f1 f2 f3 hz9 hTT hlu HXO HXE
              have HR := Lib.hid R
              have hStw := hSt.below R.bel
              clear R hR0
              go_wp2_with fail
              refine tx.mono ?_
              rintro x w3 ⟨Au, cu, rfl, ownu, b3⟩
              clear tx
              have bA3 := bA.trans (b3.mono bA.size)
              have hSt3 := hStw.below b3
              have hSu : Ss w3 Au cu TT := Ss.own (by rw [HLU.out]; exact ownu)
              by_cases hue : u = len
              · subst hue
                by_cases hle : lu = lt
                · subst hle
                  have HG1 := HF1
                  go_wp2_with fail
                  go_loopw [26] (fun v wq => ∃ k : Nat, v = .int .i64 (k : Nat) ∧ k ≤ lu ∧ Below w3.heap.size w3 wq ∧ Hid (TT.take k = t.take k)) (fun v _ => lu - (intOf v).toNat)
                  case atStart => exact ⟨0, rfl, Nat.zero_le _, Below.refl _ _, Lib.hid rfl⟩
                  case round =>
                    obtain ⟨k, rfl, hkl, bw, HI⟩ := hrel
                    have bA4 := bA3.trans (bw.mono bA3.size)
                    by_cases hlt4 : k < lu
                    · have hltz4 : (k : Int) < (lu : Int) := by omega
                      have h0 : (0 : Int) ≤ (k : Int) := by omega
                      have hkt : k < t.length := by rw [HLT.out]; exact hlt4
                      have hku : k < TT.length := by rw [HLU.out]; exact hlt4
                      obtain ⟨at1, rfl, ht1⟩ := (hSt3.below bw).get hkt
                      obtain ⟨au1, rfl, hu1⟩ := (hSu.below bw).get hku
                      have hst : TT[k] = t[k] → TT.take (k + 1) = t.take (k + 1) := fun h => by
                        rw [← List.take_append_getElem hku, ← List.take_append_getElem hkt, HI.out, h]
                      have hno : TT[k] ≠ t[k] → TT ≠ t := fun h e => by subst e; exact h rfl
                      obtain ⟨s1, hs1⟩ : ∃ s1, t[k] = s1 := ⟨_, rfl⟩
                      obtain ⟨s2, hs2⟩ : ∃ s2, TT[k] = s2 := ⟨_, rfl⟩
                      rw [hs1] at ht1 hst hno
                      rw [hs2] at hu1 hst hno
                      have HST := Lib.hid hst
                      have HNO := Lib.hid hno
                      clear hst hno hs1 hs2
                      by_cases he : s1 = s2
                      · subst he
                        have hbq := eq_tl (rfl : s1 = s1)
                        have HI2 := Lib.hid (HST.out rfl)
                        go_wp2_with (go_quiet (fail))
                        go_roundw
                        case rel => exact ⟨k + 1, by go_num, by omega, below_drewN bw _, HI2⟩
                        case measure => simp [intOf]; omega
                      · have hbq := ne_tl he
                        have hG : getB b = .error 11 := by rw [HF1.out, if_neg]; rintro ⟨-, h⟩; exact HNO.out (fun e => he e.symm) h
                        have HG := Lib.hid hG
                        clear hG
                        go_wp2_with (go_quiet (fail))
                        go_ret2
                        rw [HG.out]
                        exact ⟨⟨by decide, rfl⟩, below_drewN bA4 _⟩
                    · have hkq : k = lu := by omega
                      subst hkq
                      have hltz4 : ¬ ((k : Int) < (k : Int)) := by omega
                      have hTt : TT = t := by
                        have := HI.out
                        rwa [List.take_of_length_le (by rw [HLU.out]; exact Nat.le_refl _), List.take_of_length_le (by rw [HLT.out]; exact Nat.le_refl _)] at this
                      have hG : getB b = .ok (pns L) := by rw [HF1.out, if_pos]; exact ⟨by rw [List.drop_eq_nil_iff, HL.out]; exact Nat.le_refl _, hTt⟩
                      have HG := Lib.hid hG
                      clear hG hTt
                      go_wp2
                      go_ret2
                      rw [HG.out]
                      have own4 := ((HR.out.own.below b3).below bw)
                      refine ⟨⟨Al, cl, L, by rw [pns_len, HR.out.len]; rfl, rfl, ?_, fun y hy => (HF2.out y hy).len, HF3.out⟩, bA4⟩
                      exact own4.low b1.size
                · have hq1 : ¬ ((lu : Int) = (lt : Int)) := by omega
                  have hq2 : ((lu : Int) == (lt : Int)) = false := by simp; omega
                  have hG : getB b = .error 11 := by rw [HF1.out, if_neg]; rintro ⟨-, h⟩; apply hle; rw [← HLU.out, h, HLT.out]
                  have HG := Lib.hid hG
                  clear hG
                  go_wp2
                  go_ret2
                  rw [HG.out]
                  exact ⟨⟨by decide, rfl⟩, bA3⟩
              · have hq1 : ¬ ((u : Int) = (len : Int)) := by omega
                have hq2 : ((u : Int) == (len : Int)) = false := by simp; omega
                have hG : getB b = .error 11 := by rw [HF1.out, if_neg]; rintro ⟨h, -⟩; rw [List.drop_eq_nil_iff, HL.out] at h; omega
                have HG := Lib.hid hG
                clear hG
                go_wp2
                go_ret2
                rw [HG.out]
                exact ⟨⟨by decide, rfl⟩, bA3⟩
      · have hez : ¬ ((en : Int) = 0) := by omega
        have hXv : X = .error en := by
          rw [← HX.out]
          unfold sps cnt
          rw [bnd_assoc]
          exact bnd_num_err HGN.out hen _ _
        have hgbv := HXE.out en hXv
        have HG := Lib.hid hgbv
        clear hgbv hXv
        go_wp2
        go_ret2
        rw [HG.out]
        exact ⟨⟨hen, rfl⟩, b1⟩
end Go.Proofs.Ytndcdidepdcmnaa.B07
end

section
namespace Go.Proofs.Ytndcdidepdcmnaa.B07
open Go.RowKit Go.Lib Go.Maps Go.Proofs.Ytndcdidepdcmnaa.Wd

theorem gets_law (B : Option Addr) (d : Nat) (b : List UInt8) (w : World) (hB : Bs w B d b) :
    Calls Try.prog 4 #[.slice B b.length d] w fun e w' => e = .returned (.bool true) ∧ Below w.heap.size w w' :=
  gets_walk (fun A c len b w h1 h2 h3 => rgetb_any A c len b w h1 h2 h3) B d b w hB
end Go.Proofs.Ytndcdidepdcmnaa.B07
end
