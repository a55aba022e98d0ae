/-
  Words of our own for slices in memory: 'Rd': a slice value reads as a list of cells; what keeps it; appending it.
  Texts in memory: a slice of texts, texts as bytes, how the walk spells their test and their cut; a slice of texts that came in.
  A table in memory: its block, its row of texts, its map; what keeps it.
  The plain theory of a table's bytes: what they are, what is read of them, there and back, cut anywhere.
-/
import Derived.WalkKit
import Derived.WalkSpells
import Derived.Laws.OwnMore
import Derived.Laws.AppendOwnNone
import Derived.Maps.AppendAt
import Derived.Lib.Hide
import Derived.Deep.Draws
import Derived.Lib.BufferRead
import Derived.Laws.IdiomStrings
import Derived.Test.YtndcdidepdcmnaaRows
import Derived.SliceStrings
import Derived.Lib.AppendStr
import Derived.WalkLawsBesides
import Derived.Maps.OwnSet
import Derived.OneCell
import Derived.Test.YtndcdidepdcmnaaKV01Pure
section
namespace Go.Proofs.Ytndcdidepdcmnaa.Wd
open Go.RowKit Go.Lib

/-- the slice '.slice A n c' of elements of 'size' cells reads as the cells xs -/
structure Rd (size : Nat) (w : World) (A : Option Addr) (n c : Nat) (xs : List Value) : Prop where
  len : xs.length = n * size
  none_ : A = none → n = 0 ∧ c = 0
  cap : n ≤ c
  max : c ≤ maxLen
  at_ : ∀ ad, A = some ad → ∀ i u, xs[i]? = some u → w.cell? (ad.add i) = some u

variable {size n c : Nat} {w w' : World} {A : Option Addr} {xs : List Value}

theorem Rd.nil (size : Nat) (w : World) : Rd size w none 0 0 [] :=
  ⟨by simp, fun _ => ⟨rfl, rfl⟩, Nat.le_refl _, by unfold maxLen; omega, fun _ h => by cases h⟩
theorem add_block (a : Addr) (i : Nat) : (a.add i).block = a.block := by unfold Addr.add; split <;> rfl
theorem Rd.kept (h : Rd size w A n c xs) (hk : ∀ p : Addr, p.block < w.heap.size → w'.cell? p = w.cell? p) : Rd size w' A n c xs :=
  ⟨h.len, h.none_, h.cap, h.max, fun ad ha i u hu => by
    have hc := h.at_ ad ha i u hu
    rw [hk _ (World.block_lt_of_cell? _ _ hc)]
    exact hc⟩
theorem Rd.below (h : Rd size w A n c xs) (hb : Below w.heap.size w w') : Rd size w' A n c xs := h.kept fun _ hp => hb.cell hp
theorem Rd.drew (h : Rd size w A n c xs) : Rd size w.drew A n c xs := ⟨h.len, h.none_, h.cap, h.max, h.at_⟩
theorem Rd.alloc (h : Rd size w A n c xs) (o : Obj) : Rd size (w.alloc o) A n c xs := h.below ((Below.refl _ _).alloc (Nat.le_refl _) o)
/-- kept over what another row's growing writes -/
theorem Rd.grown {row : Option Nat} (h : Rd size w A n c xs) (hg : w.grownBy w' row) (hr : ∀ ad, A = some ad → 0 < n → row ≠ some ad.block) : Rd size w' A n c xs :=
  ⟨h.len, h.none_, h.cap, h.max, fun ad ha i u hu => by
    have hc := h.at_ ad ha i u hu
    have hn : 0 < n := by
      rcases Nat.eq_zero_or_pos n with h0 | h0
      · subst h0
        have : xs = [] := List.eq_nil_of_length_eq_zero (by have := h.len; omega)
        subst this
        simp at hu
      · exact h0
    have e := hg.block (ad.add i).block (World.block_lt_of_cell? _ _ hc) (by rw [add_block]; exact fun e => hr ad ha hn e.symm)
    rw [World.cell?_of_block e]
    exact hc⟩
theorem Rd.drewN (h : Rd size w A n c xs) (k : Nat) : Rd size (w.drewN k) A n c xs := ⟨h.len, h.none_, h.cap, h.max, h.at_⟩
theorem below_dn {B : Nat} (h : Below B w w') (k : Nat) : Below B w (w'.drewN k) := ⟨h.os, h.tape, h.output, h.size, h.block⟩
/-- an element of one cell -/
theorem Rd.get (h : Rd 1 w A n c xs) {k : Nat} (hk : k < n) : ∃ ad u, A = some ad ∧ xs[k]? = some u ∧ w.cell? (ad.add k) = some u := by
  have hl : k < xs.length := by have := h.len; omega
  cases hA : A with
  | none => have := h.none_ hA; omega
  | some ad => exact ⟨ad, xs[k], rfl, List.getElem?_eq_getElem hl, h.at_ ad hA k _ (List.getElem?_eq_getElem hl)⟩
/-- what the call itself owns reads so -/
theorem Rd.own {base : Nat} {e : TypeId} (h : w.ownsRow base e size (.slice A n c) n xs) : Rd size w A n c xs := by
  rcases h.2 with ⟨hv, hn⟩ | ⟨g, cap, cur, hv, hb, hg, hnc, hm, hcs, ht⟩
  · injection hv with h1 h2 h3
    subst h1; subst h2; subst h3
    have : xs = [] := List.eq_nil_of_length_eq_zero (by have := h.1; omega)
    subst this
    exact Rd.nil _ _
  · injection hv with h1 h2 h3
    subst h1; subst h3
    refine ⟨h.1, fun e => (by cases e), hnc, hm, fun ad ha i u hu => ?_⟩
    injection ha with ha
    subst ha
    have hi : i < n * size := by
      have := h.1
      rcases Nat.lt_or_ge i xs.length with hlt | hge
      · omega
      · rw [List.getElem?_eq_none hge] at hu; cases hu
    have := World.ownsRow.cellAt h i hi
    have e : (⟨g, 0, none⟩ : Addr).add i = ⟨g, i, none⟩ := by unfold Addr.add; split <;> simp_all
    rw [e, this]
    exact hu
/-- a row of one's own is kept where no block that was there turns -/
theorem own_below {base : Nat} {e : TypeId} {v : Value} (h : w.ownsRow base e size v n xs) (hb : Below w.heap.size w w') : w'.ownsRow base e size v n xs :=
  ⟨h.1, h.2.elim .inl fun ⟨g, cap, cur, hv, hbg, hg, r⟩ => .inr ⟨g, cap, cur, hv, hbg, by rw [hb.block g (Array.getElem?_eq_some_iff.1 hg).1]; exact hg, r⟩⟩
/-- its value, written out -/
theorem own_form {base : Nat} {e : TypeId} {v : Value} (h : w.ownsRow base e size v n xs) : ∃ A c, v = .slice A n c := by
  rcases h.2 with ⟨hv, hn⟩ | ⟨g, cap, cur, hv, _⟩
  · exact ⟨none, 0, by rw [hv, hn]⟩
  · exact ⟨_, _, hv⟩

/-- a row of one's own with something in it: its block, and its first cell -/
theorem own_first {base : Nat} {e : TypeId} (h : w.ownsRow base e 1 (.slice A n c) n xs) (hn : 0 < n) :
    ∃ g u, A = some ⟨g, 0, none⟩ ∧ base ≤ g ∧ g < w.heap.size ∧ xs[0]? = some u ∧ w.cell? ⟨g, 0, none⟩ = some u ∧ w.frozen? ⟨g, 0, none⟩ = false := by
  rcases h.2 with ⟨hv, h0⟩ | ⟨g, cap, cur, hv, hb, hg, _⟩
  · omega
  · injection hv with h1 h2 h3
    subst h1; subst h3
    have hx : 0 < xs.length := by have := h.1; omega
    have hc := World.ownsRow.cellAt h 0 (by omega)
    rw [List.getElem?_eq_getElem hx] at hc
    exact ⟨g, xs[0], rfl, hb, (Array.getElem?_eq_some_iff.1 hg).1, List.getElem?_eq_getElem hx, hc, World.ownsRow.frozenAt h 0⟩

/-- bytes, as cells -/
theorem bc_len (l : List UInt8) : (byteCells l).length = l.length := by simp [byteCells]
theorem bc_app (a b : List UInt8) : byteCells (a ++ b) = byteCells a ++ byteCells b := by simp [byteCells]
theorem bc_at (l : List UInt8) (k : Nat) (u : Value) (h : (byteCells l)[k]? = some u) : ∃ hk : k < l.length, u = .int .u8 (l[k].toNat : Int) := by
  simp only [byteCells, List.getElem?_map, Option.map_eq_some_iff] at h
  obtain ⟨x, h1, h2⟩ := h
  obtain ⟨hk, he⟩ := List.getElem?_eq_some_iff.1 h1
  exact ⟨hk, by rw [← h2, he]⟩
theorem bc_get (l : List UInt8) (k : Nat) (h : k < l.length) : (byteCells l)[k]? = some (.int .u8 (l[k].toNat : Int)) := by simp [byteCells, h]
theorem bc_one (l : List UInt8) : ∀ u ∈ byteCells l, u.oneCell' = true := by
  intro u hu
  simp only [byteCells, List.mem_map] at hu
  obtain ⟨x, _, rfl⟩ := hu
  rfl
/-- a slice of bytes, nil or not -/
def Bs (w : World) (A : Option Addr) (c : Nat) (l : List UInt8) : Prop := Rd 1 w A l.length c (byteCells l)
theorem Bs.below {l : List UInt8} (h : Bs w A c l) (hb : Below w.heap.size w w') : Bs w' A c l := Rd.below h hb
theorem Bs.drew {l : List UInt8} (h : Bs w A c l) : Bs w.drew A c l := Rd.drew h
theorem Bs.drewN {l : List UInt8} (h : Bs w A c l) (k : Nat) : Bs (w.drewN k) A c l := Rd.drewN h k
theorem Bs.get {l : List UInt8} (h : Bs w A c l) {k : Nat} (hk : k < l.length) : ∃ ad, A = some ad ∧ w.cell? (ad.add k) = some (.int .u8 (l[k].toNat : Int)) := by
  obtain ⟨ad, u, hA, hu, hc⟩ := Rd.get h hk
  obtain ⟨_, rfl⟩ := bc_at l k u hu
  exact ⟨ad, hA, hc⟩
/-- 'string(b)' -/
theorem Bs.str {P : Program} {l : List UInt8} (h : Bs w A c l) (src dst e : TypeId) (hs : P.underlying src = some (.slice e)) (he : P.underlying e = some (.int .u8)) (hd : P.underlying dst = some .string) :
    (convert src dst (.slice A l.length c)).run P w = .ok (.string ⟨l.toArray⟩) w := by
  cases hA : A with
  | none =>
    have h0 := (h.none_ hA).1
    have hl : l = [] := List.eq_nil_of_length_eq_zero h0
    subst hl
    exact run_convert_nil_bytes w src dst e c hs he hd
  | some ad =>
    exact run_convert_bytes_back w src dst e ad c l hs he hd fun j hj => h.at_ ad hA j _ (bc_get l j hj)

theorem Bs.nil (w : World) : Bs w none 0 [] := Rd.nil 1 w
theorem Bs.own {base : Nat} {e : TypeId} {l : List UInt8} (h : w.ownsRow base e 1 (.slice A l.length c) l.length (byteCells l)) : Bs w A c l := Rd.own h
theorem Bs.take {l : List UInt8} (h : Bs w A c l) (k : Nat) (hk : k ≤ l.length) : Bs w A c (l.take k) := by
  have hl : (l.take k).length = k := by simp; omega
  refine ⟨by simp [byteCells], fun ha => ⟨by have := (h.none_ ha).1; omega, (h.none_ ha).2⟩, by rw [hl]; exact Nat.le_trans hk h.cap, h.max, fun ad ha i u hu => ?_⟩
  refine h.at_ ad ha i u ?_
  obtain ⟨hi, rfl⟩ := bc_at _ i u hu
  rw [hl] at hi
  rw [bc_get l i (by omega)]
  simp
/-- a literal's bytes -/
theorem Bs.lit (w : World) (e : TypeId) (cs : Array Value) (l : List UInt8) (h : cs.toList = byteCells l) (hm : l.length ≤ 65536) : Bs (w.alloc (.cells cs e)) (some ⟨w.heap.size, 0, none⟩) l.length l := by
  refine Bs.own (base := w.heap.size) (e := e) ⟨by simp [byteCells], .inr ⟨w.heap.size, l.length, cs, rfl, Nat.le_refl _, heap_alloc_new w _, Nat.le_refl _, by unfold maxLen; omega, ?_, ?_⟩⟩
  · rw [← Array.length_toList, h, bc_len]; omega
  · rw [h, List.take_of_length_le (by rw [bc_len]; omega)]
/-- a constant text's bytes (its row bears the run-time's mark) -/
theorem Bs.const (w : World) (e : TypeId) (fr : Nat × Nat) (cs : Array Value) (l : List UInt8) (h : cs.toList = byteCells l) (hm : l.length ≤ 65536) : Bs (w.alloc (.cells cs e fr)) (some ⟨w.heap.size, 0, none⟩) l.length l := by
  refine ⟨by rw [bc_len]; omega, fun e => (by cases e), Nat.le_refl _, by unfold maxLen; omega, fun ad ha i u hu => ?_⟩
  injection ha with ha
  subst ha
  have e1 : (⟨w.heap.size, 0, none⟩ : Addr).add i = ⟨w.heap.size, i, none⟩ := by unfold Addr.add; split <;> simp_all
  have e2 := World.cell?_alloc_mark w cs e fr i
  rw [e1, e2, ← Array.getElem?_toList, h]
  exact hu
/-- the empty literal, owned -/
theorem own_empty (w : World) (e : TypeId) : (w.alloc (.cells #[] e)).ownsRow w.heap.size e 1 (.slice (some ⟨w.heap.size, 0, none⟩) 0 0) 0 [] :=
  World.ownsRow_made w #[] 0 (Nat.le_refl _) (by unfold maxLen; omega) (by simp)
/-- an argument's bytes, as the shell of a proof hands them -/
theorem Bs.of_row {zs : List Int} {n : Nat} (h : (A = none ∧ n = 0 ∧ c = 0 ∧ zs = []) ∨
    ∃ x, A = some x ∧ n ≤ c ∧ c ≤ maxLen ∧ zs.length = c ∧ (∀ i, i < zs.length → w.cell? (x.add i) = some (.int .u8 (zs.getD i 0))) ∧ ∀ y ∈ zs, (Lit.int .u8 y).wf = true) :
    ∃ l : List UInt8, l.length = n ∧ Bs w A c l := by
  rcases h with ⟨rfl, rfl, rfl, rfl⟩ | ⟨x, rfl, hnc, hc, hz, hcell, hwf⟩
  · exact ⟨[], rfl, Bs.nil w⟩
  · have hb : ∀ i, i < n → 0 ≤ zs.getD i 0 ∧ zs.getD i 0 ≤ 255 := by
      intro i hi
      have hm : zs.getD i 0 ∈ zs := by
        rw [List.getD_eq_getElem?_getD, List.getElem?_eq_getElem (by omega)]
        exact List.getElem_mem _
      have := hwf _ hm
      simpa [Lit.wf, IntKind.min, IntKind.max, IntKind.signed, IntKind.bits] using this
    refine ⟨(List.range n).map fun i => UInt8.ofNat (zs.getD i 0).toNat, by simp, by simp [byteCells], (fun e => by cases e), by simpa using hnc, hc, fun ad ha i u hu => ?_⟩
    injection ha with ha
    subst ha
    obtain ⟨hi, rfl⟩ := bc_at _ i u hu
    have hi' : i < n := by simpa using hi
    rw [hcell i (by omega)]
    have := hb i hi'
    simp only [List.getElem_map, List.getElem_range]
    congr 2
    rw [UInt8.toNat_ofNat_of_lt' (by show _ < 256; omega)]
    omega

/-- where 's[k:]' begins: a slice cut at its very end keeps its address -/
def cutA (A : Option Addr) (c k : Nat) : Option Addr := if c = k then A else A.map (·.add k)
theorem add_add (a : Addr) (i j : Nat) : (a.add i).add j = a.add (i + j) := by
  unfold Addr.add
  by_cases hi : i = 0
  · simp [hi]
  · by_cases hj : j = 0
    · simp [hj]
    · simp [hi, hj, Nat.add_assoc]
theorem Bs.drop {l : List UInt8} (h : Bs w A c l) (k : Nat) (hk : k ≤ l.length) : Bs w (cutA A c k) (c - k) (l.drop k) := by
  have hc := h.cap
  have hm := h.max
  refine ⟨by simp [byteCells], fun ha => ?_, by simp; omega, by omega, fun ad ha i u hu => ?_⟩
  · unfold cutA at ha
    split at ha
    · rename_i hck
      exact ⟨by simp; omega, by omega⟩
    · simp only [Option.map_eq_none_iff] at ha
      have := h.none_ ha
      exact ⟨by simp; omega, by omega⟩
  · obtain ⟨hi, rfl⟩ := bc_at _ i u hu
    simp only [List.length_drop] at hi
    unfold cutA at ha
    rw [if_neg (by omega)] at ha
    cases hA : A with
    | none => rw [hA] at ha; cases ha
    | some a0 =>
      rw [hA] at ha
      simp only [Option.map_some, Option.some.injEq] at ha
      subst ha
      rw [add_add, h.at_ a0 hA (k + i) _ (bc_get l (k + i) (by omega))]
      simp
/-- a slice of numbers of 64 bits -/
def Us (w : World) (A : Option Addr) (c : Nat) (l : List Nat) : Prop := Rd 1 w A l.length c (l.map fun (x : Nat) => Value.int .u64 (x : Int)) ∧ ∀ x ∈ l, (x : Int) ≤ 18446744073709551615
theorem Us.below {l : List Nat} (h : Us w A c l) (hb : Below w.heap.size w w') : Us w' A c l := ⟨Rd.below h.1 hb, h.2⟩
theorem Us.get {l : List Nat} (h : Us w A c l) {k : Nat} (hk : k < l.length) : ∃ ad, A = some ad ∧ w.cell? (ad.add k) = some (.int .u64 (l[k] : Int)) ∧ (l[k] : Int) ≤ 18446744073709551615 := by
  obtain ⟨ad, u, hA, hu, hc⟩ := Rd.get h.1 hk
  simp only [List.getElem?_map, List.getElem?_eq_getElem hk, Option.map_some, Option.some.injEq] at hu
  subst hu
  exact ⟨ad, hA, hc, h.2 _ (List.getElem_mem hk)⟩
theorem Us.of_row {zs : List Int} {n : Nat} (h : (A = none ∧ n = 0 ∧ c = 0 ∧ zs = []) ∨
    ∃ x, A = some x ∧ n ≤ c ∧ c ≤ maxLen ∧ zs.length = c ∧ (∀ i, i < zs.length → w.cell? (x.add i) = some (.int .u64 (zs.getD i 0))) ∧ ∀ y ∈ zs, (Lit.int .u64 y).wf = true) :
    ∃ l : List Nat, l.length = n ∧ Us w A c l := by
  rcases h with ⟨rfl, rfl, rfl, rfl⟩ | ⟨x, rfl, hnc, hc, hz, hcell, hwf⟩
  · exact ⟨[], rfl, Rd.nil 1 w, by simp⟩
  · have hb : ∀ i, i < n → 0 ≤ zs.getD i 0 ∧ zs.getD i 0 ≤ 18446744073709551615 := by
      intro i hi
      have hm : zs.getD i 0 ∈ zs := by
        rw [List.getD_eq_getElem?_getD, List.getElem?_eq_getElem (by omega)]
        exact List.getElem_mem _
      have := hwf _ hm
      simpa [Lit.wf, IntKind.min, IntKind.max, IntKind.signed, IntKind.bits] using this
    refine ⟨(List.range n).map fun i => (zs.getD i 0).toNat, by simp, ⟨by simp, (fun e => by cases e), by simpa using hnc, hc, fun ad ha i u hu => ?_⟩, fun y hy => ?_⟩
    · injection ha with ha
      subst ha
      simp only [List.map_map, List.getElem?_map, Option.map_eq_some_iff] at hu
      obtain ⟨j, hj, rfl⟩ := hu
      obtain ⟨hi, rfl⟩ := List.getElem?_eq_some_iff.1 hj
      simp only [List.length_range] at hi
      simp only [List.getElem_range, Function.comp]
      rw [hcell i (by omega)]
      have := hb i hi
      rw [Int.toNat_of_nonneg this.1]
    · simp only [List.mem_map, List.mem_range] at hy
      obtain ⟨i, hi, rfl⟩ := hy
      have := hb i hi
      omega

/-- 'append(own, src...)': the source nil or not -/
theorem wpList_append_rd {P : Program} (w : World) {ops : Array Oper} {rest : List Oper} {o : Oper} {a : Act} {Q : Exit → Act → World → Prop} (hgd : o.guard = none) (s x : Operand) (t : TypeId)
    (ho : o.op = .call { callee := .builtin .append, args := #[s, x], argTypes := #[t, t] })
    (base : Nat) (e : TypeId) (i : TypeInfo) (z : Value) (size bytes : Nat) (ht : P.underlying t = some (.slice e)) (hi : P.info? e = some i) (hz : i.zero = some z)
    (hsize : i.size = size) (hby : i.bytes = bytes) (hzs : z.cells.size = size) (hsz : 0 < size)
    (v : Value) (n : Nat) (xs : List Value) (hs : a.eval s = v) (hown : w.ownsRow base e size v n xs)
    (A : Option Addr) (m c : Nat) (news : List Value) (hx : a.eval x = .slice A m c) (hr : Rd size w A m c news) (h1 : ∀ u ∈ news, u.oneCell' = true)
    (h63 : n + m ≤ maxLen) (hbytes : (n + m) * bytes ≤ 140737488355328) (hbase : base ≤ w.heap.size)
    (h : ∀ A' c' w', w'.ownsRow base e size (.slice A' (n + m) c') (n + m) (xs ++ news) → w.grownBy w' v.ownBlock → wpList P ops Q rest (a.put o.dst (.slice A' (n + m) c')) w') : wpList P ops Q (o :: rest) a w := by
  cases hA : A with
  | none =>
    obtain ⟨rfl, rfl⟩ := hr.none_ hA
    have hn : news = [] := List.eq_nil_of_length_eq_zero (by have := hr.len; omega)
    subst hn
    subst hA
    obtain ⟨A1, c1, hv⟩ := own_form hown
    refine wpList_append_own_none hgd s x t ho base e i size ht hi v n xs hs hown hx ?_
    have := h A1 c1 w (by rw [Nat.add_zero, List.append_nil, ← hv]; exact hown) (World.grownBy.refl w _)
    rw [Nat.add_zero, ← hv] at this
    exact this
  | some ad =>
    refine wpList_append_own w hgd s x t ho base e i z size bytes ht hi hz hsize hby hzs hsz v n xs hs hown ad m c news (by rw [hx, hA]) hr.len (hr.at_ ad hA) h1 h63 hbytes hbase fun v' w' h2 h3 _ => ?_
    obtain ⟨A1, c1, hv⟩ := own_form h2
    subst hv
    exact h A1 c1 w' h2 h3

/-- 'append(own, x)': one element of one cell, which the call lays in a block of its own first -/
theorem wpList_append_one {P : Program} (w : World) {ops : Array Oper} {rest : List Oper} {o : Oper} {a : Act} {Q : Exit → Act → World → Prop} (hgd : o.guard = none) (s x : Operand) (t : TypeId)
    (ho : o.op = .call { callee := .builtin .append, args := #[s, x], argTypes := #[t, t] })
    (base : Nat) (e : TypeId) (i : TypeInfo) (z : Value) (bytes : Nat) (ht : P.underlying t = some (.slice e)) (hi : P.info? e = some i) (hz : i.zero = some z)
    (hsize : i.size = 1) (hby : i.bytes = bytes) (hzs : z.cells.size = 1)
    (v : Value) (n : Nat) (xs : List Value) (hs : a.eval s = v) (hown : w.ownsRow base e 1 v n xs)
    (u : Value) (hx : a.eval x = .slice (some ⟨w.heap.size, 0, none⟩) 1 1) (h1 : u.oneCell' = true)
    (h63 : n + 1 ≤ maxLen) (hbytes : (n + 1) * bytes ≤ 140737488355328) (hbase : base ≤ w.heap.size)
    (h : ∀ A' c' w', w'.ownsRow base e 1 (.slice A' (n + 1) c') (n + 1) (xs ++ [u]) → Below base w w' → wpList P ops Q rest (a.put o.dst (.slice A' (n + 1) c')) w') :
    wpList P ops Q (o :: rest) a (w.alloc (.cells #[u] e)) := by
  refine wpList_append_own _ hgd s x t ho base e i z 1 bytes ht hi hz hsize hby hzs (by decide) v n xs hs (hown.alloc _) ⟨w.heap.size, 0, none⟩ 1 1 [u] hx rfl ?_ ?_ h63 hbytes ?_ fun v' w' h2 h3 _ => ?_
  · exact cell_one_new _ _ _
  · intro q hq
    simp only [List.mem_singleton] at hq
    subst hq
    exact h1
  · simp; omega
  · obtain ⟨A1, c1, hv⟩ := own_form h2
    subst hv
    refine h A1 c1 w' h2 ?_
    exact ((Below.refl _ _).alloc hbase _).grown h3 (by simp; omega) fun k hk => (hown.lt k hk).1

end Go.Proofs.Ytndcdidepdcmnaa.Wd
end

section
namespace Go.Proofs.Ytndcdidepdcmnaa.Wd
open Go.RowKit Go.Lib
variable {w w' : World}
theorem text_info : (Try.prog.info? 9).map (fun i => (i.zero, i.size, i.bytes)) = some (some (.string ByteArray.empty), 1, 16) := by kernel_rfl
/-- texts, as cells -/
def sc (L : List ByteArray) : List Value := L.map Value.string
theorem sc_len (L : List ByteArray) : (sc L).length = L.length := by simp [sc]
theorem sc_app (a b : List ByteArray) : sc (a ++ b) = sc a ++ sc b := by simp [sc]
theorem sc_get (L : List ByteArray) (k : Nat) (h : k < L.length) : (sc L)[k]? = some (.string L[k]) := by simp [sc, h]
theorem sc_at (L : List ByteArray) (k : Nat) (u : Value) (h : (sc L)[k]? = some u) : ∃ hk : k < L.length, u = .string L[k] := by
  simp only [sc, List.getElem?_map, Option.map_eq_some_iff] at h
  obtain ⟨x, h1, h2⟩ := h
  obtain ⟨hk, he⟩ := List.getElem?_eq_some_iff.1 h1
  exact ⟨hk, by rw [← h2, he]⟩
theorem sc_one (L : List ByteArray) : ∀ u ∈ sc L, u.oneCell' = true := by
  intro u hu
  simp only [sc, List.mem_map] at hu
  obtain ⟨x, _, rfl⟩ := hu
  rfl
/-- a slice of texts, nil or not -/
def Ss (w : World) (A : Option Addr) (c : Nat) (L : List ByteArray) : Prop := Rd 1 w A L.length c (sc L)
theorem Ss.below {A : Option Addr} {c : Nat} {L : List ByteArray} (h : Ss w A c L) (hb : Below w.heap.size w w') : Ss w' A c L := Rd.below h hb
theorem Ss.get {A : Option Addr} {c : Nat} {L : List ByteArray} (h : Ss w A c L) {k : Nat} (hk : k < L.length) : ∃ ad, A = some ad ∧ w.cell? (ad.add k) = some (.string L[k]) := by
  obtain ⟨ad, u, hA, hu, hc⟩ := Rd.get h hk
  obtain ⟨_, rfl⟩ := sc_at L k u hu
  exact ⟨ad, hA, hc⟩
theorem Ss.own {base : Nat} {e : TypeId} {A : Option Addr} {c : Nat} {L : List ByteArray} (h : w.ownsRow base e 1 (.slice A L.length c) L.length (sc L)) : Ss w A c L := Rd.own h

def bs (s : ByteArray) : List UInt8 := s.data.toList
def str (l : List UInt8) : ByteArray := ⟨l.toArray⟩
theorem bs_len (s : ByteArray) : (bs s).length = s.size := Array.length_toList
theorem str_bs (s : ByteArray) : str (bs s) = s := by simp [str, bs]
theorem str_size (l : List UInt8) : (str l).size = l.length := List.size_toArray
theorem sc_bs (s : ByteArray) : strCells s = byteCells (bs s) := rfl
/-- 'append(own, s...)', s a text -/
theorem wpList_append_text {P : Program} (w : World) {ops : Array Oper} {rest : List Oper} {o : Oper} {a : Act} {Q : Exit → Act → World → Prop} (hgd : o.guard = none) (sl x : Operand) (t u : TypeId)
    (ho : o.op = .call { callee := .builtin .append, args := #[sl, x], argTypes := #[t, u] })
    (base : Nat) (e : TypeId) (i : TypeInfo) (ht : P.underlying t = some (.slice e)) (hu : P.underlying u = some .string) (hi : P.info? e = some i) (hz : i.zero = some (.int .u8 0))
    (hsize : i.size = 1) (hby : i.bytes = 1)
    (v : Value) (n : Nat) (xs : List Value) (hs : a.eval sl = v) (hown : w.ownsRow base e 1 v n xs) (s : ByteArray) (hx : a.eval x = .string s)
    (h63 : n + s.size ≤ maxLen) (hbytes : n + s.size ≤ 140737488355328) (hbase : base ≤ w.heap.size)
    (h : ∀ A' c' w', w'.ownsRow base e 1 (.slice A' (n + s.size) c') (n + s.size) (xs ++ byteCells (bs s)) → w.grownBy w' v.ownBlock → wpList P ops Q rest (a.put o.dst (.slice A' (n + s.size) c')) w') : wpList P ops Q (o :: rest) a w := by
  refine wpList_append_own_string w hgd sl x t u ho base e i ht hu hi hz hsize hby v n xs hs hown s hx h63 hbytes hbase fun v' w' h2 h3 _ => ?_
  obtain ⟨A1, c1, hv⟩ := own_form h2
  subst hv
  exact h A1 c1 w' h2 h3

/-- two texts, as the walk spells their test -/
theorem eq_tl {a b : ByteArray} (h : a = b) : (a.toList == b.toList) = true := by rw [h]; simp
theorem ne_tl {a b : ByteArray} (h : a ≠ b) : (a.toList == b.toList) = false := by
  rw [beq_eq_false_iff_ne]
  intro e
  rw [ByteArray.toList_eq, ByteArray.toList_eq] at e
  exact h (ByteArray.ext (Array.toList_inj.1 e))
theorem conv_zero (A : Option Addr) (c : Nat) (w : World) : (convert 25 9 (.slice A 0 c)).run Try.prog w = .ok (.string ByteArray.empty) w := by
  cases A with
  | none => exact run_convert_nil_bytes w 25 9 5 c Try.underlying25 Try.underlying5 Try.underlying9
  | some ad => exact run_convert_bytes_back w 25 9 5 ad c [] Try.underlying25 Try.underlying5 Try.underlying9 (fun j hj => by simp at hj)
/-- a text cut out of a slice of bytes, as the walk spells it -/
theorem cut_conv {A : Option Addr} {c : Nat} {l : List UInt8} {w : World} (ha : Bs w A c l) (k n : Nat) (h : k + n ≤ l.length) : c ≠ k →
    (convert 25 9 (.slice (A.map (·.add k)) n (c - k))).run Try.prog w = .ok (.string (str ((l.drop k).take n))) w := fun hck => by
  have hcv := ((ha.drop k (by omega)).take n (by simp; omega)).str (P := Try.prog) 25 9 5 Try.underlying25 Try.underlying5 Try.underlying9
  unfold cutA at hcv
  rw [if_neg hck, show ((l.drop k).take n).length = n by simp; omega] at hcv
  exact hcv


/-- an argument of type []string, as the row's reading gives it -/
theorem Ss.of_trod {H : Type} {enc : TypeId × Value → H} {P : Program} {base : Nat} {held : Bool} {t e : TypeId} {fuel : Nat} {x : DataW H × List MemPlace} {a : Option Addr} {len cap : Nat}
    (ht : P.underlying t = some (.slice e)) (he : P.underlying e = some .string) (ce : P.cellsOf e = 1)
    (h : DataW.trod enc P w base (fun _ => true) held fuel t (Value.slice a len cap).cells.toList = some x) : ∃ L : List ByteArray, (Ss w a cap L ∧ ∀ s ∈ L, s.size ≤ maxLen) ∧ L.length = len := by
  rcases ChangeShapes.open_strings ht he ce h with ⟨hcs, _⟩ | ⟨a', len', cap', ss, hcs, _, hl, hm, hz, _, hcell, hsz⟩
  · simp [Value.cells] at hcs
    obtain ⟨rfl, rfl, rfl⟩ := hcs
    exact ⟨[], ⟨Rd.nil 1 w, by simp⟩, rfl⟩
  · simp [Value.cells] at hcs
    obtain ⟨rfl, rfl, rfl⟩ := hcs
    simp only [if_true] at hz
    have hlen : (ss.take len).length = len := by rw [List.length_take]; omega
    refine ⟨ss.take len, ⟨⟨by rw [sc_len, Nat.mul_one], fun e => (by cases e), by rw [hlen]; exact hl, hm, fun ad ha i u hu => ?_⟩, fun s hs => hsz s (List.mem_of_mem_take hs)⟩, hlen⟩
    injection ha with ha
    subst ha
    obtain ⟨hi, rfl⟩ := sc_at _ i u hu
    have hi2 : i < ss.length := by rw [List.length_take] at hi; omega
    rw [hcell i hi2, List.getElem_take]
    simp [List.getD, hi2]
end Go.Proofs.Ytndcdidepdcmnaa.Wd
end

section
namespace Go.Proofs.Ytndcdidepdcmnaa.S05
open Go.RowKit Go.Lib Go.Maps Go.Proofs.Ytndcdidepdcmnaa.Wd

/-- all blocks that were there but those of o are as they were -/
structure Fr (o : List Nat) (w w' : World) : Prop where
  os : w'.os = w.os
  tape : w'.tape = w.tape
  output : w'.output = w.output
  size : w.heap.size ≤ w'.heap.size
  block : ∀ k, k < w.heap.size → k ∉ o → w'.heap[k]? = w.heap[k]?
/-- each block of o' is one of o, or it is new -/
def Sub (w : World) (o' o : List Nat) : Prop := ∀ x ∈ o', x ∈ o ∨ w.heap.size ≤ x

variable {w w' : World} {o o' : List Nat}
theorem Fr.refl (o : List Nat) (w : World) : Fr o w w := ⟨rfl, rfl, rfl, Nat.le_refl _, fun _ _ _ => rfl⟩
theorem Fr.trans {a b c : World} (h : Fr o a b) (k : Fr o' b c) (hs : Sub a o' o) : Fr o a c :=
  ⟨k.os.trans h.os, k.tape.trans h.tape, k.output.trans h.output, Nat.le_trans h.size k.size, fun i hi hn =>
    (k.block i (Nat.lt_of_lt_of_le hi h.size) (fun hm => by rcases hs i hm with h1 | h1; exact hn h1; omega)).trans (h.block i hi hn)⟩
theorem Fr.of_below (o : List Nat) (h : Below w.heap.size w w') : Fr o w w' := ⟨h.os, h.tape, h.output, h.size, fun k hk _ => h.block k hk⟩
theorem Fr.below {B : Nat} (h : Fr o w w') (hB : B ≤ w.heap.size) (ho : ∀ x ∈ o, B ≤ x) : Below B w w' :=
  ⟨h.os, h.tape, h.output, h.size, fun k hk => h.block k (by omega) (fun hm => by have := ho k hm; omega)⟩
theorem Fr.of_grown {row : Option Nat} (h : w.grownBy w' row) (hr : ∀ k, row = some k → k ∈ o) : Fr o w w' :=
  ⟨h.os, h.tape, h.output, h.size, fun k hk hn => h.block k hk (fun e => hn (hr k e.symm))⟩
theorem Fr.setCell (w : World) (a : Addr) (v : Value) (ha : a.block ∈ o) : Fr o w (w.setCell a v) :=
  ⟨rfl, rfl, rfl, by simp, fun k _ hn => heap_setCell_other w a k v (fun e => hn (e ▸ ha))⟩
theorem Sub.refl (w : World) (o : List Nat) : Sub w o o := fun _ h => .inl h
theorem Sub.trans {a b : World} {o1 o2 o3 : List Nat} (h : Sub a o2 o1) (k : Sub b o3 o2) (hl : a.heap.size ≤ b.heap.size) : Sub a o3 o1 := fun x hx => by
  rcases k x hx with h1 | h1
  · exact h x h1
  · exact .inr (Nat.le_trans hl h1)
/-- all of o at or above B: so are those of o' -/
theorem Sub.above {B : Nat} (h : Sub w o' o) (hB : B ≤ w.heap.size) (ho : ∀ x ∈ o, B ≤ x) : ∀ x ∈ o', B ≤ x := fun x hx => by
  rcases h x hx with h1 | h1
  · exact ho x h1
  · omega

/-- a text as a key -/
def kl (s : ByteArray) : Lit := .string s.data.toList
theorem kl_inj {s t : ByteArray} (h : kl s = kl t) : s = t := by
  unfold kl at h
  injection h with h
  exact ByteArray.ext (Array.toList_inj.1 h)
theorem kl_key (s : ByteArray) : WideAt.IsKeyLit (kl s) := by simp [kl, WideAt.IsKeyLit]

def num (i : Nat) : DataW Unit := .lit (.int .i64 (i : Int))
abbrev Own (w : World) (b n : Nat) (D : DataW Unit) : Prop := w.ownsMap Try.prog 9 (plainElem Try.prog 3) b n D
/-- the map has just the texts of L, each with its place -/
structure Tells (D : DataW Unit) (L : List ByteArray) : Prop where
  isMap : IsMap D
  has : ∀ s, Maps.has D (kl s) = true ↔ s ∈ L
  at_ : ∀ i (h : i < L.length), D.atKey (kl L[i]) (num 0) = num i
theorem Tells.empty : Tells (.map []) [] := ⟨isMap_empty, fun s => by simp [Maps.has], fun i h => by simp at h⟩
theorem Tells.put {D : DataW Unit} {L : List ByteArray} (h : Tells D L) (s : ByteArray) (hs : s ∉ L) : Tells (D.put (kl s) (num L.length)) (L ++ [s]) := by
  refine ⟨h.isMap.put _ _, fun t => ?_, fun i hi => ?_⟩
  · by_cases e : t = s
    · subst e
      rw [has_put_same h.isMap (kl_key t)]
      simp
    · rw [has_put_other (fun e' => e (kl_inj e')), h.has t]
      simp [e]
  · by_cases hl : i < L.length
    · rw [List.getElem_append_left hl, atKey_put_other (fun e' => hs (by rw [← kl_inj e']; exact List.getElem_mem hl)), h.at_ i hl]
    · have : i = L.length := by simp at hi; omega
      subst this
      rw [List.getElem_append_right (Nat.le_refl _)]
      simp only [Nat.sub_self, List.getElem_cons_zero]
      rw [atKey_put_same h.isMap (kl_key s)]
def MapOk (w : World) (M : Option Nat) (L : List ByteArray) : Prop := (M = none ∧ L = []) ∨ ∃ bm D, M = some bm ∧ Own w bm L.length D ∧ Tells D L

/-- block p is a table that has the texts L: its row is A, its map M -/
structure Tb (w : World) (p : Nat) (L : List ByteArray) (A : Option Addr) (c : Nat) (M : Option Nat) : Prop where
  box : w.heap[p]? = some (.cells #[.slice A L.length c, .map M] 94 (0, 0))
  row : w.ownsRow 0 9 1 (.slice A L.length c) L.length (sc L)
  map : MapOk w M L
  apart : ∀ a, A = some a → a.block ≠ p
  nodup : L.Nodup
  len : L.length ≤ 4096
  size : ∀ s ∈ L, s.size ≤ 4096
def own (p : Nat) (A : Option Addr) (M : Option Nat) : List Nat := p :: ((A.map (·.block)).toList ++ M.toList)
theorem own_p (p : Nat) (A : Option Addr) (M : Option Nat) : p ∈ own p A M := by simp [own]
theorem own_row (p : Nat) (a : Addr) (M : Option Nat) : a.block ∈ own p (some a) M := by simp [own]
theorem own_map (p : Nat) (A : Option Addr) (m : Nat) : m ∈ own p A (some m) := by simp [own]
variable {p : Nat} {L : List ByteArray} {A : Option Addr} {c : Nat} {M : Option Nat}
theorem own_cases {x : Nat} (h : x ∈ own p A M) : x = p ∨ (∃ a, A = some a ∧ x = a.block) ∨ M = some x := by
  simp only [own, List.mem_cons, List.mem_append, Option.mem_toList, Option.map_eq_some_iff] at h
  rcases h with h | ⟨a, h1, h2⟩ | h
  · exact .inl h
  · exact .inr (.inl ⟨a, h1, h2.symm⟩)
  · exact .inr (.inr h)
theorem row_kept {v : Value} {n : Nat} {xs : List Value} {base : Nat} {e : TypeId} (h : w.ownsRow base e 1 v n xs) (hk : ∀ k, v.ownBlock = some k → w'.heap[k]? = w.heap[k]?) : w'.ownsRow base e 1 v n xs :=
  ⟨h.1, h.2.elim .inl fun ⟨g, cap, cur, hv, hbg, hg, r⟩ => .inr ⟨g, cap, cur, hv, hbg, by rw [hk g (by rw [hv]; rfl)]; exact hg, r⟩⟩
theorem map_kept {R : Value → Option (DataW Unit × List MemPlace)} {P : Program} {k : TypeId} {b n : Nat} {D : DataW Unit} (h : w.ownsMap P k R b n D) (hk : w'.heap[b]? = w.heap[b]?) : w'.ownsMap P k R b n D := by
  obtain ⟨es, clock, hb, r⟩ := h
  exact ⟨es, clock, hk.trans hb, r⟩
theorem Tb.lt (h : Tb w p L A c M) : ∀ x ∈ own p A M, x < w.heap.size := by
  intro x hx
  rcases own_cases hx with rfl | ⟨a, rfl, rfl⟩ | rfl
  · exact lt_of_block h.box
  · rcases h.row.2 with ⟨hv, _⟩ | ⟨g, cap, cur, hv, _, hg, _⟩
    · cases hv
    · injection hv with h1
      cases h1
      exact lt_of_block hg
  · rcases h.map with ⟨hm, _⟩ | ⟨bm, D, hm, hown, _⟩
    · cases hm
    · cases hm
      exact hown.lt
theorem Tb.same (h : Tb w p L A c M) (hk : ∀ x ∈ own p A M, w'.heap[x]? = w.heap[x]?) : Tb w' p L A c M := by
  refine ⟨(hk p (own_p p A M)).trans h.box, row_kept h.row (fun k hv => ?_), ?_, h.apart, h.nodup, h.len, h.size⟩
  · cases A with
    | none => cases hv
    | some a =>
      injection hv with hv
      subst hv
      exact hk _ (own_row p a M)
  · rcases h.map with ⟨hm, hl⟩ | ⟨bm, D, hm, hown, ht⟩
    · exact .inl ⟨hm, hl⟩
    · subst hm
      exact .inr ⟨bm, D, rfl, map_kept hown (hk _ (own_map p A bm)), ht⟩

/-- a table with the texts L, whose blocks are o -/
def Tab (w : World) (p : Nat) (L : List ByteArray) (o : List Nat) : Prop := ∃ A c M, Tb w p L A c M ∧ o = own p A M
theorem Tab.lt (h : Tab w p L o) : ∀ x ∈ o, x < w.heap.size := by
  obtain ⟨A, c, M, h, rfl⟩ := h
  exact h.lt
theorem Tab.fr (h : Tab w p L o) (f : Fr o' w w') (hd : ∀ x ∈ o, x ∉ o') : Tab w' p L o := by
  have hl := h.lt
  obtain ⟨A, c, M, h, rfl⟩ := h
  exact ⟨A, c, M, h.same fun x hx => f.block x (hl x hx) (hd x hx), rfl⟩
theorem Tab.below (h : Tab w p L o) (hb : Below w.heap.size w w') : Tab w' p L o := h.fr (Fr.of_below [] hb) (fun _ _ hx => by cases hx)
theorem Tab.len (h : Tab w p L o) : L.length ≤ 4096 := by obtain ⟨A, c, M, h, rfl⟩ := h; exact h.len
theorem Tab.size (h : Tab w p L o) : ∀ s ∈ L, s.size ≤ 4096 := by obtain ⟨A, c, M, h, rfl⟩ := h; exact h.size
theorem Tab.nodup (h : Tab w p L o) : L.Nodup := by obtain ⟨A, c, M, h, rfl⟩ := h; exact h.nodup
/-- where a text stands -/
def ix (L : List ByteArray) (s : ByteArray) : Nat := L.findIdx (fun x => decide (x = s))
theorem ix_lt {L : List ByteArray} {s : ByteArray} (h : s ∈ L) : ix L s < L.length := List.findIdx_lt_length_of_exists ⟨s, h, by simp⟩
theorem ix_get {L : List ByteArray} {s : ByteArray} (h : s ∈ L) : L[ix L s]'(ix_lt h) = s := by
  have := List.findIdx_getElem (p := fun x => decide (x = s)) (xs := L) (w := ix_lt h)
  exact of_decide_eq_true this
theorem nd_inj {L : List ByteArray} (hn : L.Nodup) {i j : Nat} (hi : i < L.length) (hj : j < L.length) (h : L[i] = L[j]) : i = j := by
  rcases Nat.lt_trichotomy i j with h1 | h1 | h1
  · exact absurd h (List.pairwise_iff_getElem.1 hn i j hi hj h1)
  · exact h1
  · exact absurd h.symm (List.pairwise_iff_getElem.1 hn j i hj hi h1)
theorem ix_of {L : List ByteArray} (hn : L.Nodup) {i : Nat} (h : i < L.length) : ix L L[i] = i :=
  nd_inj hn (ix_lt (List.getElem_mem h)) h (ix_get (List.getElem_mem h))

/-- a new slice's row is the elder one's, or new -/
theorem at_sub {v v' : Value} {x : Nat} (h : v'.ownBlock = v.ownBlock ∨ v'.ownBlock = some w.heap.size) (hx : v'.ownBlock = some x) : v.ownBlock = some x ∨ w.heap.size ≤ x := by
  rcases h with h | h
  · exact .inl (by rw [← h]; exact hx)
  · rw [h] at hx
    injection hx with hx
    exact .inr (by omega)
end Go.Proofs.Ytndcdidepdcmnaa.S05
end

section
namespace Go.Proofs.Ytndcdidepdcmnaa.S05
open Go.Proofs.Ytndcdidepdcmnaa.V01 Go.Proofs.Ytndcdidepdcmnaa.Wd

theorem getF_bd : ∀ (l : List Nat) (i acc : Nat), (getF i acc l).2.1 ≤ i + l.length ∧ (getF i acc l).2.2 ≤ 11 := by
  intro l
  induction l with
  | nil => intro i acc; simp [getF]
  | cons c r ih =>
    intro i acc
    simp only [getF]
    split
    · simp
    · split
      · have := ih (i + 1) (acc + c % 128 * 2 ^ (7 * i))
        simp only [List.length_cons]
        omega
      · split
        · simp
        · simp only [List.length_cons]
          omega
theorem get_bd {l : List UInt8} {m k e : Nat} (h : getF 0 0 (nat8 l) = (m, k, e)) : k ≤ l.length ∧ e ≤ 11 := by
  have := getF_bd (nat8 l) 0 0
  rw [h, nat8_len] at this
  simpa using this

def one (s : ByteArray) : List UInt8 := vby s.size ++ bs s
def tx : List ByteArray → List UInt8
  | [] => []
  | s :: r => one s ++ tx r
theorem tx_app (a b : List ByteArray) : tx (a ++ b) = tx a ++ tx b := by
  induction a with
  | nil => rfl
  | cons x r ih => simp [tx, ih]
theorem tx_snoc (a : List ByteArray) (s : ByteArray) : tx (a ++ [s]) = tx a ++ one s := by simp [tx_app, tx]
def tb (L : List ByteArray) : List UInt8 := vby L.length ++ tx L
theorem vby_le (n : Nat) : (vby n).length ≤ 10 := by rw [vby_len]; exact vsize_le n
theorem vby_pos (n : Nat) : 0 < (vby n).length := by rw [vby_len]; exact vsize_pos n
theorem one_len (s : ByteArray) : (one s).length ≤ 10 + s.size := by
  have := vby_le s.size
  simp only [one, List.length_append, bs_len]
  omega
theorem tx_len (q : Nat) : ∀ L : List ByteArray, (∀ s ∈ L, s.size ≤ q) → (tx L).length ≤ L.length * (q + 10)
  | [], _ => by simp [tx]
  | s :: r, h => by
    have h1 := one_len s
    have h2 := h s (by simp)
    have h3 := tx_len q r (fun t ht => h t (by simp [ht]))
    simp only [tx, List.length_append, List.length_cons, Nat.add_mul]
    omega
theorem tb_pos (L : List ByteArray) : 0 < (tb L).length := by
  have := vby_pos L.length
  simp only [tb, List.length_append]
  omega

open Classical in
/-- what readText answers: how many bytes, the error, the text -/
noncomputable def rtF (L : List ByteArray) (b : List UInt8) : Nat × Nat × ByteArray :=
  match getF 0 0 (nat8 b) with
  | (m, k, e) =>
    if e ≠ 0 then (0, e, ByteArray.empty)
    else if 4096 < m then (0, 11, ByteArray.empty)
    else if b.length < k + m then (0, 10, ByteArray.empty)
    else if str ((b.drop k).take m) ∈ L then (0, 11, ByteArray.empty)
    else (k + m, 0, str ((b.drop k).take m))
noncomputable def rdF : Nat → List ByteArray → List UInt8 → Nat → List ByteArray × Nat × Nat
  | 0, L, _, u => (L, u, 0)
  | n + 1, L, b, u => match rtF L (b.drop u) with
    | (k, e, s) => if e ≠ 0 then ([], 0, e) else rdF n (L ++ [s]) b (u + k)
noncomputable def readF (b : List UInt8) : List ByteArray × Nat × Nat :=
  match getF 0 0 (nat8 b) with
  | (n, k, e) => if e ≠ 0 then ([], 0, e) else if 4096 < n then ([], 0, 11) else rdF n [] b k

theorem rt_err {L : List ByteArray} {b : List UInt8} {m k e : Nat} (h : getF 0 0 (nat8 b) = (m, k, e)) (he : e ≠ 0) : rtF L b = (0, e, ByteArray.empty) := by simp [rtF, h, he]
theorem rt_great {L : List ByteArray} {b : List UInt8} {m k : Nat} (h : getF 0 0 (nat8 b) = (m, k, 0)) (hm : 4096 < m) : rtF L b = (0, 11, ByteArray.empty) := by simp [rtF, h, hm]
theorem rt_short {L : List ByteArray} {b : List UInt8} {m k : Nat} (h : getF 0 0 (nat8 b) = (m, k, 0)) (hm : ¬ 4096 < m) (hs : b.length < k + m) : rtF L b = (0, 10, ByteArray.empty) := by simp [rtF, h, hm, hs]
theorem rt_twice {L : List ByteArray} {b : List UInt8} {m k : Nat} (h : getF 0 0 (nat8 b) = (m, k, 0)) (hm : ¬ 4096 < m) (hs : ¬ b.length < k + m) (hi : str ((b.drop k).take m) ∈ L) : rtF L b = (0, 11, ByteArray.empty) := by simp [rtF, h, hm, hs, hi]
theorem rt_ok {L : List ByteArray} {b : List UInt8} {m k : Nat} (h : getF 0 0 (nat8 b) = (m, k, 0)) (hm : ¬ 4096 < m) (hs : ¬ b.length < k + m) (hi : str ((b.drop k).take m) ∉ L) : rtF L b = (k + m, 0, str ((b.drop k).take m)) := by simp [rtF, h, hm, hs, hi]
theorem rt_bd {L : List ByteArray} {b : List UInt8} {k e : Nat} {s : ByteArray} (h : rtF L b = (k, e, s)) : k ≤ b.length ∧ e ≤ 11 ∧ (e = 0 → s ∉ L ∧ s.size ≤ 4096) := by
  obtain ⟨m, q, e1, hg⟩ : ∃ m q e1, getF 0 0 (nat8 b) = (m, q, e1) := ⟨_, _, _, rfl⟩
  have hb := get_bd hg
  by_cases he : e1 = 0
  · subst he
    by_cases h1 : 4096 < m
    · rw [rt_great hg h1] at h; cases h; exact ⟨by omega, by omega, by omega⟩
    · by_cases h2 : b.length < q + m
      · rw [rt_short hg h1 h2] at h; cases h; exact ⟨by omega, by omega, by omega⟩
      · by_cases h3 : str ((b.drop q).take m) ∈ L
        · rw [rt_twice hg h1 h2 h3] at h; cases h; exact ⟨by omega, by omega, by omega⟩
        · rw [rt_ok hg h1 h2 h3] at h; cases h
          exact ⟨by omega, by omega, fun _ => ⟨h3, by rw [str_size, List.length_take]; omega⟩⟩
  · rw [rt_err hg he] at h; cases h; exact ⟨by omega, hb.2, fun e => absurd e he⟩

/-- one text, there and back -/
theorem rt_one (L : List ByteArray) (s : ByteArray) (rest : List UInt8) (hs : s ∉ L) (hz : s.size ≤ 4096) : rtF L (one s ++ rest) = ((one s).length, 0, s) := by
  have hg := get_put (n := s.size) (by omega) (bs s ++ rest)
  have e1 : one s ++ rest = vby s.size ++ (bs s ++ rest) := by simp [one]
  rw [← e1] at hg
  have e2 : ((one s ++ rest).drop (vby s.size).length).take s.size = bs s := by
    rw [e1, List.drop_left, ← bs_len s, List.take_left]
  have e3 := rt_ok (L := L) hg (by omega) (by simp [one, bs_len]) (by rw [e2, str_bs]; exact hs)
  rw [e3, e2, str_bs]
  simp [one, bs_len]
/-- one text, cut -/
theorem rt_cut (L : List ByteArray) (s : ByteArray) (j : Nat) (hz : s.size ≤ 4096) (hj : j < (one s).length) : rtF L ((one s).take j) = (0, 10, ByteArray.empty) := by
  by_cases h1 : j < (vby s.size).length
  · have e1 : (one s).take j = (vby s.size).take j := by rw [one, List.take_append_of_le_length (by omega)]
    rw [e1]
    exact rt_err (get_begin (by omega) j h1) (by omega)
  · have e1 : (one s).take j = vby s.size ++ (bs s).take (j - (vby s.size).length) := by rw [one, List.take_append, List.take_of_length_le (by omega)]
    have hg := get_put (n := s.size) (by omega) ((bs s).take (j - (vby s.size).length))
    rw [← e1] at hg
    refine rt_short hg (by omega) ?_
    simp only [one, List.length_append, bs_len] at hj
    simp only [List.length_take, one, List.length_append, bs_len]
    omega
theorem rd_back (rest : List UInt8) : ∀ (suf pre : List ByteArray) (X : List UInt8), (pre ++ suf).Nodup → (∀ s ∈ suf, s.size ≤ 4096) →
    rdF suf.length pre (X ++ (tx suf ++ rest)) X.length = (pre ++ suf, X.length + (tx suf).length, 0)
  | [], pre, X, _, _ => by simp [rdF, tx]
  | s :: r, pre, X, hn, hz => by
    have hs : s ∉ pre := fun hm => by
      rw [List.nodup_append] at hn
      exact hn.2.2 s hm s (by simp) rfl
    have h1 := rt_one pre s (tx r ++ rest) hs (hz s (by simp))
    have e1 : (X ++ (tx (s :: r) ++ rest)).drop X.length = one s ++ (tx r ++ rest) := by rw [List.drop_left]; simp [tx]
    have ih := rd_back rest r (pre ++ [s]) (X ++ one s) (by simpa using hn) (fun t ht => hz t (by simp [ht]))
    have e2 : X ++ (tx (s :: r) ++ rest) = X ++ one s ++ (tx r ++ rest) := by simp [tx]
    simp only [List.length_cons, rdF]
    rw [e1, h1]
    simp only [ne_eq, not_true_eq_false, if_false]
    rw [List.length_append] at ih
    rw [e2, ih]
    simp [tx, Nat.add_assoc]
theorem read_back (L : List ByteArray) (rest : List UInt8) (hn : L.Nodup) (hl : L.length ≤ 4096) (hz : ∀ s ∈ L, s.size ≤ 4096) : readF (tb L ++ rest) = (L, (tb L).length, 0) := by
  have hg := get_put (n := L.length) (by omega) (tx L ++ rest)
  have e1 : tb L ++ rest = vby L.length ++ (tx L ++ rest) := by simp [tb]
  rw [← e1] at hg
  unfold readF
  rw [hg]
  simp only [ne_eq, not_true_eq_false, if_false]
  rw [if_neg (by omega), e1, rd_back rest L [] (vby L.length) (by simpa using hn) hz]
  simp [tb]
theorem rd_cut : ∀ (suf pre : List ByteArray) (X : List UInt8) (j : Nat), (pre ++ suf).Nodup → (∀ s ∈ suf, s.size ≤ 4096) → j < (tx suf).length →
    rdF suf.length pre (X ++ (tx suf).take j) X.length = ([], 0, 10)
  | [], _, _, j, _, _, hj => by simp [tx] at hj
  | s :: r, pre, X, j, hn, hz, hj => by
    have hs : s ∉ pre := fun hm => by
      rw [List.nodup_append] at hn
      exact hn.2.2 s hm s (by simp) rfl
    have hzs := hz s (by simp)
    simp only [List.length_cons, rdF]
    rw [List.drop_left]
    by_cases h1 : j < (one s).length
    · have e1 : (tx (s :: r)).take j = (one s).take j := by rw [tx, List.take_append_of_le_length (by omega)]
      rw [e1, rt_cut pre s j hzs h1]
      simp
    · have e1 : (tx (s :: r)).take j = one s ++ (tx r).take (j - (one s).length) := by rw [tx, List.take_append, List.take_of_length_le (by omega)]
      have h2 : j - (one s).length < (tx r).length := by simp only [tx, List.length_append] at hj; omega
      have ih := rd_cut r (pre ++ [s]) (X ++ one s) (j - (one s).length) (by simpa using hn) (fun t ht => hz t (by simp [ht])) h2
      rw [e1, rt_one pre s _ hs hzs]
      simp only [ne_eq, not_true_eq_false, if_false]
      rw [List.length_append] at ih
      rw [← List.append_assoc, ih]
theorem read_cut (L : List ByteArray) (k : Nat) (hn : L.Nodup) (hl : L.length ≤ 4096) (hz : ∀ s ∈ L, s.size ≤ 4096) (hk : k < (tb L).length) : readF ((tb L).take k) = ([], 0, 10) := by
  by_cases h1 : k < (vby L.length).length
  · have e1 : (tb L).take k = (vby L.length).take k := by rw [tb, List.take_append_of_le_length (by omega)]
    rw [e1]
    unfold readF
    rw [get_begin (by omega) k h1]
    simp
  · have e1 : (tb L).take k = vby L.length ++ (tx L).take (k - (vby L.length).length) := by rw [tb, List.take_append, List.take_of_length_le (by omega)]
    have hg := get_put (n := L.length) (by omega) ((tx L).take (k - (vby L.length).length))
    rw [← e1] at hg
    unfold readF
    rw [hg]
    simp only [ne_eq, not_true_eq_false, if_false]
    rw [if_neg (by omega), e1]
    exact rd_cut L [] (vby L.length) _ (by simpa using hn) hz (by simp only [tb, List.length_append] at hk; omega)
end Go.Proofs.Ytndcdidepdcmnaa.S05
end
