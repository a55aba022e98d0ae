/-
  Words of our own for slices in memory: 'Rd': a slice value reads as a list of cells; what keeps it; appending it.
-/
import Derived.WalkKit
import Derived.WalkSpells
import Derived.Laws.OwnMore
import Derived.Laws.AppendOwnNone
import Derived.Maps.AppendAt
import Derived.Lib.Hide
import Derived.Deep.Draws
import Derived.Lib.BufferRead
import Derived.Laws.IdiomStrings
namespace Go.Proofs.YtdmibolbpgondaaGreat.Wd
open Go.RowKit Go.Lib

/-- the slice '.slice A n c' of elements of 'size' cells reads as the cells xs -/
structure Rd (size : Nat) (w : World) (A : Option Addr) (n c : Nat) (xs : List Value) : Prop where
  len : xs.length = n * size
  none_ : A = none → n = 0 ∧ c = 0
  cap : n ≤ c
  max : c ≤ maxLen
  at_ : ∀ ad, A = some ad → ∀ i u, xs[i]? = some u → w.cell? (ad.add i) = some u

variable {size n c : Nat} {w w' : World} {A : Option Addr} {xs : List Value}

theorem Rd.nil (size : Nat) (w : World) : Rd size w none 0 0 [] :=
  ⟨by simp, fun _ => ⟨rfl, rfl⟩, Nat.le_refl _, by unfold maxLen; omega, fun _ h => by cases h⟩
theorem add_block (a : Addr) (i : Nat) : (a.add i).block = a.block := by unfold Addr.add; split <;> rfl
theorem Rd.kept (h : Rd size w A n c xs) (hk : ∀ p : Addr, p.block < w.heap.size → w'.cell? p = w.cell? p) : Rd size w' A n c xs :=
  ⟨h.len, h.none_, h.cap, h.max, fun ad ha i u hu => by
    have hc := h.at_ ad ha i u hu
    rw [hk _ (World.block_lt_of_cell? _ _ hc)]
    exact hc⟩
theorem Rd.below (h : Rd size w A n c xs) (hb : Below w.heap.size w w') : Rd size w' A n c xs := h.kept fun _ hp => hb.cell hp
theorem Rd.drew (h : Rd size w A n c xs) : Rd size w.drew A n c xs := ⟨h.len, h.none_, h.cap, h.max, h.at_⟩
theorem Rd.alloc (h : Rd size w A n c xs) (o : Obj) : Rd size (w.alloc o) A n c xs := h.below ((Below.refl _ _).alloc (Nat.le_refl _) o)
/-- kept over what another row's growing writes -/
theorem Rd.grown {row : Option Nat} (h : Rd size w A n c xs) (hg : w.grownBy w' row) (hr : ∀ ad, A = some ad → 0 < n → row ≠ some ad.block) : Rd size w' A n c xs :=
  ⟨h.len, h.none_, h.cap, h.max, fun ad ha i u hu => by
    have hc := h.at_ ad ha i u hu
    have hn : 0 < n := by
      rcases Nat.eq_zero_or_pos n with h0 | h0
      · subst h0
        have : xs = [] := List.eq_nil_of_length_eq_zero (by have := h.len; omega)
        subst this
        simp at hu
      · exact h0
    have e := hg.block (ad.add i).block (World.block_lt_of_cell? _ _ hc) (by rw [add_block]; exact fun e => hr ad ha hn e.symm)
    rw [World.cell?_of_block e]
    exact hc⟩
theorem Rd.drewN (h : Rd size w A n c xs) (k : Nat) : Rd size (w.drewN k) A n c xs := ⟨h.len, h.none_, h.cap, h.max, h.at_⟩
theorem below_dn {B : Nat} (h : Below B w w') (k : Nat) : Below B w (w'.drewN k) := ⟨h.os, h.tape, h.output, h.size, h.block⟩
/-- an element of one cell -/
theorem Rd.get (h : Rd 1 w A n c xs) {k : Nat} (hk : k < n) : ∃ ad u, A = some ad ∧ xs[k]? = some u ∧ w.cell? (ad.add k) = some u := by
  have hl : k < xs.length := by have := h.len; omega
  cases hA : A with
  | none => have := h.none_ hA; omega
  | some ad => exact ⟨ad, xs[k], rfl, List.getElem?_eq_getElem hl, h.at_ ad hA k _ (List.getElem?_eq_getElem hl)⟩
/-- what the call itself owns reads so -/
theorem Rd.own {base : Nat} {e : TypeId} (h : w.ownsRow base e size (.slice A n c) n xs) : Rd size w A n c xs := by
  rcases h.2 with ⟨hv, hn⟩ | ⟨g, cap, cur, hv, hb, hg, hnc, hm, hcs, ht⟩
  · injection hv with h1 h2 h3
    subst h1; subst h2; subst h3
    have : xs = [] := List.eq_nil_of_length_eq_zero (by have := h.1; omega)
    subst this
    exact Rd.nil _ _
  · injection hv with h1 h2 h3
    subst h1; subst h3
    refine ⟨h.1, fun e => (by cases e), hnc, hm, fun ad ha i u hu => ?_⟩
    injection ha with ha
    subst ha
    have hi : i < n * size := by
      have := h.1
      rcases Nat.lt_or_ge i xs.length with hlt | hge
      · omega
      · rw [List.getElem?_eq_none hge] at hu; cases hu
    have := World.ownsRow.cellAt h i hi
    have e : (⟨g, 0, none⟩ : Addr).add i = ⟨g, i, none⟩ := by unfold Addr.add; split <;> simp_all
    rw [e, this]
    exact hu
/-- a row of one's own is kept where no block that was there turns -/
theorem own_below {base : Nat} {e : TypeId} {v : Value} (h : w.ownsRow base e size v n xs) (hb : Below w.heap.size w w') : w'.ownsRow base e size v n xs :=
  ⟨h.1, h.2.elim .inl fun ⟨g, cap, cur, hv, hbg, hg, r⟩ => .inr ⟨g, cap, cur, hv, hbg, by rw [hb.block g (Array.getElem?_eq_some_iff.1 hg).1]; exact hg, r⟩⟩
/-- its value, written out -/
theorem own_form {base : Nat} {e : TypeId} {v : Value} (h : w.ownsRow base e size v n xs) : ∃ A c, v = .slice A n c := by
  rcases h.2 with ⟨hv, hn⟩ | ⟨g, cap, cur, hv, _⟩
  · exact ⟨none, 0, by rw [hv, hn]⟩
  · exact ⟨_, _, hv⟩

/-- a row of one's own with something in it: its block, and its first cell -/
theorem own_first {base : Nat} {e : TypeId} (h : w.ownsRow base e 1 (.slice A n c) n xs) (hn : 0 < n) :
    ∃ g u, A = some ⟨g, 0, none⟩ ∧ base ≤ g ∧ g < w.heap.size ∧ xs[0]? = some u ∧ w.cell? ⟨g, 0, none⟩ = some u ∧ w.frozen? ⟨g, 0, none⟩ = false := by
  rcases h.2 with ⟨hv, h0⟩ | ⟨g, cap, cur, hv, hb, hg, _⟩
  · omega
  · injection hv with h1 h2 h3
    subst h1; subst h3
    have hx : 0 < xs.length := by have := h.1; omega
    have hc := World.ownsRow.cellAt h 0 (by omega)
    rw [List.getElem?_eq_getElem hx] at hc
    exact ⟨g, xs[0], rfl, hb, (Array.getElem?_eq_some_iff.1 hg).1, List.getElem?_eq_getElem hx, hc, World.ownsRow.frozenAt h 0⟩

/-- bytes, as cells -/
theorem bc_len (l : List UInt8) : (byteCells l).length = l.length := by simp [byteCells]
theorem bc_app (a b : List UInt8) : byteCells (a ++ b) = byteCells a ++ byteCells b := by simp [byteCells]
theorem bc_at (l : List UInt8) (k : Nat) (u : Value) (h : (byteCells l)[k]? = some u) : ∃ hk : k < l.length, u = .int .u8 (l[k].toNat : Int) := by
  simp only [byteCells, List.getElem?_map, Option.map_eq_some_iff] at h
  obtain ⟨x, h1, h2⟩ := h
  obtain ⟨hk, he⟩ := List.getElem?_eq_some_iff.1 h1
  exact ⟨hk, by rw [← h2, he]⟩
theorem bc_get (l : List UInt8) (k : Nat) (h : k < l.length) : (byteCells l)[k]? = some (.int .u8 (l[k].toNat : Int)) := by simp [byteCells, h]
theorem bc_one (l : List UInt8) : ∀ u ∈ byteCells l, u.oneCell' = true := by
  intro u hu
  simp only [byteCells, List.mem_map] at hu
  obtain ⟨x, _, rfl⟩ := hu
  rfl
/-- a slice of bytes, nil or not -/
def Bs (w : World) (A : Option Addr) (c : Nat) (l : List UInt8) : Prop := Rd 1 w A l.length c (byteCells l)
theorem Bs.below {l : List UInt8} (h : Bs w A c l) (hb : Below w.heap.size w w') : Bs w' A c l := Rd.below h hb
theorem Bs.drew {l : List UInt8} (h : Bs w A c l) : Bs w.drew A c l := Rd.drew h
theorem Bs.drewN {l : List UInt8} (h : Bs w A c l) (k : Nat) : Bs (w.drewN k) A c l := Rd.drewN h k
theorem Bs.get {l : List UInt8} (h : Bs w A c l) {k : Nat} (hk : k < l.length) : ∃ ad, A = some ad ∧ w.cell? (ad.add k) = some (.int .u8 (l[k].toNat : Int)) := by
  obtain ⟨ad, u, hA, hu, hc⟩ := Rd.get h hk
  obtain ⟨_, rfl⟩ := bc_at l k u hu
  exact ⟨ad, hA, hc⟩
/-- 'string(b)' -/
theorem Bs.str {P : Program} {l : List UInt8} (h : Bs w A c l) (src dst e : TypeId) (hs : P.underlying src = some (.slice e)) (he : P.underlying e = some (.int .u8)) (hd : P.underlying dst = some .string) :
    (convert src dst (.slice A l.length c)).run P w = .ok (.string ⟨l.toArray⟩) w := by
  cases hA : A with
  | none =>
    have h0 := (h.none_ hA).1
    have hl : l = [] := List.eq_nil_of_length_eq_zero h0
    subst hl
    exact run_convert_nil_bytes w src dst e c hs he hd
  | some ad =>
    exact run_convert_bytes_back w src dst e ad c l hs he hd fun j hj => h.at_ ad hA j _ (bc_get l j hj)

theorem Bs.nil (w : World) : Bs w none 0 [] := Rd.nil 1 w
theorem Bs.own {base : Nat} {e : TypeId} {l : List UInt8} (h : w.ownsRow base e 1 (.slice A l.length c) l.length (byteCells l)) : Bs w A c l := Rd.own h
theorem Bs.take {l : List UInt8} (h : Bs w A c l) (k : Nat) (hk : k ≤ l.length) : Bs w A c (l.take k) := by
  have hl : (l.take k).length = k := by simp; omega
  refine ⟨by simp [byteCells], fun ha => ⟨by have := (h.none_ ha).1; omega, (h.none_ ha).2⟩, by rw [hl]; exact Nat.le_trans hk h.cap, h.max, fun ad ha i u hu => ?_⟩
  refine h.at_ ad ha i u ?_
  obtain ⟨hi, rfl⟩ := bc_at _ i u hu
  rw [hl] at hi
  rw [bc_get l i (by omega)]
  simp
/-- a literal's bytes -/
theorem Bs.lit (w : World) (e : TypeId) (cs : Array Value) (l : List UInt8) (h : cs.toList = byteCells l) (hm : l.length ≤ 65536) : Bs (w.alloc (.cells cs e)) (some ⟨w.heap.size, 0, none⟩) l.length l := by
  refine Bs.own (base := w.heap.size) (e := e) ⟨by simp [byteCells], .inr ⟨w.heap.size, l.length, cs, rfl, Nat.le_refl _, heap_alloc_new w _, Nat.le_refl _, by unfold maxLen; omega, ?_, ?_⟩⟩
  · rw [← Array.length_toList, h, bc_len]; omega
  · rw [h, List.take_of_length_le (by rw [bc_len]; omega)]
/-- a constant text's bytes (its row bears the run-time's mark) -/
theorem Bs.const (w : World) (e : TypeId) (fr : Nat × Nat) (cs : Array Value) (l : List UInt8) (h : cs.toList = byteCells l) (hm : l.length ≤ 65536) : Bs (w.alloc (.cells cs e fr)) (some ⟨w.heap.size, 0, none⟩) l.length l := by
  refine ⟨by rw [bc_len]; omega, fun e => (by cases e), Nat.le_refl _, by unfold maxLen; omega, fun ad ha i u hu => ?_⟩
  injection ha with ha
  subst ha
  have e1 : (⟨w.heap.size, 0, none⟩ : Addr).add i = ⟨w.heap.size, i, none⟩ := by unfold Addr.add; split <;> simp_all
  have e2 := World.cell?_alloc_mark w cs e fr i
  rw [e1, e2, ← Array.getElem?_toList, h]
  exact hu
/-- the empty literal, owned -/
theorem own_empty (w : World) (e : TypeId) : (w.alloc (.cells #[] e)).ownsRow w.heap.size e 1 (.slice (some ⟨w.heap.size, 0, none⟩) 0 0) 0 [] :=
  World.ownsRow_made w #[] 0 (Nat.le_refl _) (by unfold maxLen; omega) (by simp)
/-- an argument's bytes, as the shell of a proof hands them -/
theorem Bs.of_row {zs : List Int} {n : Nat} (h : (A = none ∧ n = 0 ∧ c = 0 ∧ zs = []) ∨
    ∃ x, A = some x ∧ n ≤ c ∧ c ≤ maxLen ∧ zs.length = c ∧ (∀ i, i < zs.length → w.cell? (x.add i) = some (.int .u8 (zs.getD i 0))) ∧ ∀ y ∈ zs, (Lit.int .u8 y).wf = true) :
    ∃ l : List UInt8, l.length = n ∧ Bs w A c l := by
  rcases h with ⟨rfl, rfl, rfl, rfl⟩ | ⟨x, rfl, hnc, hc, hz, hcell, hwf⟩
  · exact ⟨[], rfl, Bs.nil w⟩
  · have hb : ∀ i, i < n → 0 ≤ zs.getD i 0 ∧ zs.getD i 0 ≤ 255 := by
      intro i hi
      have hm : zs.getD i 0 ∈ zs := by
        rw [List.getD_eq_getElem?_getD, List.getElem?_eq_getElem (by omega)]
        exact List.getElem_mem _
      have := hwf _ hm
      simpa [Lit.wf, IntKind.min, IntKind.max, IntKind.signed, IntKind.bits] using this
    refine ⟨(List.range n).map fun i => UInt8.ofNat (zs.getD i 0).toNat, by simp, by simp [byteCells], (fun e => by cases e), by simpa using hnc, hc, fun ad ha i u hu => ?_⟩
    injection ha with ha
    subst ha
    obtain ⟨hi, rfl⟩ := bc_at _ i u hu
    have hi' : i < n := by simpa using hi
    rw [hcell i (by omega)]
    have := hb i hi'
    simp only [List.getElem_map, List.getElem_range]
    congr 2
    rw [UInt8.toNat_ofNat_of_lt' (by show _ < 256; omega)]
    omega

/-- where 's[k:]' begins: a slice cut at its very end keeps its address -/
def cutA (A : Option Addr) (c k : Nat) : Option Addr := if c = k then A else A.map (·.add k)
theorem add_add (a : Addr) (i j : Nat) : (a.add i).add j = a.add (i + j) := by
  unfold Addr.add
  by_cases hi : i = 0
  · simp [hi]
  · by_cases hj : j = 0
    · simp [hj]
    · simp [hi, hj, Nat.add_assoc]
theorem Bs.drop {l : List UInt8} (h : Bs w A c l) (k : Nat) (hk : k ≤ l.length) : Bs w (cutA A c k) (c - k) (l.drop k) := by
  have hc := h.cap
  have hm := h.max
  refine ⟨by simp [byteCells], fun ha => ?_, by simp; omega, by omega, fun ad ha i u hu => ?_⟩
  · unfold cutA at ha
    split at ha
    · rename_i hck
      exact ⟨by simp; omega, by omega⟩
    · simp only [Option.map_eq_none_iff] at ha
      have := h.none_ ha
      exact ⟨by simp; omega, by omega⟩
  · obtain ⟨hi, rfl⟩ := bc_at _ i u hu
    simp only [List.length_drop] at hi
    unfold cutA at ha
    rw [if_neg (by omega)] at ha
    cases hA : A with
    | none => rw [hA] at ha; cases ha
    | some a0 =>
      rw [hA] at ha
      simp only [Option.map_some, Option.some.injEq] at ha
      subst ha
      rw [add_add, h.at_ a0 hA (k + i) _ (bc_get l (k + i) (by omega))]
      simp
/-- a slice of numbers of 64 bits -/
def Us (w : World) (A : Option Addr) (c : Nat) (l : List Nat) : Prop := Rd 1 w A l.length c (l.map fun (x : Nat) => Value.int .u64 (x : Int)) ∧ ∀ x ∈ l, (x : Int) ≤ 18446744073709551615
theorem Us.below {l : List Nat} (h : Us w A c l) (hb : Below w.heap.size w w') : Us w' A c l := ⟨Rd.below h.1 hb, h.2⟩
theorem Us.get {l : List Nat} (h : Us w A c l) {k : Nat} (hk : k < l.length) : ∃ ad, A = some ad ∧ w.cell? (ad.add k) = some (.int .u64 (l[k] : Int)) ∧ (l[k] : Int) ≤ 18446744073709551615 := by
  obtain ⟨ad, u, hA, hu, hc⟩ := Rd.get h.1 hk
  simp only [List.getElem?_map, List.getElem?_eq_getElem hk, Option.map_some, Option.some.injEq] at hu
  subst hu
  exact ⟨ad, hA, hc, h.2 _ (List.getElem_mem hk)⟩
theorem Us.of_row {zs : List Int} {n : Nat} (h : (A = none ∧ n = 0 ∧ c = 0 ∧ zs = []) ∨
    ∃ x, A = some x ∧ n ≤ c ∧ c ≤ maxLen ∧ zs.length = c ∧ (∀ i, i < zs.length → w.cell? (x.add i) = some (.int .u64 (zs.getD i 0))) ∧ ∀ y ∈ zs, (Lit.int .u64 y).wf = true) :
    ∃ l : List Nat, l.length = n ∧ Us w A c l := by
  rcases h with ⟨rfl, rfl, rfl, rfl⟩ | ⟨x, rfl, hnc, hc, hz, hcell, hwf⟩
  · exact ⟨[], rfl, Rd.nil 1 w, by simp⟩
  · have hb : ∀ i, i < n → 0 ≤ zs.getD i 0 ∧ zs.getD i 0 ≤ 18446744073709551615 := by
      intro i hi
      have hm : zs.getD i 0 ∈ zs := by
        rw [List.getD_eq_getElem?_getD, List.getElem?_eq_getElem (by omega)]
        exact List.getElem_mem _
      have := hwf _ hm
      simpa [Lit.wf, IntKind.min, IntKind.max, IntKind.signed, IntKind.bits] using this
    refine ⟨(List.range n).map fun i => (zs.getD i 0).toNat, by simp, ⟨by simp, (fun e => by cases e), by simpa using hnc, hc, fun ad ha i u hu => ?_⟩, fun y hy => ?_⟩
    · injection ha with ha
      subst ha
      simp only [List.map_map, List.getElem?_map, Option.map_eq_some_iff] at hu
      obtain ⟨j, hj, rfl⟩ := hu
      obtain ⟨hi, rfl⟩ := List.getElem?_eq_some_iff.1 hj
      simp only [List.length_range] at hi
      simp only [List.getElem_range, Function.comp]
      rw [hcell i (by omega)]
      have := hb i hi
      rw [Int.toNat_of_nonneg this.1]
    · simp only [List.mem_map, List.mem_range] at hy
      obtain ⟨i, hi, rfl⟩ := hy
      have := hb i hi
      omega

/-- 'append(own, src...)': the source nil or not -/
theorem wpList_append_rd {P : Program} (w : World) {ops : Array Oper} {rest : List Oper} {o : Oper} {a : Act} {Q : Exit → Act → World → Prop} (hgd : o.guard = none) (s x : Operand) (t : TypeId)
    (ho : o.op = .call { callee := .builtin .append, args := #[s, x], argTypes := #[t, t] })
    (base : Nat) (e : TypeId) (i : TypeInfo) (z : Value) (size bytes : Nat) (ht : P.underlying t = some (.slice e)) (hi : P.info? e = some i) (hz : i.zero = some z)
    (hsize : i.size = size) (hby : i.bytes = bytes) (hzs : z.cells.size = size) (hsz : 0 < size)
    (v : Value) (n : Nat) (xs : List Value) (hs : a.eval s = v) (hown : w.ownsRow base e size v n xs)
    (A : Option Addr) (m c : Nat) (news : List Value) (hx : a.eval x = .slice A m c) (hr : Rd size w A m c news) (h1 : ∀ u ∈ news, u.oneCell' = true)
    (h63 : n + m ≤ maxLen) (hbytes : (n + m) * bytes ≤ 140737488355328) (hbase : base ≤ w.heap.size)
    (h : ∀ A' c' w', w'.ownsRow base e size (.slice A' (n + m) c') (n + m) (xs ++ news) → w.grownBy w' v.ownBlock → wpList P ops Q rest (a.put o.dst (.slice A' (n + m) c')) w') : wpList P ops Q (o :: rest) a w := by
  cases hA : A with
  | none =>
    obtain ⟨rfl, rfl⟩ := hr.none_ hA
    have hn : news = [] := List.eq_nil_of_length_eq_zero (by have := hr.len; omega)
    subst hn
    subst hA
    obtain ⟨A1, c1, hv⟩ := own_form hown
    refine wpList_append_own_none hgd s x t ho base e i size ht hi v n xs hs hown hx ?_
    have := h A1 c1 w (by rw [Nat.add_zero, List.append_nil, ← hv]; exact hown) (World.grownBy.refl w _)
    rw [Nat.add_zero, ← hv] at this
    exact this
  | some ad =>
    refine wpList_append_own w hgd s x t ho base e i z size bytes ht hi hz hsize hby hzs hsz v n xs hs hown ad m c news (by rw [hx, hA]) hr.len (hr.at_ ad hA) h1 h63 hbytes hbase fun v' w' h2 h3 _ => ?_
    obtain ⟨A1, c1, hv⟩ := own_form h2
    subst hv
    exact h A1 c1 w' h2 h3

/-- 'append(own, x)': one element of one cell, which the call lays in a block of its own first -/
theorem wpList_append_one {P : Program} (w : World) {ops : Array Oper} {rest : List Oper} {o : Oper} {a : Act} {Q : Exit → Act → World → Prop} (hgd : o.guard = none) (s x : Operand) (t : TypeId)
    (ho : o.op = .call { callee := .builtin .append, args := #[s, x], argTypes := #[t, t] })
    (base : Nat) (e : TypeId) (i : TypeInfo) (z : Value) (bytes : Nat) (ht : P.underlying t = some (.slice e)) (hi : P.info? e = some i) (hz : i.zero = some z)
    (hsize : i.size = 1) (hby : i.bytes = bytes) (hzs : z.cells.size = 1)
    (v : Value) (n : Nat) (xs : List Value) (hs : a.eval s = v) (hown : w.ownsRow base e 1 v n xs)
    (u : Value) (hx : a.eval x = .slice (some ⟨w.heap.size, 0, none⟩) 1 1) (h1 : u.oneCell' = true)
    (h63 : n + 1 ≤ maxLen) (hbytes : (n + 1) * bytes ≤ 140737488355328) (hbase : base ≤ w.heap.size)
    (h : ∀ A' c' w', w'.ownsRow base e 1 (.slice A' (n + 1) c') (n + 1) (xs ++ [u]) → Below base w w' → wpList P ops Q rest (a.put o.dst (.slice A' (n + 1) c')) w') :
    wpList P ops Q (o :: rest) a (w.alloc (.cells #[u] e)) := by
  refine wpList_append_own _ hgd s x t ho base e i z 1 bytes ht hi hz hsize hby hzs (by decide) v n xs hs (hown.alloc _) ⟨w.heap.size, 0, none⟩ 1 1 [u] hx rfl ?_ ?_ h63 hbytes ?_ fun v' w' h2 h3 _ => ?_
  · exact cell_one_new _ _ _
  · intro q hq
    simp only [List.mem_singleton] at hq
    subst hq
    exact h1
  · simp; omega
  · obtain ⟨A1, c1, hv⟩ := own_form h2
    subst hv
    refine h A1 c1 w' h2 ?_
    exact ((Below.refl _ _).alloc hbase _).grown h3 (by simp; omega) fun k hk => (hown.lt k hk).1

end Go.Proofs.YtdmibolbpgondaaGreat.Wd
