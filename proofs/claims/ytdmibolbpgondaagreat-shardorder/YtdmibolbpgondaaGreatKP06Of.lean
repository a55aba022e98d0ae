/-
  Of and To: the document's span as the program's, and back.
-/
import Derived.Test.YtdmibolbpgondaaGreatKP06Span
import Derived.Laws.AppendOwnNone
import Derived.Test.YtdmibolbpgondaaGreatKP06Region
set_option linter.unusedSimpArgs false
set_option linter.unusedVariables false
namespace Go.Proofs.YtdmibolbpgondaaGreat.P06
open Go.Shelf Go.RowKit Go.Lib Go.Sort Go.Proofs.YtdmibolbpgondaaGreat.Wd Go.Proofs.YtdmibolbpgondaaGreat.V04

/-- a block of cells -/
def Bk (w : World) (g : Nat) (t : TypeId) (cs : Array Value) : Prop := w.heap[g]? = some (.cells cs t (0, 0))
theorem Bk.cell {w : World} {g : Nat} {t : TypeId} {cs : Array Value} (h : Bk w g t cs) (j : Nat) : w.cell? ⟨g, j, none⟩ = cs[j]? := by
  unfold Bk at h
  simp [World.cell?, h]
theorem Bk.frozen {w : World} {g : Nat} {t : TypeId} {cs : Array Value} (h : Bk w g t cs) (j : Nat) : w.frozen? ⟨g, j, none⟩ = false := by
  unfold Bk at h
  simp [World.frozen?, h]
theorem Bk.lt {w : World} {g : Nat} {t : TypeId} {cs : Array Value} (h : Bk w g t cs) : g < w.heap.size := (Array.getElem?_eq_some_iff.1 h).1
theorem Bk.below {w w' : World} {g : Nat} {t : TypeId} {cs : Array Value} (h : Bk w g t cs) (hb : Below w.heap.size w w') : Bk w' g t cs := by
  unfold Bk
  rw [hb.block g h.lt]
  exact h
theorem Bk.new (w : World) (t : TypeId) (cs : Array Value) : Bk (w.alloc (.cells cs t)) w.heap.size t cs := heap_alloc_new w _
theorem Bk.set {w : World} {g : Nat} {t : TypeId} {cs : Array Value} (h : Bk w g t cs) (j : Nat) (v : Value) : Bk (w.setCell ⟨g, j, none⟩ v) g t (cs.setIfInBounds j v) := by
  unfold Bk at *
  simp [World.setCell, h, Array.getElem?_modify]
theorem Bk.other {w : World} {g : Nat} {t : TypeId} {cs : Array Value} (h : Bk w g t cs) (b j : Nat) (v : Value) (hne : b ≠ g) : Bk (w.setCell ⟨b, j, none⟩ v) g t cs := by
  unfold Bk at *
  simp [World.setCell, h, Array.getElem?_modify, hne]
theorem own_heap {w w' : World} {base : Nat} {e : TypeId} {sz n : Nat} {v : Value} {xs : List Value} (h : w.ownsRow base e sz v n xs) (hk : ∀ g, base ≤ g → g < w.heap.size → w'.heap[g]? = w.heap[g]?) : w'.ownsRow base e sz v n xs :=
  ⟨h.1, h.2.elim .inl fun ⟨g, cap, cur, hv, hbg, hg, r⟩ => .inr ⟨g, cap, cur, hv, hbg, by rw [hk g hbg (Array.getElem?_eq_some_iff.1 hg).1]; exact hg, r⟩⟩
theorem heap_set (w : World) (b j : Nat) (v : Value) (g : Nat) (hne : b ≠ g) : (w.setCell ⟨b, j, none⟩ v).heap[g]? = w.heap[g]? := by
  simp [World.setCell, Array.getElem?_modify, hne]

/-- the nine fields and none of attributes -/
abbrev zsp : Array Value := #[.int .u64 0, .int .u64 0, .int .u64 0, .string ⟨#[]⟩, .string ⟨#[]⟩, .int .i64 0, .int .i64 0, .int .u64 0, .int .u64 0, .slice none 0 0]
/-- how far it has come -/
structure OfR (t1 t2 e : TypeId) (w : World) (s : Sp) (A : Option Addr) (n c : Nat) (l : List At) (k : Nat) (A2 : Option Addr) (c2 : Nat) (wr : World) : Prop where
  b1 : Bk wr w.heap.size t1 (spc s (.slice A n c))
  b2 : Bk wr (w.heap.size + 1) t2 zsp
  b3 : Bk wr (w.heap.size + 1 + 1) t2 (spc s (.slice A2 k c2))
  own : wr.ownsRow (w.heap.size + 1 + 1 + 1) e 4 (.slice A2 k c2) k ((l.take k).flatMap enc)
  bel : Below w.heap.size w wr
  lt : w.heap.size + 1 + 1 + 1 ≤ wr.heap.size
theorem OfR.start (t1 t2 e : TypeId) (w : World) (s : Sp) (A : Option Addr) (n c : Nat) (l : List At) :
    OfR t1 t2 e w s A n c l 0 none 0 (((w.alloc (.cells (spc s (.slice A n c)) t1)).alloc (.cells zsp t2)).alloc (.cells (spc s (.slice none 0 0)) t2)) := by
  have h1 := Bk.new w t1 (spc s (.slice A n c))
  have h2 := Bk.new (w.alloc (.cells (spc s (.slice A n c)) t1)) t2 zsp
  have h3 := Bk.new ((w.alloc (.cells (spc s (.slice A n c)) t1)).alloc (.cells zsp t2)) t2 (spc s (.slice none 0 0))
  have up : ∀ (W : World) (g : Nat) (t : TypeId) (cs : Array Value) (o : Obj), Bk W g t cs → Bk (W.alloc o) g t cs := fun W g t cs o h => h.below ((Below.refl _ _).alloc (Nat.le_refl _) _)
  refine ⟨up _ _ _ _ _ (up _ _ _ _ _ h1), by simpa using up _ _ _ _ (.cells (spc s (.slice none 0 0)) t2) h2, by simpa using h3, ⟨by simp, .inl ⟨rfl, rfl⟩⟩, by go_grown, by simp⟩
/-- one more: the row has grown, and the field is set -/
theorem OfR.step {t1 t2 e : TypeId} {w : World} {s : Sp} {A : Option Addr} {n c : Nat} {l : List At} {k : Nat} {A2 : Option Addr} {c2 : Nat} {wr w1 w2 : World} (h : OfR t1 t2 e w s A n c l k A2 c2 wr) (hk : k < l.length) {A3 : Option Addr} {c3 : Nat}
    (h1 : Below wr.heap.size wr w1) (hg : w1.grownBy w2 (Value.slice A2 k c2).ownBlock) (ho : w2.ownsRow (w.heap.size + 1 + 1 + 1) e 4 (.slice A3 (k + 1) c3) (k + 1) ((l.take k).flatMap enc ++ enc l[k])) :
    OfR t1 t2 e w s A n c l (k + 1) A3 c3 (w2.setCell ⟨w.heap.size + 1 + 1, 9, none⟩ (.slice A3 (k + 1) c3)) := by
  have hb : ∀ (g : Nat) (t : TypeId) (cs : Array Value), g < w.heap.size + 1 + 1 + 1 → Bk wr g t cs → Bk w2 g t cs := fun g t cs hlt hB => by
    have hB1 := hB.below h1
    unfold Bk at *
    rw [hg.block g (Array.getElem?_eq_some_iff.1 hB1).1 (fun e => by have := (h.own.lt g e.symm).1; omega)]
    exact hB1
  have e1 : l.take (k + 1) = l.take k ++ [l[k]] := (List.take_append_getElem hk).symm
  have hbel : Below w.heap.size w w2 := by
    have := (h.bel.trans (h1.mono (h.bel.size)))
    exact this.grown hg this.size fun j hj => by have := (h.own.lt j hj).1; omega
  refine ⟨(hb _ _ _ (by omega) h.b1).other _ _ _ (by omega), (hb _ _ _ (by omega) h.b2).other _ _ _ (by omega), ?_, ?_, ?_, ?_⟩
  · have := (hb _ _ _ (by omega) h.b3).set 9 (.slice A3 (k + 1) c3)
    simpa using this
  · refine own_heap ?_ fun g h1 h2 => heap_set _ _ _ _ _ (by omega)
    rw [e1, fm_app]
    simpa using ho
  · refine ⟨hbel.os, hbel.tape, hbel.output, by simpa using hbel.size, fun g hg' => ?_⟩
    rw [heap_set _ _ _ _ _ (by omega)]
    exact hbel.block g hg'
  · have h2 := h.lt
    have h3 := h1.size
    have h4 := hg.size
    simp
    omega

/-- all ten set -/
def put10 (w : World) (g : Nat) (s : Sp) (v : Value) : World :=
  (((((((((w.setCell ⟨g, 0, none⟩ (.int .u64 s.T)).setCell ⟨g, 1, none⟩ (.int .u64 s.I)).setCell ⟨g, 2, none⟩ (.int .u64 s.P)).setCell ⟨g, 3, none⟩ (.string s.sv)).setCell ⟨g, 4, none⟩ (.string s.nm)).setCell ⟨g, 5, none⟩ (.int .i64 s.kd)).setCell ⟨g, 6, none⟩ (.int .i64 s.st)).setCell ⟨g, 7, none⟩ (.int .u64 s.t0)).setCell ⟨g, 8, none⟩ (.int .u64 s.t1)).setCell ⟨g, 9, none⟩ v
theorem heap_put10 (w : World) (b : Nat) (s : Sp) (v : Value) (g : Nat) (hne : b ≠ g) : (put10 w b s v).heap[g]? = w.heap[g]? := by
  unfold put10
  simp only [heap_set _ _ _ _ _ hne]
theorem Bk.put10 {w : World} {g : Nat} {t : TypeId} (h : Bk w g t zsp) (s : Sp) (v : Value) : Bk (P06.put10 w g s v) g t (spc s v) := by
  have := (((((((((h.set 0 (.int .u64 s.T)).set 1 (.int .u64 s.I)).set 2 (.int .u64 s.P)).set 3 (.string s.sv)).set 4 (.string s.nm)).set 5 (.int .i64 s.kd)).set 6 (.int .i64 s.st)).set 7 (.int .u64 s.t0)).set 8 (.int .u64 s.t1)).set 9 v
  unfold P06.put10
  simpa using this
theorem size_put10 (w : World) (b : Nat) (s : Sp) (v : Value) : (P06.put10 w b s v).heap.size = w.heap.size := by
  unfold P06.put10
  simp
theorem OfR.end_ {t1 t2 e : TypeId} {w : World} {s : Sp} {A : Option Addr} {n c : Nat} {l : List At} {A2 : Option Addr} {c2 : Nat} {wr W : World} (h : OfR t1 t2 e w s A n c l n A2 c2 wr) (hl : l.length = n)
    (hk : ∀ g, w.heap.size + 1 ≠ g → W.heap[g]? = wr.heap[g]?) (hz : W.heap.size = wr.heap.size) (ho : W.os = wr.os) (ht : W.tape = wr.tape) (hu : W.output = wr.output) : Hd w.heap.size W A2 c2 l ∧ Below w.heap.size w W := by
  refine ⟨?_, ?_⟩
  · have ho := own_heap (w' := W) h.own fun g h1 h2 => hk g (by omega)
    subst hl
    rw [List.take_of_length_le (Nat.le_refl _)] at ho
    exact (Hd.own ho).low (by omega)
  · refine ⟨ho.trans h.bel.os, ht.trans h.bel.tape, hu.trans h.bel.output, by rw [hz]; exact h.bel.size, fun g hg => ?_⟩
    rw [hk g (by omega)]
    exact h.bel.block g hg
theorem put10_os (w : World) (g : Nat) (s : Sp) (v : Value) : (P06.put10 w g s v).os = w.os ∧ (P06.put10 w g s v).tape = w.tape ∧ (P06.put10 w g s v).output = w.output := by
  unfold P06.put10
  simp [World.setCell]
theorem OfR.fin {t1 t2 e : TypeId} {w : World} {s : Sp} {A : Option Addr} {n c : Nat} {l : List At} {A2 : Option Addr} {c2 : Nat} {wr W : World} (h : OfR t1 t2 e w s A n c l n A2 c2 wr) (hl : l.length = n) (hW : W = P06.put10 wr (w.heap.size + 1) s (.slice A2 n c2)) :
    Bk W (w.heap.size + 1) t2 (spc s (.slice A2 n c2)) ∧ Hd w.heap.size W A2 c2 l ∧ Below w.heap.size w W := by
  have h1 := h.b2.put10 s (.slice A2 n c2)
  have h2 : ∀ g, w.heap.size + 1 ≠ g → (P06.put10 wr (w.heap.size + 1) s (.slice A2 n c2)).heap[g]? = wr.heap[g]? := fun g hg => heap_put10 wr (w.heap.size + 1) s (.slice A2 n c2) g hg
  have h3 := size_put10 wr (w.heap.size + 1) s (.slice A2 n c2)
  have h4 := put10_os wr (w.heap.size + 1) s (.slice A2 n c2)
  rw [← hW] at h1 h2 h3 h4
  exact ⟨h1, h.end_ hl h2 h3 h4.1 h4.2.1 h4.2.2⟩

/-- 'append(own, src...)', the source nil or not, in a region that draws its order -/
theorem wp_append_rd {P : Program} {o : Oper} {a : Act} {w : World} {K : Act → World → Prop} {Q : Exit → Act → World → Prop} (s x : Operand) (t : TypeId)
    (ho : o.op = .call { callee := .builtin .append, args := #[s, x], argTypes := #[t, t] })
    (base : Nat) (e : TypeId) (i : TypeInfo) (z : Value) (size bytes : Nat) (ht : P.underlying t = some (.slice e)) (hi : P.info? e = some i) (hz : i.zero = some z)
    (hsize : i.size = size) (hby : i.bytes = bytes) (hzs : z.cells.size = size) (hsz : 0 < size)
    (v : Value) (n : Nat) (xs : List Value) (hs : a.eval s = v) (hown : w.ownsRow base e size v n xs)
    (A : Option Addr) (m c : Nat) (news : List Value) (hx : a.eval x = .slice A m c) (hr : Rd size w A m c news) (h1 : ∀ u ∈ news, u.oneCell' = true)
    (h63 : n + m ≤ maxLen) (hbytes : (n + m) * bytes ≤ 140737488355328) (hbase : base ≤ w.heap.size)
    (h : ∀ A' c' w', w'.ownsRow base e size (.slice A' (n + m) c') (n + m) (xs ++ news) → w.grownBy w' v.ownBlock → K (a.put o.dst (.slice A' (n + m) c')) w') :
    Oper.wp P o a w K Q := by
  cases hA : A with
  | none =>
    obtain ⟨rfl, rfl⟩ := hr.none_ hA
    have hn : news = [] := List.eq_nil_of_length_eq_zero (by have := hr.len; omega)
    subst hn
    subst hA
    obtain ⟨A1, c1, hv⟩ := own_form hown
    have hrun := run_append_owned_none (P := P) (w := w) base t o.type e i size ht hi v n xs hown
    have := h A1 c1 w (by rw [Nat.add_zero, List.append_nil, ← hv]; exact hown) (World.grownBy.refl w _)
    rw [Nat.add_zero, ← hv] at this
    unfold Oper.wp execOp
    simp only [ho, resolve, invoke, builtin, Sem.run_bind, Sem.run_pure, Result.andThen_ok, List.map_toArray, List.map_cons, List.map_nil, hs, hx, hrun]
    exact this
  | some ad =>
    refine wp_append_own w s x t ho base e i z size bytes ht hi hz hsize hby hzs hsz v n xs hs hown ad m c news (by rw [hx, hA]) hr.len (hr.at_ ad hA) h1 h63 hbytes hbase fun v' w' h2 h3 _ => ?_
    obtain ⟨A1, c1, hv⟩ := own_form h2
    subst hv
    exact h A1 c1 w' h2 h3
/-- one attribute's cells, laid in a block of their own -/
theorem Rd.lit4 (w : World) (e : TypeId) (x : At) : Rd 4 (w.alloc (.cells #[.string x.key, .int .i64 x.K, .int .i64 x.N, .string x.S] e)) (some ⟨w.heap.size, 0, none⟩) 1 1 (enc x) := by
  refine ⟨rfl, fun e => (by cases e), Nat.le_refl _, by unfold maxLen; omega, fun ad ha i u hu => ?_⟩
  injection ha with ha
  subst ha
  rw [Addr.add_lit, (Bk.new w e _).cell]
  simpa [enc] using hu
theorem attr_info : (Tryz.prog.info? 86).map (fun i => (i.zero, i.size, i.bytes)) = some (some (.agg #[.string ⟨#[]⟩, .int .i64 0, .int .i64 0, .string ⟨#[]⟩]), 4, 48) := by kernel_rfl
theorem rattr_info : (Tryz.prog.info? 81).map (fun i => (i.zero, i.size, i.bytes)) = some (some (.agg #[.string ⟨#[]⟩, .int .i64 0, .int .i64 0, .string ⟨#[]⟩]), 4, 48) := by kernel_rfl

set_option maxHeartbeats 4000000 in
set_option maxRecDepth 20000 in
theorem of_any (s : Sp) (A : Option Addr) (c : Nat) (l : List At) (w : World) (h : Ats w A c l) (hm : l.length ≤ 40) :
    Calls Tryz.prog 11 #[spv s (.slice A l.length c)] w fun e w' => ∃ A' c', e = .returned (spv s (.slice A' l.length c')) ∧ Hd w.heap.size w' A' c' l ∧ Below w.heap.size w w' := by
  have mixed : Tryz.prog.follows .mixedOrders = true := by kernel_rfl
  obtain ⟨i0, hi, hz0, hz1, hz2⟩ := info_parts attr_info
  obtain ⟨n, hn⟩ : ∃ n, l.length = n := ⟨_, rfl⟩
  have HN := Lib.hid hn
  rw [hn] at hm ⊢
  clear hn
  go_enter Tryz.func11, Tryz.ntmps11
  go_wp2
  have hst := OfR.start 34 45 86 w s A n c l
  go_loopw [4] (fun v wr => ∃ (k : Nat) (A2 : Option Addr) (c2 : Nat), v = .int .i64 k ∧ k ≤ n ∧ OfR 34 45 86 w s A n c l k A2 c2 wr) (fun v _ => n - (intOf v).toNat)
  case atStart => exact ⟨0, none, 0, rfl, Nat.zero_le _, hst⟩
  case round =>
    clear hst
    obtain ⟨k, A2, c2, rfl, hk, R⟩ := hrel
    have c9 : wr.cell? ⟨w.heap.size, 9, none⟩ = some (.slice A n c) := R.b1.cell 9
    by_cases hlt : k < n
    · have hltz : (k : Int) < (n : Int) := by omega
      have hkl : k < l.length := by rw [un HN]; exact hlt
      obtain ⟨ad, p, rfl, hp, F⟩ := h.get hkl
      have pl := World.block_lt_of_cell? _ _ F.c0
      have x9 : wr.cell? ⟨w.heap.size + 1 + 1, 9, none⟩ = some (.slice A2 k c2) := R.b3.cell 9
      have fx : wr.frozen? ⟨w.heap.size + 1 + 1, 9, none⟩ = false := R.b3.frozen 9
      have f0 := (R.bel.cell (p := p) pl).trans F.c0
      have f1 := (R.bel.cell (p := ⟨p.block, p.off + 1, none⟩) pl).trans F.c1
      have f2 : wr.cell? ⟨p.block, p.off + 1 + 1, none⟩ = some (.int .i64 l[k].N) := (R.bel.cell (p := ⟨p.block, p.off + 2, none⟩) pl).trans F.c2
      have f3 : wr.cell? ⟨p.block, p.off + 1 + 2, none⟩ = some (.string l[k].S) := (R.bel.cell (p := ⟨p.block, p.off + 3, none⟩) pl).trans F.c3
      go_wp2_with fail
      have R' : OfR 34 45 86 w s (some ad) n c l k A2 c2 wr.drew := ⟨R.b1, R.b2, R.b3, R.own, ⟨R.bel.os, R.bel.tape, R.bel.output, R.bel.size, R.bel.block⟩, R.lt⟩
      replace c9 : wr.drew.cell? ⟨w.heap.size, 9, none⟩ = some (.slice (some ad) n c) := c9
      replace x9 : wr.drew.cell? ⟨w.heap.size + 1 + 1, 9, none⟩ = some (.slice A2 k c2) := x9
      replace f0 : wr.drew.cell? p = some (.string l[k].key) := f0
      replace f1 : wr.drew.cell? ⟨p.block, p.off + 1, none⟩ = some (.int .i64 l[k].K) := f1
      replace f2 : wr.drew.cell? ⟨p.block, p.off + 1 + 1, none⟩ = some (.int .i64 l[k].N) := f2
      replace f3 : wr.drew.cell? ⟨p.block, p.off + 1 + 2, none⟩ = some (.string l[k].S) := f3
      clear F R fx
      have e0 : (0 : Int) ≤ (k : Int) := by omega
      have e1 : ((k : Int)).toNat = k := by omega
      generalize hx : l[k] = x at *
      have hb1 : Below wr.drew.heap.size wr.drew ((wr.alloc (.cells #[.string x.key, .int .i64 x.K, .int .i64 x.N, .string x.S] 86)).drew) := ((Below.refl _ _).alloc (Nat.le_refl _) _ : Below wr.drew.heap.size wr.drew (wr.drew.alloc _))
      have ho1 : (wr.alloc (.cells #[.string x.key, .int .i64 x.K, .int .i64 x.N, .string x.S] 86)).drew.ownsRow (w.heap.size + 1 + 1 + 1) 86 4 (.slice A2 k c2) k ((l.take k).flatMap enc) := R'.own.alloc (.cells #[.string x.key, .int .i64 x.K, .int .i64 x.N, .string x.S] 86)
      have hlit : Rd 4 (wr.alloc (.cells #[.string x.key, .int .i64 x.K, .int .i64 x.N, .string x.S] 86)).drew (some ⟨wr.heap.size, 0, none⟩) 1 1 (enc x) := Rd.lit4 wr.drew 86 x
      have hlt3 := R'.lt
      have a9 : ((wr.alloc (.cells #[.string x.key, .int .i64 x.K, .int .i64 x.N, .string x.S] 86)).drew).cell? ⟨w.heap.size + 1 + 1, 9, none⟩ = some (.slice A2 k c2) := (R'.b3.below hb1).cell 9
      have d1 : k + 1 ≤ maxLen := by unfold maxLen; omega
      have d2 : (k + 1) * 48 ≤ 140737488355328 := by omega
      have d3 : w.heap.size + 1 + 1 + 1 ≤ ((wr.alloc (.cells #[.string x.key, .int .i64 x.K, .int .i64 x.N, .string x.S] 86)).drew).heap.size := Nat.le_trans hlt3 hb1.size
      have keep1 : ∀ (q : Addr) (v : Value), wr.drew.cell? q = some v → (wr.alloc (.cells #[.string x.key, .int .i64 x.K, .int .i64 x.N, .string x.S] 86)).drew.cell? q = some v := fun q v h => by rw [hb1.cell (World.block_lt_of_cell? _ _ h)]; exact h
      have keep2 : ∀ (w2 : World), (wr.alloc (.cells #[.string x.key, .int .i64 x.K, .int .i64 x.N, .string x.S] 86)).drew.grownBy w2 (Value.slice A2 k c2).ownBlock → ∀ (q : Addr) (v : Value), q.block < w.heap.size + 1 + 1 + 1 → wr.drew.cell? q = some v → w2.cell? q = some v := fun w2 hg q v hq h => by
        have h1 := keep1 q v h
        rw [World.cell?_of_block (hg.block _ (World.block_lt_of_cell? _ _ h1) (fun e => by have := (ho1.lt _ e.symm).1; omega))]
        exact h1
      have pl2 : p.block < w.heap.size + 1 + 1 + 1 := by omega
      have n1 : w.heap.size < w.heap.size + 1 + 1 + 1 := by omega
      have n2 : w.heap.size + 1 + 1 < w.heap.size + 1 + 1 + 1 := by omega
      have S1 : Aside ((wr.alloc (.cells #[.string x.key, .int .i64 x.K, .int .i64 x.N, .string x.S] 86)).drew.cell? ⟨w.heap.size + 1 + 1, 9, none⟩ = some (.slice A2 k c2) ∧ (wr.alloc (.cells #[.string x.key, .int .i64 x.K, .int .i64 x.N, .string x.S] 86)).drew.cell? ⟨w.heap.size, 9, none⟩ = some (.slice (some ad) n c) ∧ (wr.alloc (.cells #[.string x.key, .int .i64 x.K, .int .i64 x.N, .string x.S] 86)).drew.cell? p = some (.string x.key) ∧ (wr.alloc (.cells #[.string x.key, .int .i64 x.K, .int .i64 x.N, .string x.S] 86)).drew.cell? ⟨p.block, p.off + 1, none⟩ = some (.int .i64 x.K) ∧ (wr.alloc (.cells #[.string x.key, .int .i64 x.K, .int .i64 x.N, .string x.S] 86)).drew.cell? ⟨p.block, p.off + 1 + 1, none⟩ = some (.int .i64 x.N) ∧ (wr.alloc (.cells #[.string x.key, .int .i64 x.K, .int .i64 x.N, .string x.S] 86)).drew.cell? ⟨p.block, p.off + 1 + 2, none⟩ = some (.string x.S)) := (show _ ∧ _ from ⟨keep1 _ _ x9, keep1 _ _ c9, keep1 _ _ f0, keep1 _ _ f1, keep1 _ _ f2, keep1 _ _ f3⟩)
      have KP : Aside (∀ w2 : World, (wr.alloc (.cells #[.string x.key, .int .i64 x.K, .int .i64 x.N, .string x.S] 86)).drew.grownBy w2 (Value.slice A2 k c2).ownBlock → w2.cell? ⟨w.heap.size + 1 + 1, 9, none⟩ = some (.slice A2 k c2) ∧ w2.cell? ⟨w.heap.size, 9, none⟩ = some (.slice (some ad) n c) ∧ w2.cell? p = some (.string x.key) ∧ w2.cell? ⟨p.block, p.off + 1, none⟩ = some (.int .i64 x.K) ∧ w2.cell? ⟨p.block, p.off + 1 + 1, none⟩ = some (.int .i64 x.N) ∧ w2.cell? ⟨p.block, p.off + 1 + 2, none⟩ = some (.string x.S)) := fun w2 hg => ⟨keep2 w2 hg _ _ n2 x9, keep2 w2 hg _ _ n1 c9, keep2 w2 hg _ _ pl2 f0, keep2 w2 hg _ _ pl2 f1, keep2 w2 hg _ _ pl2 f2, keep2 w2 hg _ _ pl2 f3⟩
      have KF : Aside (∀ w2 : World, (wr.alloc (.cells #[.string x.key, .int .i64 x.K, .int .i64 x.N, .string x.S] 86)).drew.grownBy w2 (Value.slice A2 k c2).ownBlock → Bk w2 (w.heap.size + 1 + 1) 45 (spc s (.slice A2 k c2))) := fun w2 hg => by
        have h1 : Bk (wr.alloc (.cells #[.string x.key, .int .i64 x.K, .int .i64 x.N, .string x.S] 86)).drew (w.heap.size + 1 + 1) 45 (spc s (.slice A2 k c2)) := R'.b3.below hb1
        unfold Bk at h1 ⊢
        rw [hg.block _ (Array.getElem?_eq_some_iff.1 h1).1 (fun e => by have := (ho1.lt _ e.symm).1; omega)]
        exact h1
      clear keep1 keep2
      refine wp_zed (S := fun w' => w'.cell? ⟨w.heap.size + 1 + 1, 9, none⟩ = some (.slice A2 k c2) ∧ w'.cell? ⟨w.heap.size, 9, none⟩ = some (.slice (some ad) n c) ∧ w'.cell? p = some (.string x.key) ∧ w'.cell? ⟨p.block, p.off + 1, none⟩ = some (.int .i64 x.K) ∧ w'.cell? ⟨p.block, p.off + 1 + 1, none⟩ = some (.int .i64 x.N) ∧ w'.cell? ⟨p.block, p.off + 1 + 2, none⟩ = some (.string x.S)) (z := 18) mixed ?_
      refine Zed.take (i := 0) (v := .pointer (some ⟨w.heap.size + 1 + 1, 9, none⟩)) rfl (by kernel_rfl) rfl (by kernel_rfl) (by kernel_rfl) (by kernel_rfl) (fun _ _ _ h => h) ?_ ⟨x9, c9, f0, f1, f2, f3⟩ ?_
      · refine .inl ⟨rfl, fun W hW => ?_⟩
        obtain ⟨q1, q2, q3, q4, q5, q6⟩ := hW
        go_simp
      (try simp only [Act.put, List.setIfInBounds_toArray, List.set_cons_zero, List.set_cons_succ])
      refine Zed.take (i := 1) (v := .slice A2 k c2) rfl (by kernel_rfl) rfl (by kernel_rfl) (by kernel_rfl) (by kernel_rfl) (fun _ _ _ h => h) ?_ ⟨x9, c9, f0, f1, f2, f3⟩ ?_
      · refine .inl ⟨rfl, fun W hW => ?_⟩
        obtain ⟨q1, q2, q3, q4, q5, q6⟩ := hW
        go_simp
      (try simp only [Act.put, List.setIfInBounds_toArray, List.set_cons_zero, List.set_cons_succ])
      refine Zed.take (i := 2) (v := .pointer (some ⟨w.heap.size, 9, none⟩)) rfl (by kernel_rfl) rfl (by kernel_rfl) (by kernel_rfl) (by kernel_rfl) (fun _ _ _ h => h) ?_ ⟨x9, c9, f0, f1, f2, f3⟩ ?_
      · refine .inl ⟨rfl, fun W hW => ?_⟩
        obtain ⟨q1, q2, q3, q4, q5, q6⟩ := hW
        go_simp
      (try simp only [Act.put, List.setIfInBounds_toArray, List.set_cons_zero, List.set_cons_succ])
      refine Zed.take (i := 3) (v := .slice (some ad) n c) rfl (by kernel_rfl) rfl (by kernel_rfl) (by kernel_rfl) (by kernel_rfl) (fun _ _ _ h => h) ?_ ⟨x9, c9, f0, f1, f2, f3⟩ ?_
      · refine .inl ⟨rfl, fun W hW => ?_⟩
        obtain ⟨q1, q2, q3, q4, q5, q6⟩ := hW
        go_simp
      (try simp only [Act.put, List.setIfInBounds_toArray, List.set_cons_zero, List.set_cons_succ])
      refine Zed.take (i := 4) (v := .int .i64 (k : Int)) rfl (by kernel_rfl) rfl (by kernel_rfl) (by kernel_rfl) (by kernel_rfl) (fun _ _ _ h => h) ?_ ⟨x9, c9, f0, f1, f2, f3⟩ ?_
      · refine .inl ⟨rfl, fun W hW => ?_⟩
        obtain ⟨q1, q2, q3, q4, q5, q6⟩ := hW
        go_simp
      (try simp only [Act.put, List.setIfInBounds_toArray, List.set_cons_zero, List.set_cons_succ])
      refine Zed.take (i := 5) (v := .pointer (some p)) rfl (by kernel_rfl) rfl (by kernel_rfl) (by kernel_rfl) (by kernel_rfl) (fun _ _ _ h => h) ?_ ⟨x9, c9, f0, f1, f2, f3⟩ ?_
      · refine .inl ⟨rfl, fun W hW => ?_⟩
        obtain ⟨q1, q2, q3, q4, q5, q6⟩ := hW
        go_simp
      (try simp only [Act.put, List.setIfInBounds_toArray, List.set_cons_zero, List.set_cons_succ])
      refine Zed.take (i := 6) (v := .pointer (some p)) rfl (by kernel_rfl) rfl (by kernel_rfl) (by kernel_rfl) (by kernel_rfl) (fun _ _ _ h => h) ?_ ⟨x9, c9, f0, f1, f2, f3⟩ ?_
      · refine .inl ⟨rfl, fun W hW => ?_⟩
        obtain ⟨q1, q2, q3, q4, q5, q6⟩ := hW
        go_simp
      (try simp only [Act.put, List.setIfInBounds_toArray, List.set_cons_zero, List.set_cons_succ])
      refine Zed.take (i := 7) (v := .string x.key) rfl (by kernel_rfl) rfl (by kernel_rfl) (by kernel_rfl) (by kernel_rfl) (fun _ _ _ h => h) ?_ ⟨x9, c9, f0, f1, f2, f3⟩ ?_
      · refine .inl ⟨rfl, fun W hW => ?_⟩
        obtain ⟨q1, q2, q3, q4, q5, q6⟩ := hW
        go_simp
      (try simp only [Act.put, List.setIfInBounds_toArray, List.set_cons_zero, List.set_cons_succ])
      refine Zed.take (i := 8) (v := .pointer (some ⟨w.heap.size, 9, none⟩)) rfl (by kernel_rfl) rfl (by kernel_rfl) (by kernel_rfl) (by kernel_rfl) (fun _ _ _ h => h) ?_ ⟨x9, c9, f0, f1, f2, f3⟩ ?_
      · refine .inl ⟨rfl, fun W hW => ?_⟩
        obtain ⟨q1, q2, q3, q4, q5, q6⟩ := hW
        go_simp
      (try simp only [Act.put, List.setIfInBounds_toArray, List.set_cons_zero, List.set_cons_succ])
      refine Zed.take (i := 9) (v := .slice (some ad) n c) rfl (by kernel_rfl) rfl (by kernel_rfl) (by kernel_rfl) (by kernel_rfl) (fun _ _ _ h => h) ?_ ⟨x9, c9, f0, f1, f2, f3⟩ ?_
      · refine .inl ⟨rfl, fun W hW => ?_⟩
        obtain ⟨q1, q2, q3, q4, q5, q6⟩ := hW
        go_simp
      (try simp only [Act.put, List.setIfInBounds_toArray, List.set_cons_zero, List.set_cons_succ])
      refine Zed.take (i := 10) (v := .int .i64 (k : Int)) rfl (by kernel_rfl) rfl (by kernel_rfl) (by kernel_rfl) (by kernel_rfl) (fun _ _ _ h => h) ?_ ⟨x9, c9, f0, f1, f2, f3⟩ ?_
      · refine .inl ⟨rfl, fun W hW => ?_⟩
        obtain ⟨q1, q2, q3, q4, q5, q6⟩ := hW
        go_simp
      (try simp only [Act.put, List.setIfInBounds_toArray, List.set_cons_zero, List.set_cons_succ])
      refine Zed.take (i := 11) (v := .pointer (some p)) rfl (by kernel_rfl) rfl (by kernel_rfl) (by kernel_rfl) (by kernel_rfl) (fun _ _ _ h => h) ?_ ⟨x9, c9, f0, f1, f2, f3⟩ ?_
      · refine .inl ⟨rfl, fun W hW => ?_⟩
        obtain ⟨q1, q2, q3, q4, q5, q6⟩ := hW
        go_simp
      (try simp only [Act.put, List.setIfInBounds_toArray, List.set_cons_zero, List.set_cons_succ])
      refine Zed.take (i := 12) (v := .pointer (some ⟨p.block, p.off + 1, none⟩)) rfl (by kernel_rfl) rfl (by kernel_rfl) (by kernel_rfl) (by kernel_rfl) (fun _ _ _ h => h) ?_ ⟨x9, c9, f0, f1, f2, f3⟩ ?_
      · refine .inl ⟨rfl, fun W hW => ?_⟩
        obtain ⟨q1, q2, q3, q4, q5, q6⟩ := hW
        go_simp
      (try simp only [Act.put, List.setIfInBounds_toArray, List.set_cons_zero, List.set_cons_succ])
      refine Zed.take (i := 13) (v := .agg #[.int .i64 x.K, .int .i64 x.N, .string x.S]) rfl (by kernel_rfl) rfl (by kernel_rfl) (by kernel_rfl) (by kernel_rfl) (fun _ _ _ h => h) ?_ ⟨x9, c9, f0, f1, f2, f3⟩ ?_
      · refine .inl ⟨rfl, fun W hW => ?_⟩
        obtain ⟨q1, q2, q3, q4, q5, q6⟩ := hW
        go_simp
      (try simp only [Act.put, List.setIfInBounds_toArray, List.set_cons_zero, List.set_cons_succ])
      refine Zed.take (i := 14) (v := .agg #[.string x.key, .int .i64 x.K, .int .i64 x.N, .string x.S]) rfl (by kernel_rfl) rfl (by kernel_rfl) (by kernel_rfl) (by kernel_rfl) (fun _ _ _ h => h) ?_ ⟨x9, c9, f0, f1, f2, f3⟩ ?_
      · refine .inl ⟨rfl, fun W hW => ?_⟩
        obtain ⟨q1, q2, q3, q4, q5, q6⟩ := hW
        go_simp
      (try simp only [Act.put, List.setIfInBounds_toArray, List.set_cons_zero, List.set_cons_succ])
      refine Zed.step (i := 15) (by kernel_rfl) rfl rfl (fun K hK => ?_)
      go_simp
      refine hK _ _ ⟨.inr S1.out, ?_⟩
      clear hK K
      (try simp only [Act.put, List.setIfInBounds_toArray, List.set_cons_zero, List.set_cons_succ])
      refine Zed.step (i := 16) (by kernel_rfl) rfl rfl (fun K hK => ?_)
      refine wp_append_rd (.tmp 32) (.tmp 46) 43 rfl (w.heap.size + 1 + 1 + 1) 86 i0 _ 4 48 Tryz.underlying43 hi hz0 hz1 hz2 rfl (Nat.succ_pos 3) (.slice A2 k c2) k ((l.take k).flatMap enc) rfl ho1 (some ⟨wr.heap.size, 0, none⟩) 1 1 (enc x) rfl hlit (enc_one x) d1 d2 d3 ?_
      intro A3 c3 w2 hown3 hg3
      refine hK _ _ ⟨.inr (KP.out w2 hg3), ?_⟩
      clear hK K
      have y9 : w2.cell? ⟨w.heap.size + 1 + 1, 9, none⟩ = some (.slice A2 k c2) := (KF.out w2 hg3).cell 9
      have F2 := (KF.out w2 hg3).frozen 9
      (try simp only [Act.put, List.setIfInBounds_toArray, List.set_cons_zero, List.set_cons_succ])
      refine Zed.step (i := 17) (by kernel_rfl) rfl rfl (fun K hK => ?_)
      go_simp
      refine hK _ _ ⟨.inr (KP.out w2 hg3), ?_⟩
      clear hK K
      (try simp only [Act.put, List.setIfInBounds_toArray, List.set_cons_zero, List.set_cons_succ])
      refine Zed.step (i := 18) (by kernel_rfl) rfl rfl (fun K hK => ?_)
      go_simp
      refine hK _ _ ⟨.inl rfl, Zed.done (by kernel_rfl) ?_ _⟩
      clear hK K
      (try simp only [Act.put, List.setIfInBounds_toArray, List.set_cons_zero, List.set_cons_succ])
      have R2 := R'.step hkl hb1 hg3 (by rw [hx]; exact hown3)
      clear hg3 hown3 hlit ho1 hb1 R' c9 x9 f0 f1 f2 f3 S1 KP KF y9 F2
      go_wp2
      go_roundw
      case rel => exact ⟨k + 1, A3, c3, by go_num, by omega, R2⟩
      case measure => simp [intOf]; omega
    · have hltz : ¬ ((k : Int) < (n : Int)) := by omega
      have hkn : k = n := by omega
      subst hkn
      have x0 : wr.cell? ⟨w.heap.size + 1 + 1, 0, none⟩ = some (.int .u64 s.T) := R.b3.cell 0
      have x1 : wr.cell? ⟨w.heap.size + 1 + 1, 1, none⟩ = some (.int .u64 s.I) := R.b3.cell 1
      have x2 : wr.cell? ⟨w.heap.size + 1 + 1, 2, none⟩ = some (.int .u64 s.P) := R.b3.cell 2
      have x3 : wr.cell? ⟨w.heap.size + 1 + 1, 3, none⟩ = some (.string s.sv) := R.b3.cell 3
      have x4 : wr.cell? ⟨w.heap.size + 1 + 1, 4, none⟩ = some (.string s.nm) := R.b3.cell 4
      have x5 : wr.cell? ⟨w.heap.size + 1 + 1, 5, none⟩ = some (.int .i64 s.kd) := R.b3.cell 5
      have x6 : wr.cell? ⟨w.heap.size + 1 + 1, 6, none⟩ = some (.int .i64 s.st) := R.b3.cell 6
      have x7 : wr.cell? ⟨w.heap.size + 1 + 1, 7, none⟩ = some (.int .u64 s.t0) := R.b3.cell 7
      have x8 : wr.cell? ⟨w.heap.size + 1 + 1, 8, none⟩ = some (.int .u64 s.t1) := R.b3.cell 8
      have x9 : wr.cell? ⟨w.heap.size + 1 + 1, 9, none⟩ = some (.slice A2 k c2) := R.b3.cell 9
      have z0 : wr.cell? ⟨w.heap.size + 1, 0, none⟩ = some (.int .u64 0) := R.b2.cell 0
      have z1 : wr.cell? ⟨w.heap.size + 1, 1, none⟩ = some (.int .u64 0) := R.b2.cell 1
      have z2 : wr.cell? ⟨w.heap.size + 1, 2, none⟩ = some (.int .u64 0) := R.b2.cell 2
      have z3 : wr.cell? ⟨w.heap.size + 1, 3, none⟩ = some (.string ⟨#[]⟩) := R.b2.cell 3
      have z4 : wr.cell? ⟨w.heap.size + 1, 4, none⟩ = some (.string ⟨#[]⟩) := R.b2.cell 4
      have z5 : wr.cell? ⟨w.heap.size + 1, 5, none⟩ = some (.int .i64 0) := R.b2.cell 5
      have z6 : wr.cell? ⟨w.heap.size + 1, 6, none⟩ = some (.int .i64 0) := R.b2.cell 6
      have z7 : wr.cell? ⟨w.heap.size + 1, 7, none⟩ = some (.int .u64 0) := R.b2.cell 7
      have z8 : wr.cell? ⟨w.heap.size + 1, 8, none⟩ = some (.int .u64 0) := R.b2.cell 8
      have z9 : wr.cell? ⟨w.heap.size + 1, 9, none⟩ = some (.slice none 0 0) := R.b2.cell 9
      have g0 : wr.frozen? ⟨w.heap.size + 1, 0, none⟩ = false := R.b2.frozen 0
      have g1 : wr.frozen? ⟨w.heap.size + 1, 1, none⟩ = false := R.b2.frozen 1
      have g2 : wr.frozen? ⟨w.heap.size + 1, 2, none⟩ = false := R.b2.frozen 2
      have g3 : wr.frozen? ⟨w.heap.size + 1, 3, none⟩ = false := R.b2.frozen 3
      have g4 : wr.frozen? ⟨w.heap.size + 1, 4, none⟩ = false := R.b2.frozen 4
      have g5 : wr.frozen? ⟨w.heap.size + 1, 5, none⟩ = false := R.b2.frozen 5
      have g6 : wr.frozen? ⟨w.heap.size + 1, 6, none⟩ = false := R.b2.frozen 6
      have g7 : wr.frozen? ⟨w.heap.size + 1, 7, none⟩ = false := R.b2.frozen 7
      have g8 : wr.frozen? ⟨w.heap.size + 1, 8, none⟩ = false := R.b2.frozen 8
      have g9 : wr.frozen? ⟨w.heap.size + 1, 9, none⟩ = false := R.b2.frozen 9
      go_wp2
      have hfin := fun W hW => R.fin (W := W) (un HN) hW
      change bodyPost _ _ _ _ _ (P06.put10 wr (w.heap.size + 1) s (.slice A2 k c2))
      clear x0 z0 g0 x1 z1 g1 x2 z2 g2 x3 z3 g3 x4 z4 g4 x5 z5 g5 x6 z6 g6 x7 z7 g7 x8 z8 g8 x9 z9 g9 R c9
      generalize hW : P06.put10 wr (w.heap.size + 1) s (.slice A2 k c2) = W at *
      obtain ⟨hB, hH, hb⟩ := hfin W rfl
      clear hfin
      have x0 : W.cell? ⟨w.heap.size + 1, 0, none⟩ = some (.int .u64 s.T) := hB.cell 0
      have x1 : W.cell? ⟨w.heap.size + 1, 1, none⟩ = some (.int .u64 s.I) := hB.cell 1
      have x2 : W.cell? ⟨w.heap.size + 1, 2, none⟩ = some (.int .u64 s.P) := hB.cell 2
      have x3 : W.cell? ⟨w.heap.size + 1, 3, none⟩ = some (.string s.sv) := hB.cell 3
      have x4 : W.cell? ⟨w.heap.size + 1, 4, none⟩ = some (.string s.nm) := hB.cell 4
      have x5 : W.cell? ⟨w.heap.size + 1, 5, none⟩ = some (.int .i64 s.kd) := hB.cell 5
      have x6 : W.cell? ⟨w.heap.size + 1, 6, none⟩ = some (.int .i64 s.st) := hB.cell 6
      have x7 : W.cell? ⟨w.heap.size + 1, 7, none⟩ = some (.int .u64 s.t0) := hB.cell 7
      have x8 : W.cell? ⟨w.heap.size + 1, 8, none⟩ = some (.int .u64 s.t1) := hB.cell 8
      have x9 : W.cell? ⟨w.heap.size + 1, 9, none⟩ = some (.slice A2 k c2) := hB.cell 9
      (try simp only [Exit.inBlock, Exit.then])
      refine bodyPost_ret (by simp [results, Tryz.results11, go_sem, x0, x1, x2, x3, x4, x5, x6, x7, x8, x9]; try rfl) rfl ?_
      exact ⟨A2, c2, rfl, hH, hb⟩
end Go.Proofs.YtdmibolbpgondaaGreat.P06
