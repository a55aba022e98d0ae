/-
  Buckets of a histogram.
-/
import Derived.Test.YthggaoobbkflaaaH11Full
import Derived.Test.YthggaoobbkflaaaP06Region
import Derived.Deep.RegionHeld3
set_option linter.unusedSimpArgs false
set_option linter.unusedVariables false
namespace Go.Proofs.Ythggaoobbkflaaa.H11
open Go.RowKit Go.Lib Go.Proofs.Ythggaoobbkflaaa.Wd Go.Proofs.Ythggaoobbkflaaa.S10

/-- 'append(own, src...)', the source nil or not, in a region that draws its order -/
theorem step_append_rd {P : Program} {ops : Array Oper} {o : Oper} {a : Act} {w : World} {K : Act → World → Prop} {Q : Exit → Act → World → Prop} {E : Prop} (hgd : o.guard = none) (s x : Operand) (t : TypeId)
    (ho : o.op = .call { callee := .builtin .append, args := #[s, x], argTypes := #[t, t] })
    (base : Nat) (e : TypeId) (i : TypeInfo) (z : Value) (size bytes : Nat) (ht : P.underlying t = some (.slice e)) (hi : P.info? e = some i) (hz : i.zero = some z)
    (hsize : i.size = size) (hby : i.bytes = bytes) (hzs : z.cells.size = size) (hsz : 0 < size)
    (v : Value) (n : Nat) (xs : List Value) (hs : a.eval s = v) (hown : w.ownsRow base e size v n xs)
    (A : Option Addr) (m c : Nat) (news : List Value) (hx : a.eval x = .slice A m c) (hr : Rd size w A m c news) (h1 : ∀ u ∈ news, u.oneCell' = true)
    (h63 : n + m ≤ maxLen) (hbytes : (n + m) * bytes ≤ 140737488355328) (hbase : base ≤ w.heap.size)
    (h : ∀ A' c' w', w'.ownsRow base e size (.slice A' (n + m) c') (n + m) (xs ++ news) → w.grownBy w' v.ownBlock → K (a.put o.dst (.slice A' (n + m) c')) w') :
    if Region.wanted o (yielded ops a.tmps) = true then Oper.wp P o a w K Q else E := by
  have hw : Region.wanted o (yielded ops a.tmps) = true := by simp [Region.wanted, hgd]
  rw [if_pos hw]
  cases hA : A with
  | none =>
    obtain ⟨rfl, rfl⟩ := hr.none_ hA
    have hn : news = [] := List.eq_nil_of_length_eq_zero (by have := hr.len; omega)
    subst hn
    subst hA
    obtain ⟨A1, c1, hv⟩ := own_form hown
    have hrun := run_append_owned_none (P := P) (w := w) base t o.type e i size ht hi v n xs hown
    have := h A1 c1 w (by rw [Nat.add_zero, List.append_nil, ← hv]; exact hown) (World.grownBy.refl w _)
    rw [Nat.add_zero, ← hv] at this
    unfold Oper.wp execOp
    simp only [ho, resolve, invoke, builtin, Sem.run_bind, Sem.run_pure, Result.andThen_ok, List.map_toArray, List.map_cons, List.map_nil, hs, hx, hrun]
    exact this
  | some ad =>
    refine wp_append_own w s x t ho base e i z size bytes ht hi hz hsize hby hzs hsz v n xs hs hown ad m c news (by rw [hx, hA]) hr.len (hr.at_ ad hA) h1 h63 hbytes hbase fun v' w' h2 h3 _ => ?_
    obtain ⟨A1, c1, hv⟩ := own_form h2
    subst hv
    exact h A1 c1 w' h2 h3

/-- the buckets of a histogram, as a list -/
def ks (K : Nat → Nat) (n : Nat) : List Nat := (List.range n).map K
theorem ks_len (K : Nat → Nat) (n : Nat) : (ks K n).length = n := by simp [ks]
theorem ks_get (K : Nat → Nat) {n i : Nat} (h : i < (ks K n).length) : (ks K n)[i] = K i := by simp [ks]
theorem ks_succ (K : Nat → Nat) (n : Nat) : ks K (n + 1) = ks K n ++ [K n] := by simp [ks, List.range_succ]
theorem crow_cell (cs : List Nat) (i : Nat) (u : Value) (h : (crow cs)[i]? = some u) : ∃ j, ∃ hj : j < cs.length, (i = 2 * j ∧ u = .int .u64 (sn cs[j])) ∨ (i = 2 * j + 1 ∧ u = .bool (sf cs[j])) := by
  have hi : i < (crow cs).length := (List.getElem?_eq_some_iff.1 h).1
  rw [crow_len] at hi
  have hj : i / 2 < cs.length := by omega
  refine ⟨i / 2, hj, ?_⟩
  have k := crow_get cs (i / 2) hj
  rcases Nat.mod_two_eq_zero_or_one i with e | e
  · have e2 : 2 * (i / 2) = i := by omega
    rw [e2] at k
    exact .inl ⟨e2.symm, Option.some.inj (h.symm.trans k.1)⟩
  · have e2 : 2 * (i / 2) + 1 = i := by omega
    rw [e2] at k
    exact .inr ⟨e2.symm, Option.some.inj (h.symm.trans k.2)⟩
theorem Hr.row {w : World} {p g c : Nat} {A : Option Addr} {bs : List Nat} {K : Nat → Nat} {N S : Nat} (h : Hr w p g A c bs K N S) : Rd 2 w (some ⟨g, 0, none⟩) bs.length bs.length (crow (ks K bs.length)) := by
  have hf := h.rt.few
  refine ⟨by rw [crow_len, ks_len], (fun e => by cases e), Nat.le_refl _, by unfold maxLen; omega, fun ad ha i u hu => ?_⟩
  injection ha with ha
  subst ha
  obtain ⟨j, hj, e⟩ := crow_cell _ i u hu
  rw [ks_get K hj] at e
  rw [ks_len] at hj
  have k := h.ct j hj
  rw [add_shift _ _ rfl]
  simp only [Nat.zero_add]
  rcases e with ⟨rfl, rfl⟩ | ⟨rfl, rfl⟩
  · exact k.c0
  · exact k.c1
theorem one_row (w : World) (e : TypeId) (S : Nat) : Rd 2 (w.alloc (.cells #[.int .u64 (sn S), .bool (sf S)] e)) (some ⟨w.heap.size, 0, none⟩) 1 1 (crow [S]) := by
  refine ⟨rfl, (fun e => by cases e), Nat.le_refl _, by unfold maxLen; omega, fun ad ha i u hu => ?_⟩
  injection ha with ha
  subst ha
  rw [add_shift _ _ rfl]
  match i with
  | 0 => simp [crow, cc] at hu; subst hu; simp
  | 1 => simp [crow, cc] at hu; subst hu; simp
  | i + 2 => simp [crow, cc] at hu
/-- what Buckets tells -/
def BkOut (w : World) (n : Nat) (cs : List Nat) (e : Ending) (w' : World) : Prop := ∃ A' c', e = .returned (.slice A' n c') ∧ w'.ownsRow w.heap.size 37 2 (.slice A' n c') n (crow cs) ∧ Below w.heap.size w w'
theorem BkOut.of {w w' : World} {n : Nat} {cs a b : List Nat} {A' : Option Addr} {c' : Nat} (h : w'.ownsRow w.heap.size 37 2 (.slice A' n c') n (crow a ++ crow b)) (hc : a ++ b = cs) (hb : Below w.heap.size w w') : BkOut w n cs (.returned (.slice A' n c')) w' :=
  ⟨A', c', rfl, by rw [← hc, crow_app]; exact h, hb⟩
/-- the four cells of which the region speaks -/
def Fo (p g n : Nat) (x : Int) (f : Bool) (W : World) : Prop := W.cell? ⟨p, 1, none⟩ = some (.slice (some ⟨g, 0, none⟩) n n) ∧ W.cell? ⟨p, 2, none⟩ = some (.int .u64 x) ∧ W.cell? ⟨p, 3, none⟩ = some (.bool f) ∧ p < W.heap.size
theorem Fo.below {p g n : Nat} {x : Int} {f : Bool} {W W' : World} (h : Fo p g n x f W) (hb : Below W.heap.size W W') : Fo p g n x f W' :=
  ⟨(hb.cell (p := ⟨p, 1, none⟩) h.2.2.2).trans h.1, (hb.cell (p := ⟨p, 2, none⟩) h.2.2.2).trans h.2.1, (hb.cell (p := ⟨p, 3, none⟩) h.2.2.2).trans h.2.2.1, Nat.lt_of_lt_of_le h.2.2.2 hb.size⟩
theorem Fo.cs {p g n : Nat} {x : Int} {f : Bool} {W : World} (h : Fo p g n x f W) : W.cell? ⟨p, 1, none⟩ = some (.slice (some ⟨g, 0, none⟩) n n) ∧ W.cell? ⟨p, 2, none⟩ = some (.int .u64 x) ∧ W.cell? ⟨p, 3, none⟩ = some (.bool f) := ⟨h.1, h.2.1, h.2.2.1⟩
theorem own_mono {w : World} {b b' : Nat} {e : TypeId} {s n : Nat} {v : Value} {xs : List Value} (h : w.ownsRow b' e s v n xs) (hb : b ≤ b') : w.ownsRow b e s v n xs :=
  ⟨h.1, h.2.imp id fun ⟨g, cap, cur, hv, hbg, r⟩ => ⟨g, cap, cur, hv, Nat.le_trans hb hbg, r⟩⟩
/-- what stands ahead of the append, and behind it -/
structure Ah (w : World) (p g n : Nat) (x : Int) (f : Bool) (A1 : Option Addr) (k1 : Nat) (xs : List Value) (W : World) : Prop where
  own : W.ownsRow w.heap.size 37 2 (.slice A1 n k1) n xs
  bel : Below w.heap.size w W
  fo : Fo p g n x f W
  lt : p < w.heap.size
theorem Ah.below {w : World} {p g n : Nat} {x : Int} {f : Bool} {A1 : Option Addr} {k1 : Nat} {xs : List Value} {W W' : World} (h : Ah w p g n x f A1 k1 xs W) (hb : Below W.heap.size W W') : Ah w p g n x f A1 k1 xs W' :=
  ⟨own_below h.own hb, h.bel.trans (hb.mono h.bel.size), h.fo.below hb, h.lt⟩
structure Bh (w : World) (p g n m : Nat) (x : Int) (f : Bool) (A2 : Option Addr) (k2 : Nat) (xs : List Value) (W : World) : Prop where
  own : W.ownsRow w.heap.size 37 2 (.slice A2 m k2) m xs
  bel : Below w.heap.size w W
  fo : Fo p g n x f W
theorem Ah.grow {w : World} {p g n : Nat} {x : Int} {f : Bool} {A1 : Option Addr} {k1 : Nat} {xs : List Value} {W W' : World} (h : Ah w p g n x f A1 k1 xs W) {m : Nat} {A2 : Option Addr} {k2 : Nat} {ys : List Value}
    (ho : W'.ownsRow w.heap.size 37 2 (.slice A2 m k2) m ys) (hg : W.grownBy W' (Value.slice A1 n k1).ownBlock) : Bh w p g n m x f A2 k2 ys W' := by
  have hb := h.bel.grown hg h.bel.size fun k hk => (h.own.lt k hk).1
  have hF : Fo p g n x f W' := by
    have hl := h.lt
    have e : W'.heap[p]? = W.heap[p]? := by
      refine hg.block p h.fo.2.2.2 fun q => ?_
      have := (h.own.lt p q.symm).1
      omega
    exact ⟨(World.cell?_of_block (a := ⟨p, 1, none⟩) e).trans h.fo.1, (World.cell?_of_block (a := ⟨p, 2, none⟩) e).trans h.fo.2.1, (World.cell?_of_block (a := ⟨p, 3, none⟩) e).trans h.fo.2.2.1, Nat.lt_of_lt_of_le h.fo.2.2.2 hg.size⟩
  exact ⟨ho, hb, hF⟩
set_option maxRecDepth 20000 in
set_option maxHeartbeats 2000000 in
theorem buckets_at (p g c n m : Nat) (A : Option Addr) (bs : List Nat) (K : Nat → Nat) (N S : Nat) (w : World) (h : Hr w p g A c bs K N S) (hn : bs.length = n) (hm : n + 1 = m) :
    Calls Try.prog 12 #[.pointer (some ⟨p, 0, none⟩)] w (BkOut w m (ks K m)) := by
  obtain ⟨i0, hi, hz0, hz1, hz2⟩ := info_of ct_info
  have hf : n ≤ 32 := by have := h.rt.few; omega
  have R := h.row
  have c1 := h.c1
  have c2 := h.r.c0
  have c3 : w.cell? ⟨p, 3, none⟩ = some (.bool (sf (K bs.length))) := h.r.c1
  rw [hn] at R c1 c2 c3
  have hpl := h.r.lt
  have hone := crow_one (ks K n)
  have hone1 := crow_one [K n]
  have F0 : Fo p g n (sn (K n)) (sf (K n)) w := ⟨c1, c2, c3, hpl⟩
  have HK := Lib.hid (show ks K n ++ [K n] = ks K m from by rw [← hm, ks_succ])
  clear h c1 c2 c3 hn
  have oneR := fun W => one_row W 37 (K n)
  have hC := fun W h => clonec_at ⟨g, 0, none⟩ n n (crow (ks K n)) W h hone (by omega)
  have F0d : Fo p g n (sn (K n)) (sf (K n)) w.drew := F0
  have R0 : Rd 2 w.drew (some ⟨g, 0, none⟩) n n (crow (ks K n)) := R.drew
  have F1 : Fo p g n (sn (K n)) (sf (K n)) (w.alloc (.cells #[.int .u64 (sn (K n)), .bool (sf (K n))] 37)).drew := F0.below (below_box w _).drew
  have R1 : Rd 2 (w.alloc (.cells #[.int .u64 (sn (K n)), .bool (sf (K n))] 37)).drew (some ⟨g, 0, none⟩) n n (crow (ks K n)) := (R.alloc _).drew
  have O1 : Rd 2 (w.alloc (.cells #[.int .u64 (sn (K n)), .bool (sf (K n))] 37)).drew (some ⟨w.heap.size, 0, none⟩) 1 1 (crow [K n]) := (oneR w).drew
  have d1 : n + 1 ≤ maxLen := by unfold maxLen; omega
  have d2 : (n + 1) * 16 ≤ 140737488355328 := by omega
  have mkA : ∀ A1 k1 v1, v1.ownsRow w.drew.heap.size 37 2 (.slice A1 n k1) n (crow (ks K n)) → Below w.drew.heap.size w.drew v1 → Ah w p g n (sn (K n)) (sf (K n)) A1 k1 (crow (ks K n)) (v1.alloc (.cells #[.int .u64 (sn (K n)), .bool (sf (K n))] 37)) := fun A1 k1 v1 h1 h2 =>
    Ah.below ⟨h1, ⟨h2.os, h2.tape, h2.output, h2.size, h2.block⟩, F0d.below h2, hpl⟩ (below_box v1 _)
  have mkB : ∀ A1 k1 v1, v1.ownsRow (w.alloc (.cells #[.int .u64 (sn (K n)), .bool (sf (K n))] 37)).drew.heap.size 37 2 (.slice A1 n k1) n (crow (ks K n)) → Below (w.alloc (.cells #[.int .u64 (sn (K n)), .bool (sf (K n))] 37)).drew.heap.size (w.alloc (.cells #[.int .u64 (sn (K n)), .bool (sf (K n))] 37)).drew v1 →
      Ah w p g n (sn (K n)) (sf (K n)) A1 k1 (crow (ks K n)) v1 ∧ Rd 2 v1 (some ⟨w.heap.size, 0, none⟩) 1 1 (crow [K n]) := fun A1 k1 v1 h1 h2 =>
    ⟨⟨own_mono h1 (by simp), (below_box w _).drew.trans (h2.mono (by simp)), F1.below h2, hpl⟩, O1.below h2⟩
  clear R F0 hf
  go_enter Try.func12, Try.ntmps12
  go_wp2_with fail
  go_region_held3 (fun W => W.cell? ⟨p, 1, none⟩ = some (.slice (some ⟨g, 0, none⟩) n n) ∧ W.cell? ⟨p, 2, none⟩ = some (.int .u64 (sn (K n))) ∧ W.cell? ⟨p, 3, none⟩ = some (.bool (sf (K n))))
    (first | (with_reducible exact B2.fo.cs) | (with_reducible exact A3.fo.cs) | (with_reducible exact F2.cs) | (with_reducible exact F1.cs) | (with_reducible exact F0d.cs))
    (first
      | (go_at_call 24; (with_reducible refine (hC _ R0).mono ?_); rintro e v1 ⟨A1, k1, rfl, own1, b1⟩; have F2 := F0d.below b1; have A3 := mkA A1 k1 v1 own1 b1; have O3 := oneR v1)
      | (go_at_call 24; (with_reducible refine (hC _ R1).mono ?_); rintro e v1 ⟨A1, k1, rfl, own1, b1⟩; have F2 := F1.below b1; obtain ⟨A3, O3⟩ := mkB A1 k1 v1 own1 b1)
      | (refine step_append_rd rfl (.tmp 9) (.tmp 14) 34 rfl w.heap.size 37 i0 _ 2 16 Try.underlying34 hi hz0 hz1 hz2 rfl (Nat.succ_pos 1) (.slice A1 n k1) n (crow (ks K n)) rfl A3.own (some ⟨v1.heap.size, 0, none⟩) 1 1 (crow [K n]) rfl O3 hone1 d1 d2 A3.bel.size ?_; intro A2 k2 w2 own2 g2; have B2 := A3.grow own2 g2)
      | (refine step_append_rd rfl (.tmp 9) (.tmp 14) 34 rfl w.heap.size 37 i0 _ 2 16 Try.underlying34 hi hz0 hz1 hz2 rfl (Nat.succ_pos 1) (.slice A1 n k1) n (crow (ks K n)) rfl A3.own (some ⟨w.heap.size, 0, none⟩) 1 1 (crow [K n]) rfl O3 hone1 d1 d2 A3.bel.size ?_; intro A2 k2 w2 own2 g2; have B2 := A3.grow own2 g2))
  all_goals
    rw [hm] at B2 ⊢
    go_wp2
    go_ret
    exact BkOut.of B2.own HK.out B2.bel
end Go.Proofs.Ythggaoobbkflaaa.H11
