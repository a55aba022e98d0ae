/-
  writer.number: a number's bytes behind those that are there.
-/
import Derived.Test.YtndcdidepdcmnaaKB7Mem
set_option linter.unusedSimpArgs false
set_option linter.unusedVariables false
namespace Go.Proofs.Ytndcdidepdcmnaa.B07
open Go.RowKit Go.Lib Go.Maps Go.Proofs.Ytndcdidepdcmnaa.Wd Go.Proofs.Ytndcdidepdcmnaa.V01 Go.Proofs.Ytndcdidepdcmnaa.V04 Go.Proofs.Ytndcdidepdcmnaa.P06
open Go.Proofs.Ytndcdidepdcmnaa.S05 (Fr Sub Tab)

/-- 'append(own, src...)', the source nil or not, with where the new row lies -/
theorem wp_append_at {P : Program} {o : Oper} {a : Act} {w : World} {K : Act → World → Prop} {Q : Exit → Act → World → Prop} (s x : Operand) (t : TypeId)
    (ho : o.op = .call { callee := .builtin .append, args := #[s, x], argTypes := #[t, t] })
    (base : Nat) (e : TypeId) (i : TypeInfo) (z : Value) (size bytes : Nat) (ht : P.underlying t = some (.slice e)) (hi : P.info? e = some i) (hz : i.zero = some z)
    (hsize : i.size = size) (hby : i.bytes = bytes) (hzs : z.cells.size = size) (hsz : 0 < size)
    (v : Value) (n : Nat) (xs : List Value) (hs : a.eval s = v) (hown : w.ownsRow base e size v n xs)
    (A : Option Addr) (m c : Nat) (news : List Value) (hx : a.eval x = .slice A m c) (hr : Rd size w A m c news) (h1 : ∀ u ∈ news, u.oneCell' = true)
    (h63 : n + m ≤ maxLen) (hbytes : (n + m) * bytes ≤ 140737488355328) (hbase : base ≤ w.heap.size)
    (h : ∀ A' c' w', w'.ownsRow base e size (.slice A' (n + m) c') (n + m) (xs ++ news) → w.grownBy w' v.ownBlock →
      ((Value.slice A' (n + m) c').ownBlock = v.ownBlock ∨ (Value.slice A' (n + m) c').ownBlock = some w.heap.size) → K (a.put o.dst (.slice A' (n + m) c')) w') :
    Oper.wp P o a w K Q := by
  cases hA : A with
  | none =>
    obtain ⟨rfl, rfl⟩ := hr.none_ hA
    have hn : news = [] := List.eq_nil_of_length_eq_zero (by have := hr.len; omega)
    subst hn
    subst hA
    obtain ⟨A1, c1, hv⟩ := own_form hown
    have hrun := run_append_owned_none (P := P) (w := w) base t o.type e i size ht hi v n xs hown
    have := h A1 c1 w (by rw [Nat.add_zero, List.append_nil, ← hv]; exact hown) (World.grownBy.refl w _) (.inl (by rw [Nat.add_zero, ← hv]))
    rw [Nat.add_zero, ← hv] at this
    unfold Oper.wp execOp
    simp only [ho, resolve, invoke, builtin, Sem.run_bind, Sem.run_pure, Result.andThen_ok, List.map_toArray, List.map_cons, List.map_nil, hs, hx, hrun]
    exact this
  | some ad =>
    obtain ⟨v', w', hrun, h2, h3, _, h5⟩ := run_append_own_at (P := P) w base t o.type e i z size bytes ht hi hz hsize hby hzs hsz v n xs hown ad m c news hr.len (hr.at_ ad hA) h1 h63 hbytes hbase
    obtain ⟨A1, c1, hv⟩ := own_form h2
    subst hv
    have := h A1 c1 w' h2 h3 h5
    unfold Oper.wp execOp
    simp only [ho, resolve, invoke, builtin, Sem.run_bind, Sem.run_pure, Result.andThen_ok, List.map_toArray, List.map_cons, List.map_nil, hs, hx, hA, hrun]
    exact this

set_option maxRecDepth 20000 in
set_option maxHeartbeats 1000000 in
theorem number_wrt (w : World) (g p : Nat) (T : List ByteArray) (o : List Nat) (A : Option Addr) (c : Nat) (b r : List UInt8) (n : Nat) (h : Wrt w g p T o A c b) (hn : (n : Int) ≤ 18446744073709551615) (hl : b.length ≤ 1000000000) (hr : b ++ vby n = r) :
    Calls Try.prog 20 #[.pointer (some ⟨g, 0, none⟩), (.int .u64 (n : Int))] w fun e w' => e = .returned (.tuple #[]) ∧ ∃ A' c', Wrt w' g p T o A' c' r ∧ Fr (owns g o A) w w' ∧ Sub w (owns g o A') (owns g o A) := by
  have mixed : Try.prog.follows .mixedOrders = true := by kernel_rfl
  obtain ⟨i0, hi, hz0, hz1, hz2⟩ := info_parts V01.byte_info
  obtain ⟨m, hm⟩ : ∃ m, b.length = m := ⟨_, rfl⟩
  have c1 : w.drew.cell? ⟨g, 1, none⟩ = some (.slice A m c) := by rw [← hm]; exact h.box.cell 1
  have hrow : w.drew.ownsRow 0 5 1 (.slice A m c) m (Lib.byteCells b) := by rw [← hm]; exact h.row
  have HN := Lib.hid hm
  have HR := Lib.hid hr
  rw [hm] at hl
  clear hm hr
  have hgl := h.box.lt
  go_enter Try.func20, Try.ntmps20
  go_wp2_with fail
  refine wp_zed (S := fun w' => w'.cell? ⟨g, 1, none⟩ = some (.slice A m c)) (z := 10) mixed ?_
  refine Zed.take (i := 0) (v := .pointer (some ⟨g, 0, none⟩)) rfl (by kernel_rfl) rfl (by kernel_rfl) (by kernel_rfl) (by kernel_rfl) (fun _ _ _ h => h) ?_ c1 ?_
  · refine .inl ⟨rfl, fun W hW => ?_⟩
    go_simp
  (try simp only [Act.put, List.setIfInBounds_toArray, List.set_cons_zero, List.set_cons_succ])
  refine Zed.take (i := 1) (v := .pointer (some ⟨g, 0, none⟩)) rfl (by kernel_rfl) rfl (by kernel_rfl) (by kernel_rfl) (by kernel_rfl) (fun _ _ _ h => h) ?_ c1 ?_
  · refine .inl ⟨rfl, fun W hW => ?_⟩
    go_simp
  (try simp only [Act.put, List.setIfInBounds_toArray, List.set_cons_zero, List.set_cons_succ])
  refine Zed.take (i := 2) (v := .pointer (some ⟨g, 0, none⟩)) rfl (by kernel_rfl) rfl (by kernel_rfl) (by kernel_rfl) (by kernel_rfl) (fun _ _ _ h => h) ?_ c1 ?_
  · refine .inl ⟨rfl, fun W hW => ?_⟩
    go_simp
  (try simp only [Act.put, List.setIfInBounds_toArray, List.set_cons_zero, List.set_cons_succ])
  refine Zed.take (i := 3) (v := .pointer (some ⟨g, 1, none⟩)) rfl (by kernel_rfl) rfl (by kernel_rfl) (by kernel_rfl) (by kernel_rfl) (fun _ _ _ h => h) ?_ c1 ?_
  · refine .inl ⟨rfl, fun W hW => ?_⟩
    go_simp
  (try simp only [Act.put, List.setIfInBounds_toArray, List.set_cons_zero, List.set_cons_succ])
  refine Zed.take (i := 4) (v := .slice A m c) rfl (by kernel_rfl) rfl (by kernel_rfl) (by kernel_rfl) (by kernel_rfl) (fun _ _ _ h => h) ?_ c1 ?_
  · refine .inl ⟨rfl, fun W hW => ?_⟩
    go_simp
  (try simp only [Act.put, List.setIfInBounds_toArray, List.set_cons_zero, List.set_cons_succ])
  refine Zed.take (i := 5) (v := (.int .u64 (n : Int))) rfl (by kernel_rfl) rfl (by kernel_rfl) (by kernel_rfl) (by kernel_rfl) (fun _ _ _ h => h) ?_ c1 ?_
  · refine .inl ⟨rfl, fun W hW => ?_⟩
    go_simp
  (try simp only [Act.put, List.setIfInBounds_toArray, List.set_cons_zero, List.set_cons_succ])
  refine Zed.step (i := 6) (by kernel_rfl) rfl rfl (fun K hK => ?_)
  go_simp
  refine (put_at none 0 0 (n : Int) [] (vby n) n _ (Bs.nil _) rfl rfl rfl (by decide) hn).mono ?_
  rintro e w2 ⟨A2, c2, rfl, hown2, hb2⟩
  have hb2' : Below w.heap.size w w2 := ⟨hb2.os, hb2.tape, hb2.output, hb2.size, hb2.block⟩
  have k2 : w2.cell? ⟨g, 1, none⟩ = some (.slice A m c) := (hb2.cell (p := ⟨g, 1, none⟩) hgl).trans c1
  refine hK _ _ ⟨.inr k2, ?_⟩
  clear hK K
  have hrow2 := own_below hrow hb2
  have hq2 := Bs.own hown2
  have hv := S05.vby_le n
  obtain ⟨q, hq⟩ : ∃ q, (vby n).length = q := ⟨_, rfl⟩
  unfold Bs at hq2
  rw [hq] at hq2 hv ⊢
  clear hown2
  (try simp only [Act.put, List.setIfInBounds_toArray, List.set_cons_zero, List.set_cons_succ])
  refine Zed.step (i := 7) (by kernel_rfl) rfl rfl (fun K hK => ?_)
  refine wp_append_at (.tmp 8) (.tmp 10) 25 rfl 0 5 i0 _ 1 1 Try.underlying25 hi hz0 hz1 hz2 rfl (Nat.succ_pos 0) (.slice A m c) m (Lib.byteCells b) rfl hrow2 A2 q c2 (Lib.byteCells (vby n)) rfl hq2 (bc_one _) (by unfold maxLen; omega) (by omega) (Nat.zero_le _) ?_
  intro A3 c3 w3 hown3 hg3 hat3
  have hgr : ∀ k, (Value.slice A m c).ownBlock = some k → k ≠ g := fun k hk => by
    cases A with
    | none => cases hk
    | some a =>
      injection hk with e
      subst e
      exact (h.ra a rfl).2
  have hB3 : Bk w3 g 62 #[.pointer (some ⟨p, 0, none⟩), .slice A m c] := by
    have h1 : Bk w2 g 62 #[.pointer (some ⟨p, 0, none⟩), .slice A m c] := by
      have := h.box.below (w' := w2) hb2'
      rw [HN.out] at this
      exact this
    unfold Bk at h1 ⊢
    rw [hg3.block g (Array.getElem?_eq_some_iff.1 h1).1 (fun e => hgr g e.symm rfl)]
    exact h1
  have k3 : w3.cell? ⟨g, 1, none⟩ = some (.slice A m c) := hB3.cell 1
  have f3 := hB3.frozen 1
  refine hK _ _ ⟨.inr k3, ?_⟩
  clear hK K
  (try simp only [Act.put, List.setIfInBounds_toArray, List.set_cons_zero, List.set_cons_succ])
  refine Zed.step (i := 8) (by kernel_rfl) rfl rfl (fun K hK => ?_)
  go_simp
  refine hK _ _ ⟨.inr k3, ?_⟩
  clear hK K
  (try simp only [Act.put, List.setIfInBounds_toArray, List.set_cons_zero, List.set_cons_succ])
  refine Zed.step (i := 9) (by kernel_rfl) rfl rfl (fun K hK => ?_)
  go_simp
  refine hK _ _ ⟨.inr k3, ?_⟩
  clear hK K
  (try simp only [Act.put, List.setIfInBounds_toArray, List.set_cons_zero, List.set_cons_succ])
  refine Zed.step (i := 10) (by kernel_rfl) rfl rfl (fun K hK => ?_)
  go_simp
  refine hK _ _ ⟨.inl rfl, Zed.done (by kernel_rfl) ?_ _⟩
  clear hK K
  (try simp only [Act.put, List.setIfInBounds_toArray, List.set_cons_zero, List.set_cons_succ])
  have hrl : r.length = m + q := by rw [← HR.out, List.length_append, HN.out, hq]
  have G := h.grow (w1 := w2) (w2 := w3) (A' := A3) (c' := c3) hb2' HR.out (by rw [hrl, ← HR.out, bc_app]; exact hown3) (by rw [HN.out]; exact hg3) (by rw [hrl, HN.out]; exact hat3)
  rw [hrl] at G
  clear hown3 hg3 hat3 hrow2 hb2 k2 k3 f3 hB3 hq2 hrow c1 h
  go_wp2
  refine bodyPost_end (results_none rfl _ _ _) rfl ?_
  exact ⟨rfl, A3, c3, G⟩
/-- the writer of the blocks O has become one with the texts T and the bytes b -/
def Out (w w' : World) (g : Nat) (T : List ByteArray) (b : List UInt8) (O : List Nat) : Prop := ∃ O', Wx w' g T b O' ∧ Fr O w w' ∧ Sub w O' O
theorem Out.trans {w w1 w2 : World} {g : Nat} {T1 T2 : List ByteArray} {b1 b2 : List UInt8} {O : List Nat} (h : Out w w1 g T1 b1 O) (k : ∀ O1, Wx w1 g T1 b1 O1 → Out w1 w2 g T2 b2 O1) : Out w w2 g T2 b2 O := by
  obtain ⟨O1, h1, f1, s1⟩ := h
  obtain ⟨O2, h2, f2, s2⟩ := k O1 h1
  exact ⟨O2, h2, f1.trans f2 s1, s1.trans s2 f1.size⟩
theorem number_any (w : World) (g : Nat) (T : List ByteArray) (b r : List UInt8) (O : List Nat) (N : Int) (n : Nat) (h : Wx w g T b O) (hN : N = (n : Int)) (hn : n ≤ 18446744073709551615) (hl : b.length ≤ 1000000000) (hr : b ++ vby n = r) :
    Calls Try.prog 20 #[.pointer (some ⟨g, 0, none⟩), .int .u64 N] w fun e w' => e = .returned (.tuple #[]) ∧ Out w w' g T r O := by
  obtain ⟨p, o, A, c, h, rfl⟩ := h
  subst hN
  refine (number_wrt w g p T o A c b r n h (by omega) hl hr).mono ?_
  rintro e w' ⟨rfl, A', c', h1, h2, h3⟩
  exact ⟨rfl, _, ⟨p, o, A', c', h1, rfl⟩, h2, h3⟩
end Go.Proofs.Ytndcdidepdcmnaa.B07
