/-
  Push of the items; container/heap's Push (written by gen12/push.py).
-/
import Derived.Test.YtdmibolbpgondaaGreatKU12Down
import Derived.Laws.MakeOwn
set_option linter.unusedSimpArgs false
set_option linter.unusedVariables false
namespace Go.Proofs.YtdmibolbpgondaaGreat.U12
open Go.RowKit Go.Lib Go.Maps Go.Proofs.YtdmibolbpgondaaGreat.Wd Go.Proofs.YtdmibolbpgondaaGreat.P06

/-- 'append(own, x)' in a region that draws its order, with where the new row lies -/
theorem wp_append_at {P : Program} {o : Oper} {a : Act} {w : World} {K : Act → World → Prop} {Q : Exit → Act → World → Prop} (s x : Operand) (t : TypeId)
    (ho : o.op = .call { callee := .builtin .append, args := #[s, x], argTypes := #[t, t] })
    (base : Nat) (e : TypeId) (i : TypeInfo) (z : Value) (size bytes : Nat) (ht : P.underlying t = some (.slice e)) (hi : P.info? e = some i) (hz : i.zero = some z)
    (hsize : i.size = size) (hby : i.bytes = bytes) (hzs : z.cells.size = size) (hsz : 0 < size)
    (v : Value) (n : Nat) (xs : List Value) (hs : a.eval s = v) (hown : w.ownsRow base e size v n xs)
    (ad : Addr) (m c : Nat) (news : List Value) (hx : a.eval x = .slice (some ad) m c) (hl : news.length = m * size) (hnews : ∀ j u, news[j]? = some u → w.cell? (ad.add j) = some u) (h1 : ∀ u ∈ news, u.oneCell' = true)
    (h63 : n + m ≤ maxLen) (hbytes : (n + m) * bytes ≤ 140737488355328) (hbase : base ≤ w.heap.size)
    (h : ∀ A' c' w', w'.ownsRow base e size (.slice A' (n + m) c') (n + m) (xs ++ news) → w.grownBy w' v.ownBlock → ((Value.slice A' (n + m) c').ownBlock = v.ownBlock ∨ (Value.slice A' (n + m) c').ownBlock = some w.heap.size) → K (a.put o.dst (.slice A' (n + m) c')) w') :
    Oper.wp P o a w K Q := by
  obtain ⟨v', w', hrun, h2, h3, _, h5⟩ := run_append_own_at (P := P) w base t o.type e i z size bytes ht hi hz hsize hby hzs hsz v n xs hown ad m c news hl hnews h1 h63 hbytes hbase
  obtain ⟨A1, c1, hv⟩ := own_form h2
  subst hv
  unfold Oper.wp execOp
  simp only [ho, resolve, invoke, builtin, Sem.run_bind, Sem.run_pure, Result.andThen_ok, List.map_toArray, List.map_cons, List.map_nil, hs, hx, hrun]
  exact h A1 c1 w' h2 h3 h5
theorem info_of {e : TypeId} {s : Nat} {z : Value} {bt : Nat} (h : (Tryz.prog.info? e).map (fun i => (i.zero, i.size, i.bytes)) = some (some z, s, bt)) : ∃ i0, Tryz.prog.info? e = some i0 ∧ i0.zero = some z ∧ i0.size = s ∧ i0.bytes = bt := by
  cases hi : Tryz.prog.info? e with
  | none => rw [hi] at h; cases h
  | some i0 =>
    rw [hi] at h
    simp only [Option.map_some, Option.some.injEq, Prod.mk.injEq] at h
    exact ⟨i0, rfl, h.1, h.2.1, h.2.2⟩
theorem item_info : (Tryz.prog.info? 132).map (fun i => (i.zero, i.size, i.bytes)) = some (some (.agg #[.int .u64 0, .int .u64 0]), 2, 16) := by kernel_rfl

section
variable {w0 w w' : World} {p c b N M : Nat} {A : Option Addr} {K0 K : Nat → It} {D : DataW Unit}
theorem asItem (v : Value) (w : World) : (Instr.typeAssert (.iface 132 v) 20 132 false).run Tryz.prog w = .ok v w := by kernel_rfl
/-- behind 'l.list = append(l.list, last)' -/
theorem Im.pushed {w2 : World} {x : It} {A' : Option Addr} {c' : Nat} (h : Im w p A c b N K D) (hx : (x.1 : Int) ≤ 18446744073709551615 ∧ (x.2 : Int) ≤ 18446744073709551615) (hN : N + 1 ≤ 1000)
    (hrow : w2.ownsRow 0 132 2 (.slice A' (N + 1) c') (N + 1) (irow (U12.row K N) ++ ic x)) (hg : w.grownBy w2 (Value.slice A N c).ownBlock)
    (hat : (Value.slice A' (N + 1) c').ownBlock = (Value.slice A N c).ownBlock ∨ (Value.slice A' (N + 1) c').ownBlock = some w.heap.size) :
    w2.cell? ⟨p, 0, none⟩ = some (.slice A N c) ∧ w2.frozen? ⟨p, 0, none⟩ = false ∧
    Im (w2.setCell ⟨p, 0, none⟩ (.slice A' (N + 1) c')) p A' c' b (N + 1) (up1 K N x) D ∧ Fr (own p A b) w (w2.setCell ⟨p, 0, none⟩ (.slice A' (N + 1) c')) ∧ Sub w (own p A' b) (own p A b) := by
  have hlt := h.lt
  have hp := hlt p (mem_own.2 (.inl rfl))
  have hb := hlt b (mem_own.2 (.inr (.inl rfl)))
  have hrn : ∀ k, (Value.slice A N c).ownBlock = some k → k ∈ own p A b ∧ k ≠ p ∧ k ≠ b ∧ k < w.heap.size := fun k hk => by
    cases A with
    | none => cases hk
    | some a =>
      injection hk with hk
      subst hk
      exact ⟨mem_own.2 (.inr (.inr ⟨a, rfl, rfl⟩)), (h.ap a rfl).1, (h.ap a rfl).2, hlt _ (mem_own.2 (.inr (.inr ⟨a, rfl, rfl⟩)))⟩
  have ha' : ∀ a, A' = some a → a.block ≠ p ∧ a.block ≠ b ∧ (a.block ∈ own p A b ∨ w.heap.size ≤ a.block) := fun a e => by
    subst e
    rcases hat with h1 | h1
    · obtain ⟨h2, h3, h4, _⟩ := hrn a.block h1.symm
      exact ⟨h3, h4, .inl h2⟩
    · injection h1 with h1
      have h1 : a.block = w.heap.size := h1
      exact ⟨by omega, by omega, .inr (by omega)⟩
  have kp : w2.heap[p]? = w.heap[p]? := hg.block p hp (fun e => (hrn p e.symm).2.1 rfl)
  have kb : w2.heap[b]? = w.heap[b]? := hg.block b hb (fun e => (hrn b e.symm).2.2.1 rfl)
  have q0 := (World.cell?_of_block (a := ⟨p, 0, none⟩) kp).trans h.c0
  have q1 := (World.cell?_of_block (a := ⟨p, 1, none⟩) kp).trans h.c1
  have qf := (World.frozen?_of_block (a := ⟨p, 0, none⟩) kp).trans h.f0
  refine ⟨q0, qf, ⟨World.cell?_setCell_same _ _ _ q0, Eq.trans (World.cell?_setCell_other _ _ _ _ (fun e => by cases e)) q1, by rw [World.frozen?_setCell]; exact qf, ?_, ?_, fun a ha => ⟨(ha' a ha).1, (ha' a ha).2.1⟩, h.pb, hN, fun k hk => ?_⟩, ?_, fun y hy => ?_⟩
  · rw [row_up1, irow_app]
    refine row_kept (w := w2) (xs := irow (U12.row K N) ++ irow [x]) hrow fun k hk => ?_
    cases A' with
    | none => cases hk
    | some a =>
      injection hk with hk
      subst hk
      exact heap_setCell_other _ _ _ _ (ha' a rfl).1
  · exact map_kept h.map ((heap_setCell_other _ _ _ _ (Ne.symm h.pb)).trans kb)
  · by_cases e : k = N
    · subst e
      rw [up1_same]; exact hx
    · rw [up1_other K x e]
      exact h.num k (by omega)
  · exact (Fr.of_grown hg fun k hk => (hrn k hk).1).then (Fr.setCell _ _ _ (mem_own.2 (.inl rfl)))
  · rcases mem_own.1 hy with rfl | rfl | ⟨a, ha, rfl⟩
    · exact .inl (mem_own.2 (.inl rfl))
    · exact .inl (mem_own.2 (.inr (.inl rfl)))
    · exact (ha' a ha).2.2
/-- what Push leaves -/
def PsOut (w : World) (p : Nat) (A : Option Addr) (b N : Nat) (K : Nat → It) (e : Ending) (w' : World) : Prop :=
  e = .returned (.tuple #[]) ∧ ∃ A' c' D', Im w' p A' c' b N K D' ∧ Pl D' K N ∧ Fr (own p A b) w w' ∧ Sub w (own p A' b) (own p A b)
theorem cell_bx (w : World) (x : It) : (w.alloc (bx x)).cell? ⟨w.heap.size, 0, none⟩ = some (.int .u64 (x.1 : Int)) ∧ (w.alloc (bx x)).cell? ⟨w.heap.size, 1, none⟩ = some (.int .u64 (x.2 : Int)) := by
  unfold bx
  exact ⟨by go_cell, by go_cell⟩
set_option maxRecDepth 20000 in
set_option maxHeartbeats 2000000 in
theorem ipush_at (x : It) (h : Im w p A c b N K D) (hP : Pl D K N) (hx : (x.1 : Int) ≤ 18446744073709551615 ∧ (x.2 : Int) ≤ 18446744073709551615) (hf : ∀ i, i < N → (K i).1 ≠ x.1) (hN : N + 1 ≤ 1000) :
    Calls Tryz.prog 168 #[.pointer (some ⟨p, 0, none⟩), .iface 132 (.agg #[.int .u64 (x.1 : Int), .int .u64 (x.2 : Int)])] w (PsOut w p A b (N + 1) (up1 K N x)) := by
  obtain ⟨i0, hi, hz0, hz1, hz2⟩ := info_of item_info
  have has := fun v W => asItem v W
  have hsz := hP.size
  have HP := Lib.hid (hP.push x hf)
  have b1 : Below w.heap.size w (w.alloc (bx x)) := (Below.refl _ _).alloc (Nat.le_refl _) _
  have h1 := h.below b1
  obtain ⟨x0, x1⟩ := cell_bx w x
  have hlb : w.heap.size < (w.alloc (bx x)).heap.size := by simp
  have hnew : ∀ k ∈ own p A b, k ≠ w.heap.size := fun k hk => by have := h.lt k hk; omega
  clear h hP hf
  go_enter Tryz.func168, Tryz.ntmps168
  go_wp2_with fail
  obtain ⟨V, hV⟩ : ∃ V, w.alloc (bx x) = V := ⟨_, rfl⟩
  have hV' : w.alloc (.cells #[.int .u64 (x.1 : Int), .int .u64 (x.2 : Int)] 132) = V := hV
  rw [hV'] at *
  rw [hV] at h1 x0 x1 b1 hlb
  clear hV hV'
  have c0 := h1.c0
  have c1 := h1.c1
  have h2 := h1.below (drew_below V)
  obtain ⟨V3, hrun, h3, F3, hs3⟩ := h2.tell (x := x.1) (i := N) hx.1 (by omega) (by omega)
  have kq : V3.heap[w.heap.size]? = V.heap[w.heap.size]? := F3.block w.heap.size hlb (fun hm => hnew _ hm rfl)
  have F1 : Fr (own p A b) w V3 := (Fr.of_below _ (b1.drew)).then F3
  go_region
  have y0 := (World.cell?_of_block (a := ⟨w.heap.size, 0, none⟩) kq).trans x0
  have y1 := (World.cell?_of_block (a := ⟨w.heap.size, 1, none⟩) kq).trans x1
  clear c0 c1 x0 x1 hrun h1 h2 F3 hs3 kq hlb b1 has hsz V
  have c0 := h3.c0
  obtain ⟨lx, hlx⟩ : ∃ lx : Obj, Obj.cells #[.int .u64 (x.1 : Int), .int .u64 (x.2 : Int)] 132 = lx := ⟨_, rfl⟩
  have bU : Below V3.heap.size V3 (V3.alloc lx).drew := ((Below.refl _ _).alloc (Nat.le_refl _) lx).drew
  have h4 := h3.below bU
  have F4 : Fr (own p A b) w (V3.alloc lx).drew := F1.then (Fr.of_below _ bU)
  have hlit : ∀ j u, (ic x)[j]? = some u → (V3.alloc lx).drew.cell? ((⟨V3.heap.size, 0, none⟩ : Addr).add j) = some u := fun j u hu => by
    subst hlx
    unfold ic at hu
    rcases j with _ | _ | j
    · simp only [List.getElem?_cons_zero, Option.some.injEq] at hu
      subst hu
      simp [Addr.add]
    · simp only [List.getElem?_cons_succ, List.getElem?_cons_zero, Option.some.injEq] at hu
      subst hu
      simp [Addr.add]
    · simp at hu
  have hrow := h4.row
  have H4 := Lib.hid h4
  have HX := Lib.hid hx
  have G4 := Lib.hid F4
  have hbl := World.block_lt_of_cell? _ _ y0
  have SU : (V3.alloc lx).drew.cell? ⟨p, 0, none⟩ = some (.slice A N c) ∧ (V3.alloc lx).drew.cell? ⟨w.heap.size, 0, none⟩ = some (.int .u64 (x.1 : Int)) ∧ (V3.alloc lx).drew.cell? ⟨w.heap.size, 1, none⟩ = some (.int .u64 (x.2 : Int)) :=
    ⟨h4.c0, (bU.cell (p := ⟨w.heap.size, 0, none⟩) hbl).trans y0, (bU.cell (p := ⟨w.heap.size, 1, none⟩) hbl).trans y1⟩
  have hbu : w.heap.size < (V3.alloc lx).drew.heap.size := Nat.lt_of_lt_of_le hbl bU.size
  have HU := Lib.hid SU
  have HB := Lib.hid hbu
  have HNW := Lib.hid hnew
  clear h3 h4 F1 F4 hx SU hbu hbl bU hnew
  go_wp2_with fail
  have TW : V3.drew.cell? ⟨p, 0, none⟩ = some (.slice A N c) ∧ V3.drew.cell? ⟨w.heap.size, 0, none⟩ = some (.int .u64 (x.1 : Int)) ∧ V3.drew.cell? ⟨w.heap.size, 1, none⟩ = some (.int .u64 (x.2 : Int)) := ⟨c0, y0, y1⟩
  refine wp_zed (S := fun w' => w'.cell? ⟨p, 0, none⟩ = some (.slice A N c) ∧ w'.cell? ⟨w.heap.size, 0, none⟩ = some (.int .u64 (x.1 : Int)) ∧ w'.cell? ⟨w.heap.size, 1, none⟩ = some (.int .u64 (x.2 : Int))) (z := 10) (by kernel_rfl) ?_
  refine Zed.take (i := 0) (v := .pointer (some ⟨p, 0, none⟩)) rfl (by kernel_rfl) rfl (by kernel_rfl) (by kernel_rfl) (by kernel_rfl) (fun _ _ _ h => h) ?_ TW ?_
  · refine .inl ⟨rfl, fun W hW => ?_⟩
    obtain ⟨q1, q2, q3⟩ := hW
    go_simp
  (try simp only [Act.put, List.setIfInBounds_toArray, List.set_cons_zero, List.set_cons_succ])
  refine Zed.take (i := 1) (v := .pointer (some ⟨p, 0, none⟩)) rfl (by kernel_rfl) rfl (by kernel_rfl) (by kernel_rfl) (by kernel_rfl) (fun _ _ _ h => h) ?_ TW ?_
  · refine .inl ⟨rfl, fun W hW => ?_⟩
    obtain ⟨q1, q2, q3⟩ := hW
    go_simp
  (try simp only [Act.put, List.setIfInBounds_toArray, List.set_cons_zero, List.set_cons_succ])
  refine Zed.take (i := 2) (v := .pointer (some ⟨p, 0, none⟩)) rfl (by kernel_rfl) rfl (by kernel_rfl) (by kernel_rfl) (by kernel_rfl) (fun _ _ _ h => h) ?_ TW ?_
  · refine .inl ⟨rfl, fun W hW => ?_⟩
    obtain ⟨q1, q2, q3⟩ := hW
    go_simp
  (try simp only [Act.put, List.setIfInBounds_toArray, List.set_cons_zero, List.set_cons_succ])
  refine Zed.take (i := 3) (v := .pointer (some ⟨p, 0, none⟩)) rfl (by kernel_rfl) rfl (by kernel_rfl) (by kernel_rfl) (by kernel_rfl) (fun _ _ _ h => h) ?_ TW ?_
  · refine .inl ⟨rfl, fun W hW => ?_⟩
    obtain ⟨q1, q2, q3⟩ := hW
    go_simp
  (try simp only [Act.put, List.setIfInBounds_toArray, List.set_cons_zero, List.set_cons_succ])
  refine Zed.take (i := 4) (v := .slice A N c) rfl (by kernel_rfl) rfl (by kernel_rfl) (by kernel_rfl) (by kernel_rfl) (fun _ _ _ h => h) ?_ TW ?_
  · refine .inl ⟨rfl, fun W hW => ?_⟩
    obtain ⟨q1, q2, q3⟩ := hW
    go_simp
  (try simp only [Act.put, List.setIfInBounds_toArray, List.set_cons_zero, List.set_cons_succ])
  refine Zed.take (i := 5) (v := .agg #[.int .u64 (x.1 : Int), .int .u64 (x.2 : Int)]) rfl (by kernel_rfl) rfl (by kernel_rfl) (by kernel_rfl) (by kernel_rfl) (fun _ _ _ h => h) ?_ TW ?_
  · refine .inl ⟨rfl, fun W hW => ?_⟩
    obtain ⟨q1, q2, q3⟩ := hW
    go_simp
  (try simp only [Act.put, List.setIfInBounds_toArray, List.set_cons_zero, List.set_cons_succ])
  refine Zed.step (i := 6) (by kernel_rfl) rfl rfl (fun K' hK => ?_)
  go_simp
  refine hK _ _ ⟨.inr HU.out, ?_⟩
  clear hK K'
  (try simp only [Act.put, List.setIfInBounds_toArray, List.set_cons_zero, List.set_cons_succ])
  refine Zed.step (i := 7) (by kernel_rfl) rfl rfl (fun K' hK => ?_)
  refine wp_append_at (.tmp 22) (.tmp 24) 126 rfl 0 132 i0 _ 2 16 Tryz.underlying126 hi hz0 hz1 hz2 rfl (by decide) (.slice A N c) N _ rfl hrow ⟨V3.heap.size, 0, none⟩ 1 1 (ic x) rfl rfl hlit ?_ ?_ ?_ (Nat.zero_le _) ?_
  · intro u hu
    unfold ic at hu
    simp only [List.mem_cons, List.not_mem_nil, or_false] at hu
    rcases hu with rfl | rfl <;> rfl
  · unfold maxLen; omega
  · omega
  intro A' c' w2 hrow2 hg hat
  obtain ⟨q0, qf, hI, hF, hS⟩ := H4.out.pushed HX.out hN hrow2 hg hat
  have hS2 : w2.cell? ⟨p, 0, none⟩ = some (.slice A N c) ∧ w2.cell? ⟨w.heap.size, 0, none⟩ = some (.int .u64 (x.1 : Int)) ∧ w2.cell? ⟨w.heap.size, 1, none⟩ = some (.int .u64 (x.2 : Int)) := by
    have kq : w2.heap[w.heap.size]? = (V3.alloc lx).drew.heap[w.heap.size]? := hg.block _ HB.out (fun e => by
      cases A with
      | none => cases e
      | some a =>
        injection e with e
        exact HNW.out a.block (mem_own.2 (.inr (.inr ⟨a, rfl, rfl⟩))) e.symm)
    exact ⟨q0, (World.cell?_of_block (a := ⟨w.heap.size, 0, none⟩) kq).trans HU.out.2.1, (World.cell?_of_block (a := ⟨w.heap.size, 1, none⟩) kq).trans HU.out.2.2⟩
  refine hK _ _ ⟨.inr hS2, ?_⟩
  clear hK K' hrow2 hg hat hrow hlit
  have HI := Lib.hid hI
  have HF := Lib.hid hF
  have HSb := Lib.hid hS
  have HS2 := Lib.hid hS2
  clear hI hF hS hS2 TW c0 y0 y1
  (try simp only [Act.put, List.setIfInBounds_toArray, List.set_cons_zero, List.set_cons_succ])
  refine Zed.step (i := 8) (by kernel_rfl) rfl rfl (fun K' hK => ?_)
  go_simp
  refine hK _ _ ⟨.inr HS2.out, ?_⟩
  clear hK K'
  (try simp only [Act.put, List.setIfInBounds_toArray, List.set_cons_zero, List.set_cons_succ])
  refine Zed.step (i := 9) (by kernel_rfl) rfl rfl (fun K' hK => ?_)
  go_simp
  refine hK _ _ ⟨.inr HS2.out, ?_⟩
  clear hK K'
  (try simp only [Act.put, List.setIfInBounds_toArray, List.set_cons_zero, List.set_cons_succ])
  refine Zed.step (i := 10) (by kernel_rfl) rfl rfl (fun K' hK => ?_)
  go_simp
  refine hK _ _ ⟨.inl rfl, Zed.done (by kernel_rfl) ?_ _⟩
  clear hK K' q0 qf
  (try simp only [Act.put, List.setIfInBounds_toArray, List.set_cons_zero, List.set_cons_succ])
  go_wp2
  go_returns
  exact ⟨rfl, A', c', _, HI.out, HP.out, G4.out.then HF.out, (Sub.refl w _).trans HSb.out G4.out.size⟩
end
end Go.Proofs.YtdmibolbpgondaaGreat.U12
