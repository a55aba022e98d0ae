/-
  The document's order of spans: its nine fields, a piece a field, over a frame that is a letter.
-/
import Derived.Test.YtdmibolbpgondaaGreatKP06Cmp
import Derived.Great.Frames
import Derived.StillTailTactics
set_option linter.unusedSimpArgs false
set_option linter.unusedVariables false
namespace Go.Proofs.YtdmibolbpgondaaGreat.P06
open Go.Shelf Go.RowKit Go.Lib Go.Sort Go.Proofs.YtdmibolbpgondaaGreat.Wd Go.Proofs.YtdmibolbpgondaaGreat.V04

theorem st_op {P : Program} {ops : Array Oper} {w : World} {Q : Act → Prop} {o : Oper} {rest : List Oper} {a : Act} {v : Value} (hg : o.guard = none) (hrun : (execOp a.eval o).run P w = .ok (.value v) w)
    (h : wpStill P ops w Q rest (a.put o.dst v)) : wpStill P ops w Q (o :: rest) a := by
  refine wpStill_step (fun K hK => ?_)
  rw [if_pos (by simp [Region.wanted, hg])]
  unfold Oper.still
  rw [hrun]
  exact ⟨rfl, hK _ h⟩
theorem st_call {P : Program} {ops : Array Oper} {w : World} {Q : Act → Prop} {o : Oper} {rest : List Oper} {a : Act} {v : Value} {f : FuncId} {args : Array Value} (hg : o.guard = none) (hrun : (execOp a.eval o).run P w = .ok (.enter f args) w)
    (hc : Calls P f args w fun e w' => e = .returned v ∧ w' = w) (h : wpStill P ops w Q rest (a.put o.dst v)) : wpStill P ops w Q (o :: rest) a := by
  refine wpStill_step (fun K hK => ?_)
  rw [if_pos (by simp [Region.wanted, hg])]
  unfold Oper.still
  rw [hrun]
  exact ⟨rfl, _, hc, hK _ h⟩
def ordB (a b : Bool) : Int := if a then -1 else if b then 0 else 1
theorem order_any (a b : Bool) (w : World) : Calls Tryz.prog 56 #[.bool a, .bool b] w fun e w' => e = .returned (.int .i64 (ordB a b)) ∧ w' = w := by
  cases a <;> cases b <;> (go_enter Tryz.func56, Tryz.ntmps56; go_wp2; go_ret; exact ⟨rfl, rfl⟩)
theorem ord_int (x y : Int) : ordB (decide (x < y)) (x == y) = compareInt x y := by
  unfold ordB compareInt
  by_cases h1 : x < y
  · simp [h1]
  · by_cases h2 : x = y
    · subst h2; simp
    · have : y < x := by omega
      simp [h1, h2, this]
theorem ord_bytes (S T : ByteArray) : ordB (Op.bytesLess S.toList T.toList) (S.toList == T.toList) = compareBytes S.data.toList T.data.toList := by
  unfold ordB
  rw [less_cb]
  have h := cb_vals S.data.toList T.data.toList
  have h2 := same_cb S T
  by_cases h1 : compareBytes S.data.toList T.data.toList = -1
  · simp [h1]
  · by_cases h3 : compareBytes S.data.toList T.data.toList = 0
    · have : S.toList = T.toList := h2.2 h3
      simp [h3, this]
    · have : ¬ S.toList = T.toList := fun e => h3 (h2.1 e)
      have h4 : (S.toList == T.toList) = false := beq_false_of_ne this
      rw [h4]
      simp [h1]
      omega
theorem ordi_any (x y : Int) (w : World) : Calls Tryz.prog 56 #[.bool (decide (x < y)), .bool (x == y)] w fun e w' => e = .returned (.int .i64 (compareInt x y)) ∧ w' = w := ord_int x y ▸ order_any _ _ w
theorem ords_any (S T : ByteArray) (w : World) : Calls Tryz.prog 56 #[.bool (Op.bytesLess S.toList T.toList), .bool (S.toList == T.toList)] w fun e w' => e = .returned (.int .i64 (compareBytes S.data.toList T.data.toList)) ∧ w' = w := ord_bytes S T ▸ order_any _ _ w
theorem fa_0 (ev : Operand → Value) (Y : World) (i G : Nat) (dst : Option Tmp) (t : TypeId) (p : String) (f : Array Edge) (h : ev (.tmp i) = .pointer (some ⟨G, 0, none⟩)) : (execOp ev { dst := dst, op := .fieldAddr 34 (.tmp i) 0, type := t, pos := p, after := f, guard := none }).run Tryz.prog Y = .ok (.value (.pointer (some ⟨G, 0, none⟩))) Y := by simp [execOp, go_sem, h]
theorem fa_1 (ev : Operand → Value) (Y : World) (i G : Nat) (dst : Option Tmp) (t : TypeId) (p : String) (f : Array Edge) (h : ev (.tmp i) = .pointer (some ⟨G, 0, none⟩)) : (execOp ev { dst := dst, op := .fieldAddr 34 (.tmp i) 1, type := t, pos := p, after := f, guard := none }).run Tryz.prog Y = .ok (.value (.pointer (some ⟨G, 1, none⟩))) Y := by simp [execOp, go_sem, h]
theorem fa_2 (ev : Operand → Value) (Y : World) (i G : Nat) (dst : Option Tmp) (t : TypeId) (p : String) (f : Array Edge) (h : ev (.tmp i) = .pointer (some ⟨G, 0, none⟩)) : (execOp ev { dst := dst, op := .fieldAddr 34 (.tmp i) 2, type := t, pos := p, after := f, guard := none }).run Tryz.prog Y = .ok (.value (.pointer (some ⟨G, 2, none⟩))) Y := by simp [execOp, go_sem, h]
theorem fa_3 (ev : Operand → Value) (Y : World) (i G : Nat) (dst : Option Tmp) (t : TypeId) (p : String) (f : Array Edge) (h : ev (.tmp i) = .pointer (some ⟨G, 0, none⟩)) : (execOp ev { dst := dst, op := .fieldAddr 34 (.tmp i) 3, type := t, pos := p, after := f, guard := none }).run Tryz.prog Y = .ok (.value (.pointer (some ⟨G, 3, none⟩))) Y := by simp [execOp, go_sem, h]
theorem fa_4 (ev : Operand → Value) (Y : World) (i G : Nat) (dst : Option Tmp) (t : TypeId) (p : String) (f : Array Edge) (h : ev (.tmp i) = .pointer (some ⟨G, 0, none⟩)) : (execOp ev { dst := dst, op := .fieldAddr 34 (.tmp i) 4, type := t, pos := p, after := f, guard := none }).run Tryz.prog Y = .ok (.value (.pointer (some ⟨G, 4, none⟩))) Y := by simp [execOp, go_sem, h]
theorem fa_5 (ev : Operand → Value) (Y : World) (i G : Nat) (dst : Option Tmp) (t : TypeId) (p : String) (f : Array Edge) (h : ev (.tmp i) = .pointer (some ⟨G, 0, none⟩)) : (execOp ev { dst := dst, op := .fieldAddr 34 (.tmp i) 5, type := t, pos := p, after := f, guard := none }).run Tryz.prog Y = .ok (.value (.pointer (some ⟨G, 5, none⟩))) Y := by simp [execOp, go_sem, h]
theorem fa_6 (ev : Operand → Value) (Y : World) (i G : Nat) (dst : Option Tmp) (t : TypeId) (p : String) (f : Array Edge) (h : ev (.tmp i) = .pointer (some ⟨G, 0, none⟩)) : (execOp ev { dst := dst, op := .fieldAddr 34 (.tmp i) 6, type := t, pos := p, after := f, guard := none }).run Tryz.prog Y = .ok (.value (.pointer (some ⟨G, 6, none⟩))) Y := by simp [execOp, go_sem, h]
theorem fa_7 (ev : Operand → Value) (Y : World) (i G : Nat) (dst : Option Tmp) (t : TypeId) (p : String) (f : Array Edge) (h : ev (.tmp i) = .pointer (some ⟨G, 0, none⟩)) : (execOp ev { dst := dst, op := .fieldAddr 34 (.tmp i) 7, type := t, pos := p, after := f, guard := none }).run Tryz.prog Y = .ok (.value (.pointer (some ⟨G, 7, none⟩))) Y := by simp [execOp, go_sem, h]
theorem fa_8 (ev : Operand → Value) (Y : World) (i G : Nat) (dst : Option Tmp) (t : TypeId) (p : String) (f : Array Edge) (h : ev (.tmp i) = .pointer (some ⟨G, 0, none⟩)) : (execOp ev { dst := dst, op := .fieldAddr 34 (.tmp i) 8, type := t, pos := p, after := f, guard := none }).run Tryz.prog Y = .ok (.value (.pointer (some ⟨G, 8, none⟩))) Y := by simp [execOp, go_sem, h]
theorem ld_u (ev : Operand → Value) (Y : World) (i : Nat) (a : Addr) (v : Value) (dst : Option Tmp) (t : TypeId) (p : String) (f : Array Edge) (h : ev (.tmp i) = .pointer (some a)) (hv : Y.cell? a = some v) : (execOp ev { dst := dst, op := .load 22 (.tmp i), type := t, pos := p, after := f, guard := none }).run Tryz.prog Y = .ok (.value v) Y := by simp [execOp, go_sem, h, hv]
theorem lt_u (ev : Operand → Value) (Y : World) (i j : Nat) (x y : Int) (dst : Option Tmp) (t : TypeId) (p : String) (f : Array Edge) (h : ev (.tmp i) = .int .u64 x) (h2 : ev (.tmp j) = .int .u64 y) : (execOp ev { dst := dst, op := .binOp .lss 22 (.tmp i) (.tmp j) 22, type := t, pos := p, after := f, guard := none }).run Tryz.prog Y = .ok (.value (.bool (decide (x < y)))) Y := by simp [execOp, go_sem, h, h2]
theorem eq_u (ev : Operand → Value) (Y : World) (i j : Nat) (x y : Int) (dst : Option Tmp) (t : TypeId) (p : String) (f : Array Edge) (h : ev (.tmp i) = .int .u64 x) (h2 : ev (.tmp j) = .int .u64 y) : (execOp ev { dst := dst, op := .binOp .eql 22 (.tmp i) (.tmp j) 22, type := t, pos := p, after := f, guard := none }).run Tryz.prog Y = .ok (.value (.bool (x == y))) Y := by simp [execOp, go_sem, h, h2]
theorem ld_s (ev : Operand → Value) (Y : World) (i : Nat) (a : Addr) (v : Value) (dst : Option Tmp) (t : TypeId) (p : String) (f : Array Edge) (h : ev (.tmp i) = .pointer (some a)) (hv : Y.cell? a = some v) : (execOp ev { dst := dst, op := .load 9 (.tmp i), type := t, pos := p, after := f, guard := none }).run Tryz.prog Y = .ok (.value v) Y := by simp [execOp, go_sem, h, hv]
theorem lt_s (ev : Operand → Value) (Y : World) (i j : Nat) (x y : ByteArray) (dst : Option Tmp) (t : TypeId) (p : String) (f : Array Edge) (h : ev (.tmp i) = .string x) (h2 : ev (.tmp j) = .string y) : (execOp ev { dst := dst, op := .binOp .lss 9 (.tmp i) (.tmp j) 9, type := t, pos := p, after := f, guard := none }).run Tryz.prog Y = .ok (.value (.bool (Op.bytesLess x.toList y.toList))) Y := by simp [execOp, go_sem, h, h2]
theorem eq_s (ev : Operand → Value) (Y : World) (i j : Nat) (x y : ByteArray) (dst : Option Tmp) (t : TypeId) (p : String) (f : Array Edge) (h : ev (.tmp i) = .string x) (h2 : ev (.tmp j) = .string y) : (execOp ev { dst := dst, op := .binOp .eql 9 (.tmp i) (.tmp j) 9, type := t, pos := p, after := f, guard := none }).run Tryz.prog Y = .ok (.value (.bool (x.toList == y.toList))) Y := by simp [execOp, go_sem, h, h2]
theorem ld_i (ev : Operand → Value) (Y : World) (i : Nat) (a : Addr) (v : Value) (dst : Option Tmp) (t : TypeId) (p : String) (f : Array Edge) (h : ev (.tmp i) = .pointer (some a)) (hv : Y.cell? a = some v) : (execOp ev { dst := dst, op := .load 3 (.tmp i), type := t, pos := p, after := f, guard := none }).run Tryz.prog Y = .ok (.value v) Y := by simp [execOp, go_sem, h, hv]
theorem lt_i (ev : Operand → Value) (Y : World) (i j : Nat) (x y : Int) (dst : Option Tmp) (t : TypeId) (p : String) (f : Array Edge) (h : ev (.tmp i) = .int .i64 x) (h2 : ev (.tmp j) = .int .i64 y) : (execOp ev { dst := dst, op := .binOp .lss 3 (.tmp i) (.tmp j) 3, type := t, pos := p, after := f, guard := none }).run Tryz.prog Y = .ok (.value (.bool (decide (x < y)))) Y := by simp [execOp, go_sem, h, h2]
theorem eq_i (ev : Operand → Value) (Y : World) (i j : Nat) (x y : Int) (dst : Option Tmp) (t : TypeId) (p : String) (f : Array Edge) (h : ev (.tmp i) = .int .i64 x) (h2 : ev (.tmp j) = .int .i64 y) : (execOp ev { dst := dst, op := .binOp .eql 3 (.tmp i) (.tmp j) 3, type := t, pos := p, after := f, guard := none }).run Tryz.prog Y = .ok (.value (.bool (x == y))) Y := by simp [execOp, go_sem, h, h2]
theorem ca_o (ev : Operand → Value) (Y : World) (i j : Nat) (u v : Value) (dst : Option Tmp) (t : TypeId) (p : String) (f : Array Edge) (h : ev (.tmp i) = u) (h2 : ev (.tmp j) = v) (h3 : ev (.func 56) = .func (.func 56) #[] #[]) : (execOp ev { dst := dst, op := .call { callee := .value (.func 56), args := #[.tmp i, .tmp j], argTypes := #[4, 4] }, type := t, pos := p, after := f, guard := none }).run Tryz.prog Y = .ok (.enter 56 #[u, v]) Y := by
  have he : ∀ args w, (callFunc 56 args).run Tryz.prog w = .ok (.enter 56 args) w := enters_of Tryz.func56 (by kernel_rfl) rfl
  simp [execOp, go_sem, h, h2, h3, he]
theorem st_op' {P : Program} {ops : Array Oper} {w : World} {Q : Act → Prop} {o : Oper} {rest : List Oper} {a : Act} {v : Value} {d N : Nat} (hg : o.guard = none) (hd : o.dst = some d) (hsz : a.tmps.size = N) (hdN : d < N) (hrun : (execOp a.eval o).run P w = .ok (.value v) w)
    (h : ∀ a' : Act, a'.tmps.size = N → a'.defers = a.defers → a'.eval (.tmp d) = v → (∀ j : Nat, j ≠ d → a'.eval (.tmp j) = a.eval (.tmp j)) → wpStill P ops w Q rest a') : wpStill P ops w Q (o :: rest) a := by
  refine st_op hg hrun ?_
  rw [hd]
  exact h _ (by rw [Act.size_put, hsz]) (by rw [Act.defers_put']) (Act.eval_put_same _ _ _ (by rw [hsz]; exact hdN)) (fun j hj => Act.eval_put_ne _ _ _ _ (Ne.symm hj))
theorem st_call' {P : Program} {ops : Array Oper} {w : World} {Q : Act → Prop} {o : Oper} {rest : List Oper} {a : Act} {v : Value} {f : FuncId} {args : Array Value} {d N : Nat} (hg : o.guard = none) (hd : o.dst = some d) (hsz : a.tmps.size = N) (hdN : d < N) (hrun : (execOp a.eval o).run P w = .ok (.enter f args) w) (hc : Calls P f args w fun e w' => e = .returned v ∧ w' = w)
    (h : ∀ a' : Act, a'.tmps.size = N → a'.defers = a.defers → a'.eval (.tmp d) = v → (∀ j : Nat, j ≠ d → a'.eval (.tmp j) = a.eval (.tmp j)) → wpStill P ops w Q rest a') : wpStill P ops w Q (o :: rest) a := by
  refine st_call hg hrun hc ?_
  rw [hd]
  exact h _ (by rw [Act.size_put, hsz]) (by rw [Act.defers_put']) (Act.eval_put_same _ _ _ (by rw [hsz]; exact hdN)) (fun j hj => Act.eval_put_ne _ _ _ _ (Ne.symm hj))
set_option maxRecDepth 20000 in
set_option maxHeartbeats 1000000 in
theorem ck_T (Y : World) (OPS : Array Oper) (Q : Act → Prop) (rest : List Oper) (a : Act) (G : Nat) (hsz : a.tmps.size = 186) (e2 : a.eval (.tmp 2) = .pointer (some ⟨G, 0, none⟩)) (e3 : a.eval (.tmp 3) = .pointer (some ⟨G + 1, 0, none⟩)) (x y : Int)
    (hx : Y.cell? ⟨G, 0, none⟩ = some (.int .u64 x)) (hy : Y.cell? ⟨G + 1, 0, none⟩ = some (.int .u64 y)) (t0 t1 t2 t3 t4 t5 t6 t7 t8 t9 t10 : TypeId) (p0 p1 p2 p3 p4 p5 p6 p7 p8 p9 p10 : String) (f0 f1 f2 f3 f4 f5 f6 f7 f8 f9 f10 : Array Edge)
    (h : ∀ a' : Act, a'.tmps.size = 186 → a'.defers = a.defers → (∀ j : Nat, j < 10 ∨ 20 < j → a'.eval (.tmp j) = a.eval (.tmp j)) → a'.eval (.tmp 20) = .int .i64 (compareInt x y) → wpStill Tryz.prog OPS Y Q rest a') :
    wpStill Tryz.prog OPS Y Q (({ dst := some 10, op := .fieldAddr 34 (.tmp 2) 0, type := t0, pos := p0, after := f0, guard := none } : Oper) :: ({ dst := some 11, op := .load 22 (.tmp 10), type := t1, pos := p1, after := f1, guard := none } : Oper) :: ({ dst := some 12, op := .fieldAddr 34 (.tmp 3) 0, type := t2, pos := p2, after := f2, guard := none } : Oper) :: ({ dst := some 13, op := .load 22 (.tmp 12), type := t3, pos := p3, after := f3, guard := none } : Oper) :: ({ dst := some 14, op := .binOp .lss 22 (.tmp 11) (.tmp 13) 22, type := t4, pos := p4, after := f4, guard := none } : Oper) :: ({ dst := some 15, op := .fieldAddr 34 (.tmp 2) 0, type := t5, pos := p5, after := f5, guard := none } : Oper) :: ({ dst := some 16, op := .load 22 (.tmp 15), type := t6, pos := p6, after := f6, guard := none } : Oper) :: ({ dst := some 17, op := .fieldAddr 34 (.tmp 3) 0, type := t7, pos := p7, after := f7, guard := none } : Oper) :: ({ dst := some 18, op := .load 22 (.tmp 17), type := t8, pos := p8, after := f8, guard := none } : Oper) :: ({ dst := some 19, op := .binOp .eql 22 (.tmp 16) (.tmp 18) 22, type := t9, pos := p9, after := f9, guard := none } : Oper) :: ({ dst := some 20, op := .call { callee := .value (.func 56), args := #[.tmp 14, .tmp 19], argTypes := #[4, 4] }, type := t10, pos := p10, after := f10, guard := none } : Oper) :: rest) a := by
  refine st_op' (d := 10) (N := 186) (v := .pointer (some ⟨G, 0, none⟩)) rfl rfl hsz (by decide) (fa_0 a.eval Y 2 G (some 10) t0 p0 f0 (by rw [e2])) ?_
  intro b0 s0 d0 q0 k0
  refine st_op' (d := 11) (N := 186) (v := .int .u64 x) rfl rfl s0 (by decide) (ld_u b0.eval Y 10 ⟨G, 0, none⟩ (.int .u64 x) (some 11) t1 p1 f1 (by rw [q0]) hx) ?_
  intro b1 s1 d1 q1 k1
  refine st_op' (d := 12) (N := 186) (v := .pointer (some ⟨G + 1, 0, none⟩)) rfl rfl s1 (by decide) (fa_0 b1.eval Y 3 (G + 1) (some 12) t2 p2 f2 (by rw [k1 3 (by decide), k0 3 (by decide), e3])) ?_
  intro b2 s2 d2 q2 k2
  refine st_op' (d := 13) (N := 186) (v := .int .u64 y) rfl rfl s2 (by decide) (ld_u b2.eval Y 12 ⟨G + 1, 0, none⟩ (.int .u64 y) (some 13) t3 p3 f3 (by rw [q2]) hy) ?_
  intro b3 s3 d3 q3 k3
  refine st_op' (d := 14) (N := 186) (v := .bool (decide (x < y))) rfl rfl s3 (by decide) (lt_u b3.eval Y 11 13 x y (some 14) t4 p4 f4 (by rw [k3 11 (by decide), k2 11 (by decide), q1]) (by rw [q3])) ?_
  intro b4 s4 d4 q4 k4
  refine st_op' (d := 15) (N := 186) (v := .pointer (some ⟨G, 0, none⟩)) rfl rfl s4 (by decide) (fa_0 b4.eval Y 2 G (some 15) t5 p5 f5 (by rw [k4 2 (by decide), k3 2 (by decide), k2 2 (by decide), k1 2 (by decide), k0 2 (by decide), e2])) ?_
  intro b5 s5 d5 q5 k5
  refine st_op' (d := 16) (N := 186) (v := .int .u64 x) rfl rfl s5 (by decide) (ld_u b5.eval Y 15 ⟨G, 0, none⟩ (.int .u64 x) (some 16) t6 p6 f6 (by rw [q5]) hx) ?_
  intro b6 s6 d6 q6 k6
  refine st_op' (d := 17) (N := 186) (v := .pointer (some ⟨G + 1, 0, none⟩)) rfl rfl s6 (by decide) (fa_0 b6.eval Y 3 (G + 1) (some 17) t7 p7 f7 (by rw [k6 3 (by decide), k5 3 (by decide), k4 3 (by decide), k3 3 (by decide), k2 3 (by decide), k1 3 (by decide), k0 3 (by decide), e3])) ?_
  intro b7 s7 d7 q7 k7
  refine st_op' (d := 18) (N := 186) (v := .int .u64 y) rfl rfl s7 (by decide) (ld_u b7.eval Y 17 ⟨G + 1, 0, none⟩ (.int .u64 y) (some 18) t8 p8 f8 (by rw [q7]) hy) ?_
  intro b8 s8 d8 q8 k8
  refine st_op' (d := 19) (N := 186) (v := .bool (x == y)) rfl rfl s8 (by decide) (eq_u b8.eval Y 16 18 x y (some 19) t9 p9 f9 (by rw [k8 16 (by decide), k7 16 (by decide), q6]) (by rw [q8])) ?_
  intro b9 s9 d9 q9 k9
  refine st_call' (d := 20) (N := 186) (f := 56) (args := #[.bool (decide (x < y)), .bool (x == y)]) rfl rfl s9 (by decide) (ca_o b9.eval Y 14 19 (.bool (decide (x < y))) (.bool (x == y)) (some 20) t10 p10 f10 (by rw [k9 14 (by decide), k8 14 (by decide), k7 14 (by decide), k6 14 (by decide), k5 14 (by decide), q4]) (by rw [q9]) rfl) (ordi_any x y Y) ?_
  intro c sc dc qc kc
  refine h c sc (by rw [dc, d9, d8, d7, d6, d5, d4, d3, d2, d1, d0]) (fun j hj => ?_) qc
  rw [kc j (by omega), k9 j (by omega), k8 j (by omega), k7 j (by omega), k6 j (by omega), k5 j (by omega), k4 j (by omega), k3 j (by omega), k2 j (by omega), k1 j (by omega), k0 j (by omega)]
set_option maxRecDepth 20000 in
set_option maxHeartbeats 1000000 in
theorem ck_I (Y : World) (OPS : Array Oper) (Q : Act → Prop) (rest : List Oper) (a : Act) (G : Nat) (hsz : a.tmps.size = 186) (e2 : a.eval (.tmp 2) = .pointer (some ⟨G, 0, none⟩)) (e3 : a.eval (.tmp 3) = .pointer (some ⟨G + 1, 0, none⟩)) (x y : Int)
    (hx : Y.cell? ⟨G, 1, none⟩ = some (.int .u64 x)) (hy : Y.cell? ⟨G + 1, 1, none⟩ = some (.int .u64 y)) (t0 t1 t2 t3 t4 t5 t6 t7 t8 t9 t10 : TypeId) (p0 p1 p2 p3 p4 p5 p6 p7 p8 p9 p10 : String) (f0 f1 f2 f3 f4 f5 f6 f7 f8 f9 f10 : Array Edge)
    (h : ∀ a' : Act, a'.tmps.size = 186 → a'.defers = a.defers → (∀ j : Nat, j < 21 ∨ 31 < j → a'.eval (.tmp j) = a.eval (.tmp j)) → a'.eval (.tmp 31) = .int .i64 (compareInt x y) → wpStill Tryz.prog OPS Y Q rest a') :
    wpStill Tryz.prog OPS Y Q (({ dst := some 21, op := .fieldAddr 34 (.tmp 2) 1, type := t0, pos := p0, after := f0, guard := none } : Oper) :: ({ dst := some 22, op := .load 22 (.tmp 21), type := t1, pos := p1, after := f1, guard := none } : Oper) :: ({ dst := some 23, op := .fieldAddr 34 (.tmp 3) 1, type := t2, pos := p2, after := f2, guard := none } : Oper) :: ({ dst := some 24, op := .load 22 (.tmp 23), type := t3, pos := p3, after := f3, guard := none } : Oper) :: ({ dst := some 25, op := .binOp .lss 22 (.tmp 22) (.tmp 24) 22, type := t4, pos := p4, after := f4, guard := none } : Oper) :: ({ dst := some 26, op := .fieldAddr 34 (.tmp 2) 1, type := t5, pos := p5, after := f5, guard := none } : Oper) :: ({ dst := some 27, op := .load 22 (.tmp 26), type := t6, pos := p6, after := f6, guard := none } : Oper) :: ({ dst := some 28, op := .fieldAddr 34 (.tmp 3) 1, type := t7, pos := p7, after := f7, guard := none } : Oper) :: ({ dst := some 29, op := .load 22 (.tmp 28), type := t8, pos := p8, after := f8, guard := none } : Oper) :: ({ dst := some 30, op := .binOp .eql 22 (.tmp 27) (.tmp 29) 22, type := t9, pos := p9, after := f9, guard := none } : Oper) :: ({ dst := some 31, op := .call { callee := .value (.func 56), args := #[.tmp 25, .tmp 30], argTypes := #[4, 4] }, type := t10, pos := p10, after := f10, guard := none } : Oper) :: rest) a := by
  refine st_op' (d := 21) (N := 186) (v := .pointer (some ⟨G, 1, none⟩)) rfl rfl hsz (by decide) (fa_1 a.eval Y 2 G (some 21) t0 p0 f0 (by rw [e2])) ?_
  intro b0 s0 d0 q0 k0
  refine st_op' (d := 22) (N := 186) (v := .int .u64 x) rfl rfl s0 (by decide) (ld_u b0.eval Y 21 ⟨G, 1, none⟩ (.int .u64 x) (some 22) t1 p1 f1 (by rw [q0]) hx) ?_
  intro b1 s1 d1 q1 k1
  refine st_op' (d := 23) (N := 186) (v := .pointer (some ⟨G + 1, 1, none⟩)) rfl rfl s1 (by decide) (fa_1 b1.eval Y 3 (G + 1) (some 23) t2 p2 f2 (by rw [k1 3 (by decide), k0 3 (by decide), e3])) ?_
  intro b2 s2 d2 q2 k2
  refine st_op' (d := 24) (N := 186) (v := .int .u64 y) rfl rfl s2 (by decide) (ld_u b2.eval Y 23 ⟨G + 1, 1, none⟩ (.int .u64 y) (some 24) t3 p3 f3 (by rw [q2]) hy) ?_
  intro b3 s3 d3 q3 k3
  refine st_op' (d := 25) (N := 186) (v := .bool (decide (x < y))) rfl rfl s3 (by decide) (lt_u b3.eval Y 22 24 x y (some 25) t4 p4 f4 (by rw [k3 22 (by decide), k2 22 (by decide), q1]) (by rw [q3])) ?_
  intro b4 s4 d4 q4 k4
  refine st_op' (d := 26) (N := 186) (v := .pointer (some ⟨G, 1, none⟩)) rfl rfl s4 (by decide) (fa_1 b4.eval Y 2 G (some 26) t5 p5 f5 (by rw [k4 2 (by decide), k3 2 (by decide), k2 2 (by decide), k1 2 (by decide), k0 2 (by decide), e2])) ?_
  intro b5 s5 d5 q5 k5
  refine st_op' (d := 27) (N := 186) (v := .int .u64 x) rfl rfl s5 (by decide) (ld_u b5.eval Y 26 ⟨G, 1, none⟩ (.int .u64 x) (some 27) t6 p6 f6 (by rw [q5]) hx) ?_
  intro b6 s6 d6 q6 k6
  refine st_op' (d := 28) (N := 186) (v := .pointer (some ⟨G + 1, 1, none⟩)) rfl rfl s6 (by decide) (fa_1 b6.eval Y 3 (G + 1) (some 28) t7 p7 f7 (by rw [k6 3 (by decide), k5 3 (by decide), k4 3 (by decide), k3 3 (by decide), k2 3 (by decide), k1 3 (by decide), k0 3 (by decide), e3])) ?_
  intro b7 s7 d7 q7 k7
  refine st_op' (d := 29) (N := 186) (v := .int .u64 y) rfl rfl s7 (by decide) (ld_u b7.eval Y 28 ⟨G + 1, 1, none⟩ (.int .u64 y) (some 29) t8 p8 f8 (by rw [q7]) hy) ?_
  intro b8 s8 d8 q8 k8
  refine st_op' (d := 30) (N := 186) (v := .bool (x == y)) rfl rfl s8 (by decide) (eq_u b8.eval Y 27 29 x y (some 30) t9 p9 f9 (by rw [k8 27 (by decide), k7 27 (by decide), q6]) (by rw [q8])) ?_
  intro b9 s9 d9 q9 k9
  refine st_call' (d := 31) (N := 186) (f := 56) (args := #[.bool (decide (x < y)), .bool (x == y)]) rfl rfl s9 (by decide) (ca_o b9.eval Y 25 30 (.bool (decide (x < y))) (.bool (x == y)) (some 31) t10 p10 f10 (by rw [k9 25 (by decide), k8 25 (by decide), k7 25 (by decide), k6 25 (by decide), k5 25 (by decide), q4]) (by rw [q9]) rfl) (ordi_any x y Y) ?_
  intro c sc dc qc kc
  refine h c sc (by rw [dc, d9, d8, d7, d6, d5, d4, d3, d2, d1, d0]) (fun j hj => ?_) qc
  rw [kc j (by omega), k9 j (by omega), k8 j (by omega), k7 j (by omega), k6 j (by omega), k5 j (by omega), k4 j (by omega), k3 j (by omega), k2 j (by omega), k1 j (by omega), k0 j (by omega)]
set_option maxRecDepth 20000 in
set_option maxHeartbeats 1000000 in
theorem ck_P (Y : World) (OPS : Array Oper) (Q : Act → Prop) (rest : List Oper) (a : Act) (G : Nat) (hsz : a.tmps.size = 186) (e2 : a.eval (.tmp 2) = .pointer (some ⟨G, 0, none⟩)) (e3 : a.eval (.tmp 3) = .pointer (some ⟨G + 1, 0, none⟩)) (x y : Int)
    (hx : Y.cell? ⟨G, 2, none⟩ = some (.int .u64 x)) (hy : Y.cell? ⟨G + 1, 2, none⟩ = some (.int .u64 y)) (t0 t1 t2 t3 t4 t5 t6 t7 t8 t9 t10 : TypeId) (p0 p1 p2 p3 p4 p5 p6 p7 p8 p9 p10 : String) (f0 f1 f2 f3 f4 f5 f6 f7 f8 f9 f10 : Array Edge)
    (h : ∀ a' : Act, a'.tmps.size = 186 → a'.defers = a.defers → (∀ j : Nat, j < 32 ∨ 42 < j → a'.eval (.tmp j) = a.eval (.tmp j)) → a'.eval (.tmp 42) = .int .i64 (compareInt x y) → wpStill Tryz.prog OPS Y Q rest a') :
    wpStill Tryz.prog OPS Y Q (({ dst := some 32, op := .fieldAddr 34 (.tmp 2) 2, type := t0, pos := p0, after := f0, guard := none } : Oper) :: ({ dst := some 33, op := .load 22 (.tmp 32), type := t1, pos := p1, after := f1, guard := none } : Oper) :: ({ dst := some 34, op := .fieldAddr 34 (.tmp 3) 2, type := t2, pos := p2, after := f2, guard := none } : Oper) :: ({ dst := some 35, op := .load 22 (.tmp 34), type := t3, pos := p3, after := f3, guard := none } : Oper) :: ({ dst := some 36, op := .binOp .lss 22 (.tmp 33) (.tmp 35) 22, type := t4, pos := p4, after := f4, guard := none } : Oper) :: ({ dst := some 37, op := .fieldAddr 34 (.tmp 2) 2, type := t5, pos := p5, after := f5, guard := none } : Oper) :: ({ dst := some 38, op := .load 22 (.tmp 37), type := t6, pos := p6, after := f6, guard := none } : Oper) :: ({ dst := some 39, op := .fieldAddr 34 (.tmp 3) 2, type := t7, pos := p7, after := f7, guard := none } : Oper) :: ({ dst := some 40, op := .load 22 (.tmp 39), type := t8, pos := p8, after := f8, guard := none } : Oper) :: ({ dst := some 41, op := .binOp .eql 22 (.tmp 38) (.tmp 40) 22, type := t9, pos := p9, after := f9, guard := none } : Oper) :: ({ dst := some 42, op := .call { callee := .value (.func 56), args := #[.tmp 36, .tmp 41], argTypes := #[4, 4] }, type := t10, pos := p10, after := f10, guard := none } : Oper) :: rest) a := by
  refine st_op' (d := 32) (N := 186) (v := .pointer (some ⟨G, 2, none⟩)) rfl rfl hsz (by decide) (fa_2 a.eval Y 2 G (some 32) t0 p0 f0 (by rw [e2])) ?_
  intro b0 s0 d0 q0 k0
  refine st_op' (d := 33) (N := 186) (v := .int .u64 x) rfl rfl s0 (by decide) (ld_u b0.eval Y 32 ⟨G, 2, none⟩ (.int .u64 x) (some 33) t1 p1 f1 (by rw [q0]) hx) ?_
  intro b1 s1 d1 q1 k1
  refine st_op' (d := 34) (N := 186) (v := .pointer (some ⟨G + 1, 2, none⟩)) rfl rfl s1 (by decide) (fa_2 b1.eval Y 3 (G + 1) (some 34) t2 p2 f2 (by rw [k1 3 (by decide), k0 3 (by decide), e3])) ?_
  intro b2 s2 d2 q2 k2
  refine st_op' (d := 35) (N := 186) (v := .int .u64 y) rfl rfl s2 (by decide) (ld_u b2.eval Y 34 ⟨G + 1, 2, none⟩ (.int .u64 y) (some 35) t3 p3 f3 (by rw [q2]) hy) ?_
  intro b3 s3 d3 q3 k3
  refine st_op' (d := 36) (N := 186) (v := .bool (decide (x < y))) rfl rfl s3 (by decide) (lt_u b3.eval Y 33 35 x y (some 36) t4 p4 f4 (by rw [k3 33 (by decide), k2 33 (by decide), q1]) (by rw [q3])) ?_
  intro b4 s4 d4 q4 k4
  refine st_op' (d := 37) (N := 186) (v := .pointer (some ⟨G, 2, none⟩)) rfl rfl s4 (by decide) (fa_2 b4.eval Y 2 G (some 37) t5 p5 f5 (by rw [k4 2 (by decide), k3 2 (by decide), k2 2 (by decide), k1 2 (by decide), k0 2 (by decide), e2])) ?_
  intro b5 s5 d5 q5 k5
  refine st_op' (d := 38) (N := 186) (v := .int .u64 x) rfl rfl s5 (by decide) (ld_u b5.eval Y 37 ⟨G, 2, none⟩ (.int .u64 x) (some 38) t6 p6 f6 (by rw [q5]) hx) ?_
  intro b6 s6 d6 q6 k6
  refine st_op' (d := 39) (N := 186) (v := .pointer (some ⟨G + 1, 2, none⟩)) rfl rfl s6 (by decide) (fa_2 b6.eval Y 3 (G + 1) (some 39) t7 p7 f7 (by rw [k6 3 (by decide), k5 3 (by decide), k4 3 (by decide), k3 3 (by decide), k2 3 (by decide), k1 3 (by decide), k0 3 (by decide), e3])) ?_
  intro b7 s7 d7 q7 k7
  refine st_op' (d := 40) (N := 186) (v := .int .u64 y) rfl rfl s7 (by decide) (ld_u b7.eval Y 39 ⟨G + 1, 2, none⟩ (.int .u64 y) (some 40) t8 p8 f8 (by rw [q7]) hy) ?_
  intro b8 s8 d8 q8 k8
  refine st_op' (d := 41) (N := 186) (v := .bool (x == y)) rfl rfl s8 (by decide) (eq_u b8.eval Y 38 40 x y (some 41) t9 p9 f9 (by rw [k8 38 (by decide), k7 38 (by decide), q6]) (by rw [q8])) ?_
  intro b9 s9 d9 q9 k9
  refine st_call' (d := 42) (N := 186) (f := 56) (args := #[.bool (decide (x < y)), .bool (x == y)]) rfl rfl s9 (by decide) (ca_o b9.eval Y 36 41 (.bool (decide (x < y))) (.bool (x == y)) (some 42) t10 p10 f10 (by rw [k9 36 (by decide), k8 36 (by decide), k7 36 (by decide), k6 36 (by decide), k5 36 (by decide), q4]) (by rw [q9]) rfl) (ordi_any x y Y) ?_
  intro c sc dc qc kc
  refine h c sc (by rw [dc, d9, d8, d7, d6, d5, d4, d3, d2, d1, d0]) (fun j hj => ?_) qc
  rw [kc j (by omega), k9 j (by omega), k8 j (by omega), k7 j (by omega), k6 j (by omega), k5 j (by omega), k4 j (by omega), k3 j (by omega), k2 j (by omega), k1 j (by omega), k0 j (by omega)]
set_option maxRecDepth 20000 in
set_option maxHeartbeats 1000000 in
theorem ck_sv (Y : World) (OPS : Array Oper) (Q : Act → Prop) (rest : List Oper) (a : Act) (G : Nat) (hsz : a.tmps.size = 186) (e2 : a.eval (.tmp 2) = .pointer (some ⟨G, 0, none⟩)) (e3 : a.eval (.tmp 3) = .pointer (some ⟨G + 1, 0, none⟩)) (x y : ByteArray)
    (hx : Y.cell? ⟨G, 3, none⟩ = some (.string x)) (hy : Y.cell? ⟨G + 1, 3, none⟩ = some (.string y)) (t0 t1 t2 t3 t4 t5 t6 t7 t8 t9 t10 : TypeId) (p0 p1 p2 p3 p4 p5 p6 p7 p8 p9 p10 : String) (f0 f1 f2 f3 f4 f5 f6 f7 f8 f9 f10 : Array Edge)
    (h : ∀ a' : Act, a'.tmps.size = 186 → a'.defers = a.defers → (∀ j : Nat, j < 43 ∨ 53 < j → a'.eval (.tmp j) = a.eval (.tmp j)) → a'.eval (.tmp 53) = .int .i64 (compareBytes x.data.toList y.data.toList) → wpStill Tryz.prog OPS Y Q rest a') :
    wpStill Tryz.prog OPS Y Q (({ dst := some 43, op := .fieldAddr 34 (.tmp 2) 3, type := t0, pos := p0, after := f0, guard := none } : Oper) :: ({ dst := some 44, op := .load 9 (.tmp 43), type := t1, pos := p1, after := f1, guard := none } : Oper) :: ({ dst := some 45, op := .fieldAddr 34 (.tmp 3) 3, type := t2, pos := p2, after := f2, guard := none } : Oper) :: ({ dst := some 46, op := .load 9 (.tmp 45), type := t3, pos := p3, after := f3, guard := none } : Oper) :: ({ dst := some 47, op := .binOp .lss 9 (.tmp 44) (.tmp 46) 9, type := t4, pos := p4, after := f4, guard := none } : Oper) :: ({ dst := some 48, op := .fieldAddr 34 (.tmp 2) 3, type := t5, pos := p5, after := f5, guard := none } : Oper) :: ({ dst := some 49, op := .load 9 (.tmp 48), type := t6, pos := p6, after := f6, guard := none } : Oper) :: ({ dst := some 50, op := .fieldAddr 34 (.tmp 3) 3, type := t7, pos := p7, after := f7, guard := none } : Oper) :: ({ dst := some 51, op := .load 9 (.tmp 50), type := t8, pos := p8, after := f8, guard := none } : Oper) :: ({ dst := some 52, op := .binOp .eql 9 (.tmp 49) (.tmp 51) 9, type := t9, pos := p9, after := f9, guard := none } : Oper) :: ({ dst := some 53, op := .call { callee := .value (.func 56), args := #[.tmp 47, .tmp 52], argTypes := #[4, 4] }, type := t10, pos := p10, after := f10, guard := none } : Oper) :: rest) a := by
  refine st_op' (d := 43) (N := 186) (v := .pointer (some ⟨G, 3, none⟩)) rfl rfl hsz (by decide) (fa_3 a.eval Y 2 G (some 43) t0 p0 f0 (by rw [e2])) ?_
  intro b0 s0 d0 q0 k0
  refine st_op' (d := 44) (N := 186) (v := .string x) rfl rfl s0 (by decide) (ld_s b0.eval Y 43 ⟨G, 3, none⟩ (.string x) (some 44) t1 p1 f1 (by rw [q0]) hx) ?_
  intro b1 s1 d1 q1 k1
  refine st_op' (d := 45) (N := 186) (v := .pointer (some ⟨G + 1, 3, none⟩)) rfl rfl s1 (by decide) (fa_3 b1.eval Y 3 (G + 1) (some 45) t2 p2 f2 (by rw [k1 3 (by decide), k0 3 (by decide), e3])) ?_
  intro b2 s2 d2 q2 k2
  refine st_op' (d := 46) (N := 186) (v := .string y) rfl rfl s2 (by decide) (ld_s b2.eval Y 45 ⟨G + 1, 3, none⟩ (.string y) (some 46) t3 p3 f3 (by rw [q2]) hy) ?_
  intro b3 s3 d3 q3 k3
  refine st_op' (d := 47) (N := 186) (v := .bool (Op.bytesLess x.toList y.toList)) rfl rfl s3 (by decide) (lt_s b3.eval Y 44 46 x y (some 47) t4 p4 f4 (by rw [k3 44 (by decide), k2 44 (by decide), q1]) (by rw [q3])) ?_
  intro b4 s4 d4 q4 k4
  refine st_op' (d := 48) (N := 186) (v := .pointer (some ⟨G, 3, none⟩)) rfl rfl s4 (by decide) (fa_3 b4.eval Y 2 G (some 48) t5 p5 f5 (by rw [k4 2 (by decide), k3 2 (by decide), k2 2 (by decide), k1 2 (by decide), k0 2 (by decide), e2])) ?_
  intro b5 s5 d5 q5 k5
  refine st_op' (d := 49) (N := 186) (v := .string x) rfl rfl s5 (by decide) (ld_s b5.eval Y 48 ⟨G, 3, none⟩ (.string x) (some 49) t6 p6 f6 (by rw [q5]) hx) ?_
  intro b6 s6 d6 q6 k6
  refine st_op' (d := 50) (N := 186) (v := .pointer (some ⟨G + 1, 3, none⟩)) rfl rfl s6 (by decide) (fa_3 b6.eval Y 3 (G + 1) (some 50) t7 p7 f7 (by rw [k6 3 (by decide), k5 3 (by decide), k4 3 (by decide), k3 3 (by decide), k2 3 (by decide), k1 3 (by decide), k0 3 (by decide), e3])) ?_
  intro b7 s7 d7 q7 k7
  refine st_op' (d := 51) (N := 186) (v := .string y) rfl rfl s7 (by decide) (ld_s b7.eval Y 50 ⟨G + 1, 3, none⟩ (.string y) (some 51) t8 p8 f8 (by rw [q7]) hy) ?_
  intro b8 s8 d8 q8 k8
  refine st_op' (d := 52) (N := 186) (v := .bool (x.toList == y.toList)) rfl rfl s8 (by decide) (eq_s b8.eval Y 49 51 x y (some 52) t9 p9 f9 (by rw [k8 49 (by decide), k7 49 (by decide), q6]) (by rw [q8])) ?_
  intro b9 s9 d9 q9 k9
  refine st_call' (d := 53) (N := 186) (f := 56) (args := #[.bool (Op.bytesLess x.toList y.toList), .bool (x.toList == y.toList)]) rfl rfl s9 (by decide) (ca_o b9.eval Y 47 52 (.bool (Op.bytesLess x.toList y.toList)) (.bool (x.toList == y.toList)) (some 53) t10 p10 f10 (by rw [k9 47 (by decide), k8 47 (by decide), k7 47 (by decide), k6 47 (by decide), k5 47 (by decide), q4]) (by rw [q9]) rfl) (ords_any x y Y) ?_
  intro c sc dc qc kc
  refine h c sc (by rw [dc, d9, d8, d7, d6, d5, d4, d3, d2, d1, d0]) (fun j hj => ?_) qc
  rw [kc j (by omega), k9 j (by omega), k8 j (by omega), k7 j (by omega), k6 j (by omega), k5 j (by omega), k4 j (by omega), k3 j (by omega), k2 j (by omega), k1 j (by omega), k0 j (by omega)]
set_option maxRecDepth 20000 in
set_option maxHeartbeats 1000000 in
theorem ck_nm (Y : World) (OPS : Array Oper) (Q : Act → Prop) (rest : List Oper) (a : Act) (G : Nat) (hsz : a.tmps.size = 186) (e2 : a.eval (.tmp 2) = .pointer (some ⟨G, 0, none⟩)) (e3 : a.eval (.tmp 3) = .pointer (some ⟨G + 1, 0, none⟩)) (x y : ByteArray)
    (hx : Y.cell? ⟨G, 4, none⟩ = some (.string x)) (hy : Y.cell? ⟨G + 1, 4, none⟩ = some (.string y)) (t0 t1 t2 t3 t4 t5 t6 t7 t8 t9 t10 : TypeId) (p0 p1 p2 p3 p4 p5 p6 p7 p8 p9 p10 : String) (f0 f1 f2 f3 f4 f5 f6 f7 f8 f9 f10 : Array Edge)
    (h : ∀ a' : Act, a'.tmps.size = 186 → a'.defers = a.defers → (∀ j : Nat, j < 54 ∨ 64 < j → a'.eval (.tmp j) = a.eval (.tmp j)) → a'.eval (.tmp 64) = .int .i64 (compareBytes x.data.toList y.data.toList) → wpStill Tryz.prog OPS Y Q rest a') :
    wpStill Tryz.prog OPS Y Q (({ dst := some 54, op := .fieldAddr 34 (.tmp 2) 4, type := t0, pos := p0, after := f0, guard := none } : Oper) :: ({ dst := some 55, op := .load 9 (.tmp 54), type := t1, pos := p1, after := f1, guard := none } : Oper) :: ({ dst := some 56, op := .fieldAddr 34 (.tmp 3) 4, type := t2, pos := p2, after := f2, guard := none } : Oper) :: ({ dst := some 57, op := .load 9 (.tmp 56), type := t3, pos := p3, after := f3, guard := none } : Oper) :: ({ dst := some 58, op := .binOp .lss 9 (.tmp 55) (.tmp 57) 9, type := t4, pos := p4, after := f4, guard := none } : Oper) :: ({ dst := some 59, op := .fieldAddr 34 (.tmp 2) 4, type := t5, pos := p5, after := f5, guard := none } : Oper) :: ({ dst := some 60, op := .load 9 (.tmp 59), type := t6, pos := p6, after := f6, guard := none } : Oper) :: ({ dst := some 61, op := .fieldAddr 34 (.tmp 3) 4, type := t7, pos := p7, after := f7, guard := none } : Oper) :: ({ dst := some 62, op := .load 9 (.tmp 61), type := t8, pos := p8, after := f8, guard := none } : Oper) :: ({ dst := some 63, op := .binOp .eql 9 (.tmp 60) (.tmp 62) 9, type := t9, pos := p9, after := f9, guard := none } : Oper) :: ({ dst := some 64, op := .call { callee := .value (.func 56), args := #[.tmp 58, .tmp 63], argTypes := #[4, 4] }, type := t10, pos := p10, after := f10, guard := none } : Oper) :: rest) a := by
  refine st_op' (d := 54) (N := 186) (v := .pointer (some ⟨G, 4, none⟩)) rfl rfl hsz (by decide) (fa_4 a.eval Y 2 G (some 54) t0 p0 f0 (by rw [e2])) ?_
  intro b0 s0 d0 q0 k0
  refine st_op' (d := 55) (N := 186) (v := .string x) rfl rfl s0 (by decide) (ld_s b0.eval Y 54 ⟨G, 4, none⟩ (.string x) (some 55) t1 p1 f1 (by rw [q0]) hx) ?_
  intro b1 s1 d1 q1 k1
  refine st_op' (d := 56) (N := 186) (v := .pointer (some ⟨G + 1, 4, none⟩)) rfl rfl s1 (by decide) (fa_4 b1.eval Y 3 (G + 1) (some 56) t2 p2 f2 (by rw [k1 3 (by decide), k0 3 (by decide), e3])) ?_
  intro b2 s2 d2 q2 k2
  refine st_op' (d := 57) (N := 186) (v := .string y) rfl rfl s2 (by decide) (ld_s b2.eval Y 56 ⟨G + 1, 4, none⟩ (.string y) (some 57) t3 p3 f3 (by rw [q2]) hy) ?_
  intro b3 s3 d3 q3 k3
  refine st_op' (d := 58) (N := 186) (v := .bool (Op.bytesLess x.toList y.toList)) rfl rfl s3 (by decide) (lt_s b3.eval Y 55 57 x y (some 58) t4 p4 f4 (by rw [k3 55 (by decide), k2 55 (by decide), q1]) (by rw [q3])) ?_
  intro b4 s4 d4 q4 k4
  refine st_op' (d := 59) (N := 186) (v := .pointer (some ⟨G, 4, none⟩)) rfl rfl s4 (by decide) (fa_4 b4.eval Y 2 G (some 59) t5 p5 f5 (by rw [k4 2 (by decide), k3 2 (by decide), k2 2 (by decide), k1 2 (by decide), k0 2 (by decide), e2])) ?_
  intro b5 s5 d5 q5 k5
  refine st_op' (d := 60) (N := 186) (v := .string x) rfl rfl s5 (by decide) (ld_s b5.eval Y 59 ⟨G, 4, none⟩ (.string x) (some 60) t6 p6 f6 (by rw [q5]) hx) ?_
  intro b6 s6 d6 q6 k6
  refine st_op' (d := 61) (N := 186) (v := .pointer (some ⟨G + 1, 4, none⟩)) rfl rfl s6 (by decide) (fa_4 b6.eval Y 3 (G + 1) (some 61) t7 p7 f7 (by rw [k6 3 (by decide), k5 3 (by decide), k4 3 (by decide), k3 3 (by decide), k2 3 (by decide), k1 3 (by decide), k0 3 (by decide), e3])) ?_
  intro b7 s7 d7 q7 k7
  refine st_op' (d := 62) (N := 186) (v := .string y) rfl rfl s7 (by decide) (ld_s b7.eval Y 61 ⟨G + 1, 4, none⟩ (.string y) (some 62) t8 p8 f8 (by rw [q7]) hy) ?_
  intro b8 s8 d8 q8 k8
  refine st_op' (d := 63) (N := 186) (v := .bool (x.toList == y.toList)) rfl rfl s8 (by decide) (eq_s b8.eval Y 60 62 x y (some 63) t9 p9 f9 (by rw [k8 60 (by decide), k7 60 (by decide), q6]) (by rw [q8])) ?_
  intro b9 s9 d9 q9 k9
  refine st_call' (d := 64) (N := 186) (f := 56) (args := #[.bool (Op.bytesLess x.toList y.toList), .bool (x.toList == y.toList)]) rfl rfl s9 (by decide) (ca_o b9.eval Y 58 63 (.bool (Op.bytesLess x.toList y.toList)) (.bool (x.toList == y.toList)) (some 64) t10 p10 f10 (by rw [k9 58 (by decide), k8 58 (by decide), k7 58 (by decide), k6 58 (by decide), k5 58 (by decide), q4]) (by rw [q9]) rfl) (ords_any x y Y) ?_
  intro c sc dc qc kc
  refine h c sc (by rw [dc, d9, d8, d7, d6, d5, d4, d3, d2, d1, d0]) (fun j hj => ?_) qc
  rw [kc j (by omega), k9 j (by omega), k8 j (by omega), k7 j (by omega), k6 j (by omega), k5 j (by omega), k4 j (by omega), k3 j (by omega), k2 j (by omega), k1 j (by omega), k0 j (by omega)]
set_option maxRecDepth 20000 in
set_option maxHeartbeats 1000000 in
theorem ck_kd (Y : World) (OPS : Array Oper) (Q : Act → Prop) (rest : List Oper) (a : Act) (G : Nat) (hsz : a.tmps.size = 186) (e2 : a.eval (.tmp 2) = .pointer (some ⟨G, 0, none⟩)) (e3 : a.eval (.tmp 3) = .pointer (some ⟨G + 1, 0, none⟩)) (x y : Int)
    (hx : Y.cell? ⟨G, 5, none⟩ = some (.int .i64 x)) (hy : Y.cell? ⟨G + 1, 5, none⟩ = some (.int .i64 y)) (t0 t1 t2 t3 t4 t5 t6 t7 t8 t9 t10 : TypeId) (p0 p1 p2 p3 p4 p5 p6 p7 p8 p9 p10 : String) (f0 f1 f2 f3 f4 f5 f6 f7 f8 f9 f10 : Array Edge)
    (h : ∀ a' : Act, a'.tmps.size = 186 → a'.defers = a.defers → (∀ j : Nat, j < 65 ∨ 75 < j → a'.eval (.tmp j) = a.eval (.tmp j)) → a'.eval (.tmp 75) = .int .i64 (compareInt x y) → wpStill Tryz.prog OPS Y Q rest a') :
    wpStill Tryz.prog OPS Y Q (({ dst := some 65, op := .fieldAddr 34 (.tmp 2) 5, type := t0, pos := p0, after := f0, guard := none } : Oper) :: ({ dst := some 66, op := .load 3 (.tmp 65), type := t1, pos := p1, after := f1, guard := none } : Oper) :: ({ dst := some 67, op := .fieldAddr 34 (.tmp 3) 5, type := t2, pos := p2, after := f2, guard := none } : Oper) :: ({ dst := some 68, op := .load 3 (.tmp 67), type := t3, pos := p3, after := f3, guard := none } : Oper) :: ({ dst := some 69, op := .binOp .lss 3 (.tmp 66) (.tmp 68) 3, type := t4, pos := p4, after := f4, guard := none } : Oper) :: ({ dst := some 70, op := .fieldAddr 34 (.tmp 2) 5, type := t5, pos := p5, after := f5, guard := none } : Oper) :: ({ dst := some 71, op := .load 3 (.tmp 70), type := t6, pos := p6, after := f6, guard := none } : Oper) :: ({ dst := some 72, op := .fieldAddr 34 (.tmp 3) 5, type := t7, pos := p7, after := f7, guard := none } : Oper) :: ({ dst := some 73, op := .load 3 (.tmp 72), type := t8, pos := p8, after := f8, guard := none } : Oper) :: ({ dst := some 74, op := .binOp .eql 3 (.tmp 71) (.tmp 73) 3, type := t9, pos := p9, after := f9, guard := none } : Oper) :: ({ dst := some 75, op := .call { callee := .value (.func 56), args := #[.tmp 69, .tmp 74], argTypes := #[4, 4] }, type := t10, pos := p10, after := f10, guard := none } : Oper) :: rest) a := by
  refine st_op' (d := 65) (N := 186) (v := .pointer (some ⟨G, 5, none⟩)) rfl rfl hsz (by decide) (fa_5 a.eval Y 2 G (some 65) t0 p0 f0 (by rw [e2])) ?_
  intro b0 s0 d0 q0 k0
  refine st_op' (d := 66) (N := 186) (v := .int .i64 x) rfl rfl s0 (by decide) (ld_i b0.eval Y 65 ⟨G, 5, none⟩ (.int .i64 x) (some 66) t1 p1 f1 (by rw [q0]) hx) ?_
  intro b1 s1 d1 q1 k1
  refine st_op' (d := 67) (N := 186) (v := .pointer (some ⟨G + 1, 5, none⟩)) rfl rfl s1 (by decide) (fa_5 b1.eval Y 3 (G + 1) (some 67) t2 p2 f2 (by rw [k1 3 (by decide), k0 3 (by decide), e3])) ?_
  intro b2 s2 d2 q2 k2
  refine st_op' (d := 68) (N := 186) (v := .int .i64 y) rfl rfl s2 (by decide) (ld_i b2.eval Y 67 ⟨G + 1, 5, none⟩ (.int .i64 y) (some 68) t3 p3 f3 (by rw [q2]) hy) ?_
  intro b3 s3 d3 q3 k3
  refine st_op' (d := 69) (N := 186) (v := .bool (decide (x < y))) rfl rfl s3 (by decide) (lt_i b3.eval Y 66 68 x y (some 69) t4 p4 f4 (by rw [k3 66 (by decide), k2 66 (by decide), q1]) (by rw [q3])) ?_
  intro b4 s4 d4 q4 k4
  refine st_op' (d := 70) (N := 186) (v := .pointer (some ⟨G, 5, none⟩)) rfl rfl s4 (by decide) (fa_5 b4.eval Y 2 G (some 70) t5 p5 f5 (by rw [k4 2 (by decide), k3 2 (by decide), k2 2 (by decide), k1 2 (by decide), k0 2 (by decide), e2])) ?_
  intro b5 s5 d5 q5 k5
  refine st_op' (d := 71) (N := 186) (v := .int .i64 x) rfl rfl s5 (by decide) (ld_i b5.eval Y 70 ⟨G, 5, none⟩ (.int .i64 x) (some 71) t6 p6 f6 (by rw [q5]) hx) ?_
  intro b6 s6 d6 q6 k6
  refine st_op' (d := 72) (N := 186) (v := .pointer (some ⟨G + 1, 5, none⟩)) rfl rfl s6 (by decide) (fa_5 b6.eval Y 3 (G + 1) (some 72) t7 p7 f7 (by rw [k6 3 (by decide), k5 3 (by decide), k4 3 (by decide), k3 3 (by decide), k2 3 (by decide), k1 3 (by decide), k0 3 (by decide), e3])) ?_
  intro b7 s7 d7 q7 k7
  refine st_op' (d := 73) (N := 186) (v := .int .i64 y) rfl rfl s7 (by decide) (ld_i b7.eval Y 72 ⟨G + 1, 5, none⟩ (.int .i64 y) (some 73) t8 p8 f8 (by rw [q7]) hy) ?_
  intro b8 s8 d8 q8 k8
  refine st_op' (d := 74) (N := 186) (v := .bool (x == y)) rfl rfl s8 (by decide) (eq_i b8.eval Y 71 73 x y (some 74) t9 p9 f9 (by rw [k8 71 (by decide), k7 71 (by decide), q6]) (by rw [q8])) ?_
  intro b9 s9 d9 q9 k9
  refine st_call' (d := 75) (N := 186) (f := 56) (args := #[.bool (decide (x < y)), .bool (x == y)]) rfl rfl s9 (by decide) (ca_o b9.eval Y 69 74 (.bool (decide (x < y))) (.bool (x == y)) (some 75) t10 p10 f10 (by rw [k9 69 (by decide), k8 69 (by decide), k7 69 (by decide), k6 69 (by decide), k5 69 (by decide), q4]) (by rw [q9]) rfl) (ordi_any x y Y) ?_
  intro c sc dc qc kc
  refine h c sc (by rw [dc, d9, d8, d7, d6, d5, d4, d3, d2, d1, d0]) (fun j hj => ?_) qc
  rw [kc j (by omega), k9 j (by omega), k8 j (by omega), k7 j (by omega), k6 j (by omega), k5 j (by omega), k4 j (by omega), k3 j (by omega), k2 j (by omega), k1 j (by omega), k0 j (by omega)]
set_option maxRecDepth 20000 in
set_option maxHeartbeats 1000000 in
theorem ck_st (Y : World) (OPS : Array Oper) (Q : Act → Prop) (rest : List Oper) (a : Act) (G : Nat) (hsz : a.tmps.size = 186) (e2 : a.eval (.tmp 2) = .pointer (some ⟨G, 0, none⟩)) (e3 : a.eval (.tmp 3) = .pointer (some ⟨G + 1, 0, none⟩)) (x y : Int)
    (hx : Y.cell? ⟨G, 6, none⟩ = some (.int .i64 x)) (hy : Y.cell? ⟨G + 1, 6, none⟩ = some (.int .i64 y)) (t0 t1 t2 t3 t4 t5 t6 t7 t8 t9 t10 : TypeId) (p0 p1 p2 p3 p4 p5 p6 p7 p8 p9 p10 : String) (f0 f1 f2 f3 f4 f5 f6 f7 f8 f9 f10 : Array Edge)
    (h : ∀ a' : Act, a'.tmps.size = 186 → a'.defers = a.defers → (∀ j : Nat, j < 76 ∨ 86 < j → a'.eval (.tmp j) = a.eval (.tmp j)) → a'.eval (.tmp 86) = .int .i64 (compareInt x y) → wpStill Tryz.prog OPS Y Q rest a') :
    wpStill Tryz.prog OPS Y Q (({ dst := some 76, op := .fieldAddr 34 (.tmp 2) 6, type := t0, pos := p0, after := f0, guard := none } : Oper) :: ({ dst := some 77, op := .load 3 (.tmp 76), type := t1, pos := p1, after := f1, guard := none } : Oper) :: ({ dst := some 78, op := .fieldAddr 34 (.tmp 3) 6, type := t2, pos := p2, after := f2, guard := none } : Oper) :: ({ dst := some 79, op := .load 3 (.tmp 78), type := t3, pos := p3, after := f3, guard := none } : Oper) :: ({ dst := some 80, op := .binOp .lss 3 (.tmp 77) (.tmp 79) 3, type := t4, pos := p4, after := f4, guard := none } : Oper) :: ({ dst := some 81, op := .fieldAddr 34 (.tmp 2) 6, type := t5, pos := p5, after := f5, guard := none } : Oper) :: ({ dst := some 82, op := .load 3 (.tmp 81), type := t6, pos := p6, after := f6, guard := none } : Oper) :: ({ dst := some 83, op := .fieldAddr 34 (.tmp 3) 6, type := t7, pos := p7, after := f7, guard := none } : Oper) :: ({ dst := some 84, op := .load 3 (.tmp 83), type := t8, pos := p8, after := f8, guard := none } : Oper) :: ({ dst := some 85, op := .binOp .eql 3 (.tmp 82) (.tmp 84) 3, type := t9, pos := p9, after := f9, guard := none } : Oper) :: ({ dst := some 86, op := .call { callee := .value (.func 56), args := #[.tmp 80, .tmp 85], argTypes := #[4, 4] }, type := t10, pos := p10, after := f10, guard := none } : Oper) :: rest) a := by
  refine st_op' (d := 76) (N := 186) (v := .pointer (some ⟨G, 6, none⟩)) rfl rfl hsz (by decide) (fa_6 a.eval Y 2 G (some 76) t0 p0 f0 (by rw [e2])) ?_
  intro b0 s0 d0 q0 k0
  refine st_op' (d := 77) (N := 186) (v := .int .i64 x) rfl rfl s0 (by decide) (ld_i b0.eval Y 76 ⟨G, 6, none⟩ (.int .i64 x) (some 77) t1 p1 f1 (by rw [q0]) hx) ?_
  intro b1 s1 d1 q1 k1
  refine st_op' (d := 78) (N := 186) (v := .pointer (some ⟨G + 1, 6, none⟩)) rfl rfl s1 (by decide) (fa_6 b1.eval Y 3 (G + 1) (some 78) t2 p2 f2 (by rw [k1 3 (by decide), k0 3 (by decide), e3])) ?_
  intro b2 s2 d2 q2 k2
  refine st_op' (d := 79) (N := 186) (v := .int .i64 y) rfl rfl s2 (by decide) (ld_i b2.eval Y 78 ⟨G + 1, 6, none⟩ (.int .i64 y) (some 79) t3 p3 f3 (by rw [q2]) hy) ?_
  intro b3 s3 d3 q3 k3
  refine st_op' (d := 80) (N := 186) (v := .bool (decide (x < y))) rfl rfl s3 (by decide) (lt_i b3.eval Y 77 79 x y (some 80) t4 p4 f4 (by rw [k3 77 (by decide), k2 77 (by decide), q1]) (by rw [q3])) ?_
  intro b4 s4 d4 q4 k4
  refine st_op' (d := 81) (N := 186) (v := .pointer (some ⟨G, 6, none⟩)) rfl rfl s4 (by decide) (fa_6 b4.eval Y 2 G (some 81) t5 p5 f5 (by rw [k4 2 (by decide), k3 2 (by decide), k2 2 (by decide), k1 2 (by decide), k0 2 (by decide), e2])) ?_
  intro b5 s5 d5 q5 k5
  refine st_op' (d := 82) (N := 186) (v := .int .i64 x) rfl rfl s5 (by decide) (ld_i b5.eval Y 81 ⟨G, 6, none⟩ (.int .i64 x) (some 82) t6 p6 f6 (by rw [q5]) hx) ?_
  intro b6 s6 d6 q6 k6
  refine st_op' (d := 83) (N := 186) (v := .pointer (some ⟨G + 1, 6, none⟩)) rfl rfl s6 (by decide) (fa_6 b6.eval Y 3 (G + 1) (some 83) t7 p7 f7 (by rw [k6 3 (by decide), k5 3 (by decide), k4 3 (by decide), k3 3 (by decide), k2 3 (by decide), k1 3 (by decide), k0 3 (by decide), e3])) ?_
  intro b7 s7 d7 q7 k7
  refine st_op' (d := 84) (N := 186) (v := .int .i64 y) rfl rfl s7 (by decide) (ld_i b7.eval Y 83 ⟨G + 1, 6, none⟩ (.int .i64 y) (some 84) t8 p8 f8 (by rw [q7]) hy) ?_
  intro b8 s8 d8 q8 k8
  refine st_op' (d := 85) (N := 186) (v := .bool (x == y)) rfl rfl s8 (by decide) (eq_i b8.eval Y 82 84 x y (some 85) t9 p9 f9 (by rw [k8 82 (by decide), k7 82 (by decide), q6]) (by rw [q8])) ?_
  intro b9 s9 d9 q9 k9
  refine st_call' (d := 86) (N := 186) (f := 56) (args := #[.bool (decide (x < y)), .bool (x == y)]) rfl rfl s9 (by decide) (ca_o b9.eval Y 80 85 (.bool (decide (x < y))) (.bool (x == y)) (some 86) t10 p10 f10 (by rw [k9 80 (by decide), k8 80 (by decide), k7 80 (by decide), k6 80 (by decide), k5 80 (by decide), q4]) (by rw [q9]) rfl) (ordi_any x y Y) ?_
  intro c sc dc qc kc
  refine h c sc (by rw [dc, d9, d8, d7, d6, d5, d4, d3, d2, d1, d0]) (fun j hj => ?_) qc
  rw [kc j (by omega), k9 j (by omega), k8 j (by omega), k7 j (by omega), k6 j (by omega), k5 j (by omega), k4 j (by omega), k3 j (by omega), k2 j (by omega), k1 j (by omega), k0 j (by omega)]
set_option maxRecDepth 20000 in
set_option maxHeartbeats 1000000 in
theorem ck_t0 (Y : World) (OPS : Array Oper) (Q : Act → Prop) (rest : List Oper) (a : Act) (G : Nat) (hsz : a.tmps.size = 186) (e2 : a.eval (.tmp 2) = .pointer (some ⟨G, 0, none⟩)) (e3 : a.eval (.tmp 3) = .pointer (some ⟨G + 1, 0, none⟩)) (x y : Int)
    (hx : Y.cell? ⟨G, 7, none⟩ = some (.int .u64 x)) (hy : Y.cell? ⟨G + 1, 7, none⟩ = some (.int .u64 y)) (t0 t1 t2 t3 t4 t5 t6 t7 t8 t9 t10 : TypeId) (p0 p1 p2 p3 p4 p5 p6 p7 p8 p9 p10 : String) (f0 f1 f2 f3 f4 f5 f6 f7 f8 f9 f10 : Array Edge)
    (h : ∀ a' : Act, a'.tmps.size = 186 → a'.defers = a.defers → (∀ j : Nat, j < 87 ∨ 97 < j → a'.eval (.tmp j) = a.eval (.tmp j)) → a'.eval (.tmp 97) = .int .i64 (compareInt x y) → wpStill Tryz.prog OPS Y Q rest a') :
    wpStill Tryz.prog OPS Y Q (({ dst := some 87, op := .fieldAddr 34 (.tmp 2) 7, type := t0, pos := p0, after := f0, guard := none } : Oper) :: ({ dst := some 88, op := .load 22 (.tmp 87), type := t1, pos := p1, after := f1, guard := none } : Oper) :: ({ dst := some 89, op := .fieldAddr 34 (.tmp 3) 7, type := t2, pos := p2, after := f2, guard := none } : Oper) :: ({ dst := some 90, op := .load 22 (.tmp 89), type := t3, pos := p3, after := f3, guard := none } : Oper) :: ({ dst := some 91, op := .binOp .lss 22 (.tmp 88) (.tmp 90) 22, type := t4, pos := p4, after := f4, guard := none } : Oper) :: ({ dst := some 92, op := .fieldAddr 34 (.tmp 2) 7, type := t5, pos := p5, after := f5, guard := none } : Oper) :: ({ dst := some 93, op := .load 22 (.tmp 92), type := t6, pos := p6, after := f6, guard := none } : Oper) :: ({ dst := some 94, op := .fieldAddr 34 (.tmp 3) 7, type := t7, pos := p7, after := f7, guard := none } : Oper) :: ({ dst := some 95, op := .load 22 (.tmp 94), type := t8, pos := p8, after := f8, guard := none } : Oper) :: ({ dst := some 96, op := .binOp .eql 22 (.tmp 93) (.tmp 95) 22, type := t9, pos := p9, after := f9, guard := none } : Oper) :: ({ dst := some 97, op := .call { callee := .value (.func 56), args := #[.tmp 91, .tmp 96], argTypes := #[4, 4] }, type := t10, pos := p10, after := f10, guard := none } : Oper) :: rest) a := by
  refine st_op' (d := 87) (N := 186) (v := .pointer (some ⟨G, 7, none⟩)) rfl rfl hsz (by decide) (fa_7 a.eval Y 2 G (some 87) t0 p0 f0 (by rw [e2])) ?_
  intro b0 s0 d0 q0 k0
  refine st_op' (d := 88) (N := 186) (v := .int .u64 x) rfl rfl s0 (by decide) (ld_u b0.eval Y 87 ⟨G, 7, none⟩ (.int .u64 x) (some 88) t1 p1 f1 (by rw [q0]) hx) ?_
  intro b1 s1 d1 q1 k1
  refine st_op' (d := 89) (N := 186) (v := .pointer (some ⟨G + 1, 7, none⟩)) rfl rfl s1 (by decide) (fa_7 b1.eval Y 3 (G + 1) (some 89) t2 p2 f2 (by rw [k1 3 (by decide), k0 3 (by decide), e3])) ?_
  intro b2 s2 d2 q2 k2
  refine st_op' (d := 90) (N := 186) (v := .int .u64 y) rfl rfl s2 (by decide) (ld_u b2.eval Y 89 ⟨G + 1, 7, none⟩ (.int .u64 y) (some 90) t3 p3 f3 (by rw [q2]) hy) ?_
  intro b3 s3 d3 q3 k3
  refine st_op' (d := 91) (N := 186) (v := .bool (decide (x < y))) rfl rfl s3 (by decide) (lt_u b3.eval Y 88 90 x y (some 91) t4 p4 f4 (by rw [k3 88 (by decide), k2 88 (by decide), q1]) (by rw [q3])) ?_
  intro b4 s4 d4 q4 k4
  refine st_op' (d := 92) (N := 186) (v := .pointer (some ⟨G, 7, none⟩)) rfl rfl s4 (by decide) (fa_7 b4.eval Y 2 G (some 92) t5 p5 f5 (by rw [k4 2 (by decide), k3 2 (by decide), k2 2 (by decide), k1 2 (by decide), k0 2 (by decide), e2])) ?_
  intro b5 s5 d5 q5 k5
  refine st_op' (d := 93) (N := 186) (v := .int .u64 x) rfl rfl s5 (by decide) (ld_u b5.eval Y 92 ⟨G, 7, none⟩ (.int .u64 x) (some 93) t6 p6 f6 (by rw [q5]) hx) ?_
  intro b6 s6 d6 q6 k6
  refine st_op' (d := 94) (N := 186) (v := .pointer (some ⟨G + 1, 7, none⟩)) rfl rfl s6 (by decide) (fa_7 b6.eval Y 3 (G + 1) (some 94) t7 p7 f7 (by rw [k6 3 (by decide), k5 3 (by decide), k4 3 (by decide), k3 3 (by decide), k2 3 (by decide), k1 3 (by decide), k0 3 (by decide), e3])) ?_
  intro b7 s7 d7 q7 k7
  refine st_op' (d := 95) (N := 186) (v := .int .u64 y) rfl rfl s7 (by decide) (ld_u b7.eval Y 94 ⟨G + 1, 7, none⟩ (.int .u64 y) (some 95) t8 p8 f8 (by rw [q7]) hy) ?_
  intro b8 s8 d8 q8 k8
  refine st_op' (d := 96) (N := 186) (v := .bool (x == y)) rfl rfl s8 (by decide) (eq_u b8.eval Y 93 95 x y (some 96) t9 p9 f9 (by rw [k8 93 (by decide), k7 93 (by decide), q6]) (by rw [q8])) ?_
  intro b9 s9 d9 q9 k9
  refine st_call' (d := 97) (N := 186) (f := 56) (args := #[.bool (decide (x < y)), .bool (x == y)]) rfl rfl s9 (by decide) (ca_o b9.eval Y 91 96 (.bool (decide (x < y))) (.bool (x == y)) (some 97) t10 p10 f10 (by rw [k9 91 (by decide), k8 91 (by decide), k7 91 (by decide), k6 91 (by decide), k5 91 (by decide), q4]) (by rw [q9]) rfl) (ordi_any x y Y) ?_
  intro c sc dc qc kc
  refine h c sc (by rw [dc, d9, d8, d7, d6, d5, d4, d3, d2, d1, d0]) (fun j hj => ?_) qc
  rw [kc j (by omega), k9 j (by omega), k8 j (by omega), k7 j (by omega), k6 j (by omega), k5 j (by omega), k4 j (by omega), k3 j (by omega), k2 j (by omega), k1 j (by omega), k0 j (by omega)]
set_option maxRecDepth 20000 in
set_option maxHeartbeats 1000000 in
theorem ck_t1 (Y : World) (OPS : Array Oper) (Q : Act → Prop) (rest : List Oper) (a : Act) (G : Nat) (hsz : a.tmps.size = 186) (e2 : a.eval (.tmp 2) = .pointer (some ⟨G, 0, none⟩)) (e3 : a.eval (.tmp 3) = .pointer (some ⟨G + 1, 0, none⟩)) (x y : Int)
    (hx : Y.cell? ⟨G, 8, none⟩ = some (.int .u64 x)) (hy : Y.cell? ⟨G + 1, 8, none⟩ = some (.int .u64 y)) (t0 t1 t2 t3 t4 t5 t6 t7 t8 t9 t10 : TypeId) (p0 p1 p2 p3 p4 p5 p6 p7 p8 p9 p10 : String) (f0 f1 f2 f3 f4 f5 f6 f7 f8 f9 f10 : Array Edge)
    (h : ∀ a' : Act, a'.tmps.size = 186 → a'.defers = a.defers → (∀ j : Nat, j < 98 ∨ 108 < j → a'.eval (.tmp j) = a.eval (.tmp j)) → a'.eval (.tmp 108) = .int .i64 (compareInt x y) → wpStill Tryz.prog OPS Y Q rest a') :
    wpStill Tryz.prog OPS Y Q (({ dst := some 98, op := .fieldAddr 34 (.tmp 2) 8, type := t0, pos := p0, after := f0, guard := none } : Oper) :: ({ dst := some 99, op := .load 22 (.tmp 98), type := t1, pos := p1, after := f1, guard := none } : Oper) :: ({ dst := some 100, op := .fieldAddr 34 (.tmp 3) 8, type := t2, pos := p2, after := f2, guard := none } : Oper) :: ({ dst := some 101, op := .load 22 (.tmp 100), type := t3, pos := p3, after := f3, guard := none } : Oper) :: ({ dst := some 102, op := .binOp .lss 22 (.tmp 99) (.tmp 101) 22, type := t4, pos := p4, after := f4, guard := none } : Oper) :: ({ dst := some 103, op := .fieldAddr 34 (.tmp 2) 8, type := t5, pos := p5, after := f5, guard := none } : Oper) :: ({ dst := some 104, op := .load 22 (.tmp 103), type := t6, pos := p6, after := f6, guard := none } : Oper) :: ({ dst := some 105, op := .fieldAddr 34 (.tmp 3) 8, type := t7, pos := p7, after := f7, guard := none } : Oper) :: ({ dst := some 106, op := .load 22 (.tmp 105), type := t8, pos := p8, after := f8, guard := none } : Oper) :: ({ dst := some 107, op := .binOp .eql 22 (.tmp 104) (.tmp 106) 22, type := t9, pos := p9, after := f9, guard := none } : Oper) :: ({ dst := some 108, op := .call { callee := .value (.func 56), args := #[.tmp 102, .tmp 107], argTypes := #[4, 4] }, type := t10, pos := p10, after := f10, guard := none } : Oper) :: rest) a := by
  refine st_op' (d := 98) (N := 186) (v := .pointer (some ⟨G, 8, none⟩)) rfl rfl hsz (by decide) (fa_8 a.eval Y 2 G (some 98) t0 p0 f0 (by rw [e2])) ?_
  intro b0 s0 d0 q0 k0
  refine st_op' (d := 99) (N := 186) (v := .int .u64 x) rfl rfl s0 (by decide) (ld_u b0.eval Y 98 ⟨G, 8, none⟩ (.int .u64 x) (some 99) t1 p1 f1 (by rw [q0]) hx) ?_
  intro b1 s1 d1 q1 k1
  refine st_op' (d := 100) (N := 186) (v := .pointer (some ⟨G + 1, 8, none⟩)) rfl rfl s1 (by decide) (fa_8 b1.eval Y 3 (G + 1) (some 100) t2 p2 f2 (by rw [k1 3 (by decide), k0 3 (by decide), e3])) ?_
  intro b2 s2 d2 q2 k2
  refine st_op' (d := 101) (N := 186) (v := .int .u64 y) rfl rfl s2 (by decide) (ld_u b2.eval Y 100 ⟨G + 1, 8, none⟩ (.int .u64 y) (some 101) t3 p3 f3 (by rw [q2]) hy) ?_
  intro b3 s3 d3 q3 k3
  refine st_op' (d := 102) (N := 186) (v := .bool (decide (x < y))) rfl rfl s3 (by decide) (lt_u b3.eval Y 99 101 x y (some 102) t4 p4 f4 (by rw [k3 99 (by decide), k2 99 (by decide), q1]) (by rw [q3])) ?_
  intro b4 s4 d4 q4 k4
  refine st_op' (d := 103) (N := 186) (v := .pointer (some ⟨G, 8, none⟩)) rfl rfl s4 (by decide) (fa_8 b4.eval Y 2 G (some 103) t5 p5 f5 (by rw [k4 2 (by decide), k3 2 (by decide), k2 2 (by decide), k1 2 (by decide), k0 2 (by decide), e2])) ?_
  intro b5 s5 d5 q5 k5
  refine st_op' (d := 104) (N := 186) (v := .int .u64 x) rfl rfl s5 (by decide) (ld_u b5.eval Y 103 ⟨G, 8, none⟩ (.int .u64 x) (some 104) t6 p6 f6 (by rw [q5]) hx) ?_
  intro b6 s6 d6 q6 k6
  refine st_op' (d := 105) (N := 186) (v := .pointer (some ⟨G + 1, 8, none⟩)) rfl rfl s6 (by decide) (fa_8 b6.eval Y 3 (G + 1) (some 105) t7 p7 f7 (by rw [k6 3 (by decide), k5 3 (by decide), k4 3 (by decide), k3 3 (by decide), k2 3 (by decide), k1 3 (by decide), k0 3 (by decide), e3])) ?_
  intro b7 s7 d7 q7 k7
  refine st_op' (d := 106) (N := 186) (v := .int .u64 y) rfl rfl s7 (by decide) (ld_u b7.eval Y 105 ⟨G + 1, 8, none⟩ (.int .u64 y) (some 106) t8 p8 f8 (by rw [q7]) hy) ?_
  intro b8 s8 d8 q8 k8
  refine st_op' (d := 107) (N := 186) (v := .bool (x == y)) rfl rfl s8 (by decide) (eq_u b8.eval Y 104 106 x y (some 107) t9 p9 f9 (by rw [k8 104 (by decide), k7 104 (by decide), q6]) (by rw [q8])) ?_
  intro b9 s9 d9 q9 k9
  refine st_call' (d := 108) (N := 186) (f := 56) (args := #[.bool (decide (x < y)), .bool (x == y)]) rfl rfl s9 (by decide) (ca_o b9.eval Y 102 107 (.bool (decide (x < y))) (.bool (x == y)) (some 108) t10 p10 f10 (by rw [k9 102 (by decide), k8 102 (by decide), k7 102 (by decide), k6 102 (by decide), k5 102 (by decide), q4]) (by rw [q9]) rfl) (ordi_any x y Y) ?_
  intro c sc dc qc kc
  refine h c sc (by rw [dc, d9, d8, d7, d6, d5, d4, d3, d2, d1, d0]) (fun j hj => ?_) qc
  rw [kc j (by omega), k9 j (by omega), k8 j (by omega), k7 j (by omega), k6 j (by omega), k5 j (by omega), k4 j (by omega), k3 j (by omega), k2 j (by omega), k1 j (by omega), k0 j (by omega)]
end Go.Proofs.YtdmibolbpgondaaGreat.P06
