/-
  The iterators: maps.Values; slices.AppendSeq and slices.Collect of spans.
-/
import Derived.Test.YtdmibolbpgondaaGreatKX15Size
import Derived.Test.YtdmibolbpgondaaGreatKB7Ten
set_option linter.unusedSimpArgs false
set_option linter.unusedVariables false
namespace Go.Proofs.YtdmibolbpgondaaGreat.X15
open Go.RowKit Go.Lib Go.Maps Go.Shelf Go.Proofs.YtdmibolbpgondaaGreat.Wd Go.Proofs.YtdmibolbpgondaaGreat.P06
open Go.Proofs.YtdmibolbpgondaaGreat.U12 (ik ik_inj ik_key law key_ok)
open Go.Proofs.YtdmibolbpgondaaGreat.B07 (Spn tenA ten ten_len ten_one span_info Rd.lit10)
attribute [local go_sem] Oper.semAt_some

abbrev sval (y : Spn) : Value := .agg (tenA y)
theorem sval_inj {x y : Spn} (h : sval x = sval y) (hl : x.l = y.l) : x = y := by
  obtain ⟨⟨a0, a1, a2, a3, a4, a5, a6, a7, a8⟩, A, c, l⟩ := x
  obtain ⟨⟨b0, b1, b2, b3, b4, b5, b6, b7, b8⟩, B, d, m⟩ := y
  dsimp only at hl
  subst hl
  simp only [sval, tenA, spc, Value.agg.injEq, Array.mk.injEq, List.cons.injEq, Value.int.injEq, Value.string.injEq, Value.slice.injEq, true_and, and_true] at h
  obtain ⟨rfl, rfl, rfl, rfl, rfl, rfl, rfl, rfl, rfl, rfl, rfl⟩ := h
  rfl
/-- all values have come -/
def AllV (f : Nat → Option Value) (ys : List Spn) : Prop := ∃ ks, AllK f ks ∧ ks.map f = ys.map fun y => some (sval y)
set_option maxRecDepth 100000 in
set_option maxHeartbeats 2000000 in
theorem vals1_in (F : Fence) (n : Nat) (hf : F.fn 78) (hro : F.round = none) (hn : 1 ≤ n) (l Bm b N : Nat) (f : Nat → Option Value) (hfv : ∀ i v, f i = some v → ∃ y : Spn, v = sval y) (J Jx : List Spn → World → Prop)
    (hY : ∀ pre x W, J pre W → pre.length < N → YieldAt F (n - 1) Tryz.prog l #[sval x] W fun e W' =>
      (e = .returned (.bool true) ∧ J (pre ++ [x]) W' ∧ KeepsWalks W W') ∨ (e = .returned (.bool false) ∧ Jx (pre ++ [x]) W'))
    (W : World) (hJ : AbidesFrom W.heap.size J) (hm : W.cell? ⟨Bm, 0, none⟩ = some (.map (some b))) (hmp : Mp W b f N) (h0 : J [] W) :
    CallsIn F n Tryz.prog 78 #[.func (.yield l) #[] #[], .pointer (some ⟨Bm, 0, none⟩)] W fun e W' => (∃ v, e = .returned v) ∧
      ((∃ ys, AllV f ys ∧ J ys W') ∨ (∃ pre, True ∧ Jx pre W')) := by
  obtain ⟨D0, hown, hD⟩ := hmp
  have hsz := hD.size
  refine callsIn_of_wp Tryz.func78 rfl hf ?_ hro
  simp only [Tryz.ntmps78, List.size_toArray, List.length_cons, List.length_nil, Nat.reduceAdd, Nat.reduceSub, Array.replicate_succ, Array.replicate_zero, List.push_toArray, List.append_toArray, List.nil_append, List.cons_append]
  gi_wp2_with (first
    | (gi_at_range; refine wpListIn_range_own _ rfl _ 98 rfl 22 45 law Tryz.underlying98 _ b N _ rfl hown ?_; intro w0 hrg0 hg0 hs0)
    | gi_in)
  go_frame
  gi_loopw [4] (fun _ wr => ∃ (left : Lit → Bool) (cnt : Nat) (ks : List Nat) (ys : List Spn), wr.ranges Tryz.prog 22 Hv b W.heap.size N D0 left cnt ∧ ys.length + cnt ≤ N ∧ Got D0 left ks ∧ ks.map f = ys.map (fun y => some (sval y)) ∧ J ys wr)
    (fun _ wr => wr.rangeLeft b W.heap.size)
  case atStart =>
    exact ⟨_, _, [], [], hrg0, by simp [hsz], Got.start D0, rfl, hJ [] W w0 none h0 hg0 (fun r e => by cases e)⟩
  case round =>
    obtain ⟨left, cnt, ks, ys, hrg, hcs, hC, hV, hJs⟩ := hrel
    gi_wp2_with (first
      | (gi_at_next; refine wpListIn_next_ranges _ rfl _ rfl 22 law Hv encU id (fun key kl hk => by obtain ⟨x, hx, _⟩ := key_inv hk; exact ⟨x, hx⟩) (fun v _ _ => ⟨v, rfl⟩) b W.heap.size N _ _ _ rfl hrg ?_ ?_)
      | gi_in)
    · intro hc0 hl0
      gi_wp2
      go_end0
      exact ⟨⟨_, rfl⟩, .inl ⟨ys, ⟨ks, ⟨hC.1, fun x => by rw [hC.2 x, hl0, hD.has]; simp⟩, hV⟩, hJs⟩⟩
    · intro x c kl yd yp w2 cnt2 hkey hlk hv hat hrg2 hlt hg2 hs2 hen
      obtain ⟨x', ex, rfl, _⟩ := key_inv hkey
      obtain rfl : x = x' := by have e := (Value.int.inj ex).2; omega
      have hfx : f x = some c := by
        have e1 : DataW.held c = yd := congrArg Prod.fst (Option.some.inj hv)
        cases e2 : f x with
        | none =>
          have := Maps.has_true_of_atKey hat
          rw [hD.has, e2] at this
          cases this
        | some u =>
          have := hD.at_ x u e2 (.held c)
          rw [hat, ← e1] at this
          cases this
          rfl
      obtain ⟨y, rfl⟩ := hfv x c hfx
      have hJ2 : J ys w2 := hJ ys wr w2 (some W.heap.size) hJs hg2 (fun r e => by cases e; exact ⟨Nat.le_refl _, hrg.iter_walk⟩)
      have hJ3 : J ys (w2.alloc (.cells (tenA y) 45)) := hJ ys w2 _ none hJ2 (World.grownBy_alloc _ _ _) (fun r e => by cases e)
      have hrg4 := hrg2.of_walks (KeepsWalks.alloc w2 (.cells (tenA y) 45))
      obtain ⟨fn, tmps, assign, body, hy, hR⟩ := hY ys y _ hJ3 (by omega)
      clear hs2
      gi_wp2
      refine hR.mono ?_
      have hC2 := hC.step hlk hat
      have hV2 : (ks ++ [x]).map f = (ys ++ [y]).map fun y => some (sval y) := by rw [List.map_append, List.map_append, hV]; simp [hfx]
      rintro e W3 (⟨rfl, hJ5, hk3⟩ | ⟨rfl, hJx3⟩)
      · gi_wp2
        have hrg3 := hrg4.of_walks hk3
        go_roundw
        case rel => exact ⟨_, cnt2, ks ++ [x], ys ++ [y], hrg3, by simp; omega, hC2, hV2, hJ5⟩
        case measure => rw [hrg3.left_eq, hrg.left_eq]; exact hlt
      · gi_wp2
        refine bodyPost_ret (results_none rfl _ _ _) rfl ?_
        exact ⟨⟨_, rfl⟩, .inr ⟨ys ++ [y], trivial, hJx3⟩⟩
theorem vals_stops (F : Fence) (n : Nat) (hf : F.fn 78) (hro : F.round = none) (hn : 1 ≤ n) (Bm b N : Nat) (f : Nat → Option Value) (hfv : ∀ i v, f i = some v → ∃ y : Spn, v = sval y) (w : World) (hBm : Bm < w.heap.size)
    (hm : w.cell? ⟨Bm, 0, none⟩ = some (.map (some b))) (hmp : Mp w b f N) :
    SeqStops F n Tryz.prog 78 #[.pointer (some ⟨Bm, 0, none⟩)] sval (AllV f) (fun _ => True) N w := fun l J Jx W hW hJ _ hY h0 =>
  vals1_in F n hf hro hn l Bm b N f hfv J Jx hY W hJ ((hW.cell (p := ⟨Bm, 0, none⟩) hBm).trans hm) (hmp.below hW) h0
set_option maxHeartbeats 1000000 in
/-- maps.Values -/
theorem vals_in (F : Fence) (n : Nat) (hf : F.fn 59) (hro : F.round = none) (mb : Option Nat) (w : World) :
    CallsIn F n Tryz.prog 59 #[.map mb] w fun e w' => e = .returned (.func (.func 78) #[] #[.pointer (some ⟨w.heap.size, 0, none⟩)]) ∧ w' = w.alloc (.cells #[.map mb] 98) := by
  refine callsIn_of_wp Tryz.func59 rfl hf ?_ hro
  simp only [Tryz.ntmps59, List.size_toArray, List.length_cons, List.length_nil, Nat.reduceAdd, Nat.reduceSub, Array.replicate_succ, Array.replicate_zero, List.push_toArray, List.append_toArray, List.nil_append, List.cons_append]
  gi_wp2
  go_ret
  exact ⟨rfl, rfl⟩
/-- the loop's variable, in its block -/
def Axs (B : Nat) (w : World) (g : Nat) (lb : Array Value) (y : Spn) (a : Act) (W : World) : Prop :=
  ∃ Bx, B < Bx ∧ W.heap[Bx]? = some (.cells (tenA y) 45 (0, 0)) ∧ a = { tmps := #[.slice none 0 0, .func (.func g) #[] lb, .pointer (some ⟨B, 0, none⟩), undef, .slice none 0 0, .pointer (some ⟨Bx, 0, none⟩), .func (.func g) #[] lb, sval y, undef, undef, undef, undef, undef], defers := [] }
theorem box10 (W : World) (B : Nat) (y : Spn) (h : W.heap[B]? = some (.cells (tenA y) 45 (0, 0))) : Bk W B 45 (tenA y) := h
set_option maxRecDepth 100000 in
set_option maxHeartbeats 4000000 in
/-- slices.AppendSeq, of spans -/
theorem apps_in (F : Fence) (n : Nat) (hf : F.fn 94) (hro : F.round = none) (hn : 2 ≤ n) (g : Nat) (lb : Array Value) (hFg : F.fn g) (eg : ∀ args w, (callFunc g args).run Tryz.prog w = .ok (.enter g args) w)
    (S Sp : List Spn → Prop) (N : Nat) (hN : N ≤ 1000000) (w : World) (hseq : SeqStops F (n - 1) Tryz.prog g lb sval S Sp N w) :
    CallsIn F n Tryz.prog 94 #[.slice none 0 0, .func (.func g) #[] lb] w fun e w' => ∃ (v : Value) (ys : List Spn), e = .returned v ∧ S ys ∧ w'.ownsRow w.heap.size 45 10 v ys.length (ys.flatMap ten) ∧ Below w.heap.size w w' := by
  have h1 : 1 ≤ n := by omega
  obtain ⟨i0, hi, hz0, hz1, hz2⟩ := info_parts span_info
  refine callsIn_of_wp_marks Tryz.func94 rfl hf ?_ hro
  simp only [Tryz.ntmps94, List.size_toArray, List.length_cons, List.length_nil, Nat.reduceAdd, Nat.reduceSub, Array.replicate_succ, Array.replicate_zero, List.push_toArray, List.append_toArray, List.nil_append, List.cons_append]
  gi_wp2
  refine wpIn_rangeFunc_ownH hro h1 (gf := g) (lb := lb) rfl hFg eg hseq walksK_t walksK_b ((Below.refl _ w).alloc (Nat.le_refl _) _) (fun _ => rfl)
    (fun pre W => (∃ v, Boxed W w.heap.size 38 v ∧ W.ownsRow w.heap.size 45 10 v pre.length (pre.flatMap ten) ∧ True) ∧ Below w.heap.size w W)
    (fun _ _ _ => False)
    (OwnFrom.and (Own.from (holdsRow_own w.heap.size w.heap.size 38 45 10 (fun pre : List Spn => pre.length) (fun pre => pre.flatMap ten) (fun _ _ => True)) _) (ownFrom_below (Nat.le_refl _) (by simp)))
    (fun _ _ _ _ _ hs _ _ => hs)
    ⟨⟨.slice none 0 0, Boxed.new w _ _, World.ownsRow_nil _ _ _ _, trivial⟩, (Below.refl _ w).alloc (Nat.le_refl _) _⟩
    (fun y a W => Axs w.heap.size w g lb y a W)
    (fun y a _ X Y row hs hg hr => by
      obtain ⟨Bx, h1, h2, h3⟩ := hs
      exact ⟨Bx, h1, (hg.block Bx (Array.getElem?_eq_some_iff.1 h2).1 (fun e => by obtain ⟨_, o, ho, hc⟩ := hr Bx e.symm; rw [h2] at ho; cases ho; cases hc)).trans h2, h3⟩) ?assign ?body ?done ?stop
  case assign =>
    rintro l pre y W K ⟨⟨v, hv, hrow, _⟩, hB⟩ hK
    gi_wp2
    refine hK _ _ ((KeepsOthers.alloc _ _).from _) (KeepsOthers.alloc _ _).walks ⟨⟨v, hv.alloc _, hrow.alloc _, trivial⟩, hB.alloc hB.size _⟩ ⟨W.heap.size, hv.lt, World.alloc_heap_new W _, rfl⟩
  case body =>
    rintro l pre y a W hl ⟨r, hr⟩ ⟨⟨v, hv, hrow, _⟩, hB⟩ ⟨Bx, hBx, hbx, rfl⟩ hlt
    have hc := hv.cell
    have hfz := hv.frozen
    have hk : Bk W Bx 45 (tenA y) := hbx
    have hlit := Rd.lit10 W 45 y
    have hcl : ∀ j u, (ten y)[j]? = some u → (W.alloc (.cells (tenA y) 45)).cell? ((⟨W.heap.size, 0, none⟩ : Addr).add j) = some u := fun j u hu => hlit.at_ _ rfl j u hu
    have x0 : W.cell? ⟨Bx, 0, none⟩ = some (.int .u64 y.s.T) := hk.cell 0
    have x1 : W.cell? ⟨Bx, 1, none⟩ = some (.int .u64 y.s.I) := hk.cell 1
    have x2 : W.cell? ⟨Bx, 2, none⟩ = some (.int .u64 y.s.P) := hk.cell 2
    have x3 : W.cell? ⟨Bx, 3, none⟩ = some (.string y.s.sv) := hk.cell 3
    have x4 : W.cell? ⟨Bx, 4, none⟩ = some (.string y.s.nm) := hk.cell 4
    have x5 : W.cell? ⟨Bx, 5, none⟩ = some (.int .i64 y.s.kd) := hk.cell 5
    have x6 : W.cell? ⟨Bx, 6, none⟩ = some (.int .i64 y.s.st) := hk.cell 6
    have x7 : W.cell? ⟨Bx, 7, none⟩ = some (.int .u64 y.s.t0) := hk.cell 7
    have x8 : W.cell? ⟨Bx, 8, none⟩ = some (.int .u64 y.s.t1) := hk.cell 8
    have x9 : W.cell? ⟨Bx, 9, none⟩ = some (.slice y.A y.l.length y.c) := hk.cell 9
    gi_wp2_with (first
      | (gi_at_builtin; refine wpListIn_append_own _ rfl _ _ 38 rfl w.heap.size 45 i0 _ 10 112 Tryz.underlying38 hi hz0 hz1 hz2 rfl (by decide) _ _ _ rfl (hrow.alloc _) ⟨W.heap.size, 0, none⟩ 1 1 (ten y) rfl rfl hcl (ten_one y) (by unfold maxLen; omega) (by omega) (by have := hB.size; simp; omega) ?_; intro v' w1 hown' hgrow _; obtain ⟨g', cap', rfl⟩ := ownsRow_succ hown'; obtain ⟨hv1, hv2, hr2, hk2, hb2⟩ := hv.appended (by decide) hrow hB.size (Nat.le_refl _) hown' hgrow; have hc1 := hv1.cell; have hf1 := hv1.frozen)
      | gi_in)
    exact ⟨hk2.from _, hk2.walks, ⟨⟨_, hv2, by simpa using hr2, trivial⟩, hB.trans hb2⟩⟩
  case done =>
    rintro D ks W hD hS ⟨⟨v, hv, hrow, _⟩, hB⟩ hK
    have hc := hv.cell
    gi_wp2
    refine ⟨by simp, .inl ⟨_, _, rfl, run_takeDeferred hK, ?_⟩⟩
    refine ⟨_, results_tmp rfl _ _ _, v, ks, rfl, hS, ownsRow_putObj hrow _ hK rfl, hB.trans (belowK_b (w := w) (Nat.le_refl _) W D _ _ (by simp at hD; omega) hK rfl rfl)⟩
  case stop =>
    rintro D c pre W hD _ h _
    exact h.elim
set_option maxHeartbeats 1000000 in
/-- slices.Collect, of spans -/
theorem cols_in (F : Fence) (n : Nat) (hf : F.fn 76) (hf2 : F.fn 94) (hro : F.round = none) (hn : 3 ≤ n) (g : Nat) (lb : Array Value) (hFg : F.fn g) (eg : ∀ args w, (callFunc g args).run Tryz.prog w = .ok (.enter g args) w)
    (S Sp : List Spn → Prop) (N : Nat) (hN : N ≤ 1000000) (w : World) (hseq : SeqStops F (n - 1 - 1) Tryz.prog g lb sval S Sp N w) :
    CallsIn F n Tryz.prog 76 #[.func (.func g) #[] lb] w fun e w' => ∃ (v : Value) (ys : List Spn), e = .returned v ∧ S ys ∧ w'.ownsRow w.heap.size 45 10 v ys.length (ys.flatMap ten) ∧ Below w.heap.size w w' := by
  have h1 : 1 ≤ n := by omega
  refine callsIn_of_wp Tryz.func76 rfl hf ?_ hro
  simp only [Tryz.ntmps76, List.size_toArray, List.length_cons, List.length_nil, Nat.reduceAdd, Nat.reduceSub, Array.replicate_succ, Array.replicate_zero, List.push_toArray, List.append_toArray, List.nil_append, List.cons_append]
  gi_wp2_with (gi_at_call 94; refine (apps_in F (n - 1) hf2 hro (by omega) g lb hFg eg S Sp N hN _ hseq).mono ?_; rintro e w' ⟨v, ks, rfl, hS, hrow, hb⟩)
  go_ret
  exact ⟨v, ks, rfl, hS, hrow, hb⟩
end Go.Proofs.YtdmibolbpgondaaGreat.X15
