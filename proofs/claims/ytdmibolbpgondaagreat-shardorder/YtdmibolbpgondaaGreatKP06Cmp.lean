/-
  The order of spans: span.Compare.
  span.Compare: slices.CompareFunc, compareFields, Compare.
-/
import Derived.Test.YtdmibolbpgondaaGreatKP06Span
import Derived.Deep.RegionHeld3
import Derived.Test.YtdmibolbpgondaaGreatKP06Of
import Derived.StillTailTactics
section
set_option linter.unusedSimpArgs false
set_option linter.unusedVariables false
namespace Go.Proofs.YtdmibolbpgondaaGreat.P06
open Go.Shelf Go.RowKit Go.Lib Go.Sort Go.Proofs.YtdmibolbpgondaaGreat.Wd Go.Proofs.YtdmibolbpgondaaGreat.V04

theorem nanu_any (x : Int) (w : World) : Calls Tryz.prog 107 #[.int .u64 x] w fun e w' => e = .returned (.bool false) ∧ w = w' := by
  go_enter Tryz.func107, Tryz.ntmps107
  go_wp2
  go_ret
  exact ⟨ret_bool (by simp), rfl⟩
theorem compu_any (x y : Int) (w : World) : Calls Tryz.prog 83 #[.int .u64 x, .int .u64 y] w fun e w' => e = .returned (.int .i64 (compareInt x y)) ∧ w' = w := by
  go_enter Tryz.func83, Tryz.ntmps83
  go_wp2_with (go_at_call 107; refine (nanu_any _ _).mono ?_; rintro e w' ⟨rfl, rfl⟩)
  all_goals (go_ret; refine ⟨?_, rfl⟩; unfold compareInt; (repeat' split) <;> first | rfl | (exfalso; omega))

/-- the first that is not 0 -/
def orL : List Int → Int
  | [] => 0
  | x :: l => if x ≠ 0 then x else orL l
theorem orL_app (l m : List Int) : orL (l ++ m) = if orL l ≠ 0 then orL l else orL m := by
  induction l with
  | nil => simp [orL]
  | cons x l ih =>
    by_cases hx : x = 0
    · simp [orL, hx, ih]
    · simp [orL, hx]
set_option maxRecDepth 20000 in
/-- cmp.Or over a row of numbers -/
theorem orl_any (l : List Int) (g : Nat) (t : TypeId) (w : World) (h : ∀ j (hj : j < l.length), w.cell? ⟨g, j, none⟩ = some (.int .i64 l[j])) (hm : l.length ≤ 4611686018427387904) :
    Calls Tryz.prog 82 #[.slice (some ⟨g, 0, none⟩) l.length l.length] w fun e w' => e = .returned (.int .i64 (orL l)) ∧ w' = w := by
  obtain ⟨n, hn⟩ : ∃ n, l.length = n := ⟨_, rfl⟩
  have HN := Lib.hid hn
  obtain ⟨r, hr⟩ : ∃ r, orL l = r := ⟨_, rfl⟩
  have HR := Lib.hid hr
  have HH := Lib.hid h
  rw [hn] at hm ⊢
  rw [hr]
  clear hn hr h
  go_enter Tryz.func82, Tryz.ntmps82
  go_wp2
  go_loopw [8] (fun v wr => ∃ k : Nat, v = .int .i64 k ∧ k ≤ n ∧ wr = w ∧ Hid (orL (l.drop k) = r)) (fun v _ => n - (intOf v).toNat)
  case atStart => exact ⟨0, rfl, Nat.zero_le _, rfl, HR⟩
  case round =>
    obtain ⟨k, rfl, hk, rfl, HI⟩ := hrel
    by_cases hlt : k < n
    · have hltz : (k : Int) < (n : Int) := by omega
      have hkl : k < l.length := by rw [un HN]; exact hlt
      have hc := un HH k hkl
      have hI := un HI
      rw [List.drop_eq_getElem_cons hkl] at hI
      unfold orL at hI
      have HJ := Lib.hid hI
      clear hI HI
      generalize l[k] = x at *
      by_cases hx : x = 0
      · subst hx
        go_wp2
        go_roundw
        case rel => exact ⟨k + 1, by go_num, by omega, by first | rfl | trivial, Lib.hid (by have := un HJ; simpa using this)⟩
        case measure => simp [intOf]; omega
      · have hb : (x == 0) = false := beq_false_of_ne hx
        go_wp2
        go_ret
        refine ⟨?_, by first | rfl | trivial⟩
        rw [← un HJ, if_pos hx]
        rfl
    · have hltz : ¬ ((k : Int) < (n : Int)) := by omega
      go_wp2
      go_ret
      refine ⟨?_, by first | rfl | trivial⟩
      rw [← un HI, List.drop_of_length_le (by rw [un HN]; omega)]
      rfl

/-- two attributes' boxes, one behind the other -/
def Two (W : World) (g : Nat) (x y : At) : Prop :=
  W.cell? ⟨g, 0, none⟩ = some (.string x.key) ∧ W.cell? ⟨g, 1, none⟩ = some (.int .i64 x.K) ∧ W.cell? ⟨g, 2, none⟩ = some (.int .i64 x.N) ∧ W.cell? ⟨g, 3, none⟩ = some (.string x.S) ∧
  W.cell? ⟨g + 1, 0, none⟩ = some (.string y.key) ∧ W.cell? ⟨g + 1, 1, none⟩ = some (.int .i64 y.K) ∧ W.cell? ⟨g + 1, 2, none⟩ = some (.int .i64 y.N) ∧ W.cell? ⟨g + 1, 3, none⟩ = some (.string y.S)
theorem Two.below {W W' : World} {g : Nat} {x y : At} (h : Two W g x y) (hb : Below W.heap.size W W') : Two W' g x y := by
  have k : ∀ (p : Addr) (v : Value), W.cell? p = some v → W'.cell? p = some v := fun p v h => by rw [hb.cell (World.block_lt_of_cell? _ _ h)]; exact h
  obtain ⟨h1, h2, h3, h4, h5, h6, h7, h8⟩ := h
  exact ⟨k _ _ h1, k _ _ h2, k _ _ h3, k _ _ h4, k _ _ h5, k _ _ h6, k _ _ h7, k _ _ h8⟩
abbrev abox (t : TypeId) (x : At) : Obj := .cells #[.string x.key, .int .i64 x.K, .int .i64 x.N, .string x.S] t
theorem Two.new (w : World) (t : TypeId) (x y : At) : Two ((w.alloc (abox t x)).alloc (abox t y)) w.heap.size x y := by
  unfold Two
  simp
/-- of two attributes -/
def cmpA (x y : At) : Int := orL [cf x y, cmpV x.K x.N x.S y.K y.N y.S]
set_option maxRecDepth 20000 in
set_option maxHeartbeats 2000000 in
theorem cattrs_any (x y : At) (w : World) : Calls Tryz.prog 75 #[.agg #[.string x.key, .int .i64 x.K, .int .i64 x.N, .string x.S], .agg #[.string y.key, .int .i64 y.K, .int .i64 y.N, .string y.S]] w fun e w' => e = .returned (.int .i64 (cmpA x y)) ∧ Below w.heap.size w w' := by
  go_enter Tryz.func75, Tryz.ntmps75
  go_wp2
  have T0 : Two ((w.alloc (abox 86 x)).alloc (abox 86 y)).drew w.heap.size x y := Two.new w _ x y
  have b0 : Below w.heap.size w ((w.alloc (abox 86 x)).alloc (abox 86 y)).drew := by go_grown
  generalize hX : (w.alloc (abox 86 x)).alloc (abox 86 y) = X at *
  have HV : Hid (cmpA x y = orL [cf x y, cmpV x.K x.N x.S y.K y.N y.S]) := rfl
  have hc1 : ∀ W, Calls Tryz.prog 91 #[.string x.key, .string y.key] W fun e w' => e = .returned (.int .i64 (cf x y)) ∧ w' = W := fun W => Tryz.s_compare x.key y.key W
  have hc2 : ∀ W, Calls Tryz.prog 93 #[vl x.K x.N x.S, vl y.K y.N y.S] W fun e w' => e = .returned (.int .i64 (cmpV x.K x.N x.S y.K y.N y.S)) ∧ Below W.heap.size W w' := fun W => compare_any _ _ _ _ _ _ W
  generalize cf x y = c1 at *
  generalize cmpV x.K x.N x.S y.K y.N y.S = c2 at *
  have hc3 : ∀ W : World, Calls Tryz.prog 82 #[.slice (some ⟨W.heap.size, 0, none⟩) 2 2] (W.alloc (.cells #[.int .i64 c1, .int .i64 c2] 3)) fun e w' => e = .returned (.int .i64 (orL [c1, c2])) ∧ w' = W.alloc (.cells #[.int .i64 c1, .int .i64 c2] 3) := fun W =>
    orl_any [c1, c2] W.heap.size 3 _ (fun j hj => by
      match j, hj with
      | 0, _ => simp
      | 1, _ => simp) (by simp)
  clear hX
  go_region_held3 (fun w' => w'.cell? ⟨w.heap.size, 0, none⟩ = some (.string x.key) ∧ w'.cell? ⟨w.heap.size, 1, none⟩ = some (.int .i64 x.K) ∧ w'.cell? ⟨w.heap.size, 2, none⟩ = some (.int .i64 x.N) ∧ w'.cell? ⟨w.heap.size, 3, none⟩ = some (.string x.S) ∧ w'.cell? ⟨w.heap.size + 1, 0, none⟩ = some (.string y.key) ∧ w'.cell? ⟨w.heap.size + 1, 1, none⟩ = some (.int .i64 y.K) ∧ w'.cell? ⟨w.heap.size + 1, 2, none⟩ = some (.int .i64 y.N) ∧ w'.cell? ⟨w.heap.size + 1, 3, none⟩ = some (.string y.S))
    (first | exact T2 | exact T2.below (below_box _ _ (Nat.le_refl _)) | exact T0 | go_keep)
    (first
      | (go_at_call 91; (with_reducible refine (hc1 _).mono ?_); rintro e w1 ⟨rfl, rfl⟩)
      | (go_at_call 93; (with_reducible refine (hc2 _).mono ?_); rintro e w2 ⟨rfl, hb2⟩; have T2 := T0.below hb2; have b2 := b0.trans (hb2.mono b0.size))
      | (go_at_call 82; (with_reducible refine (hc3 w2).mono ?_); rintro e w3 ⟨rfl, rfl⟩))
  all_goals go_wp2
  all_goals go_ret
  all_goals (refine ⟨?_, b2.alloc b2.size _⟩; rw [un HV]; rfl)
end Go.Proofs.YtdmibolbpgondaaGreat.P06
end

section
set_option linter.unusedSimpArgs false
set_option linter.unusedVariables false
namespace Go.Proofs.YtdmibolbpgondaaGreat.P06
open Go.Shelf Go.RowKit Go.Lib Go.Sort Go.Proofs.YtdmibolbpgondaaGreat.Wd Go.Proofs.YtdmibolbpgondaaGreat.V04

/-- of two lists -/
def cmpL : List At → List At → Int
  | [], [] => 0
  | [], _ :: _ => -1
  | _ :: _, [] => 1
  | x :: l, y :: m => if cmpA x y ≠ 0 then cmpA x y else cmpL l m

set_option maxRecDepth 20000 in
set_option maxHeartbeats 4000000 in
theorem cfunc_any (A1 A2 : Option Addr) (c1 c2 : Nat) (l1 l2 : List At) (w : World) (h1 : Hd 0 w A1 c1 l1) (h2 : Hd 0 w A2 c2 l2) (z1 : l1.length ≤ 40) (z2 : l2.length ≤ 40) :
    Calls Tryz.prog 74 #[.slice A1 l1.length c1, .slice A2 l2.length c2, .func (.func 75) #[] #[]] w fun e w' => e = .returned (.int .i64 (cmpL l1 l2)) ∧ Below w.heap.size w w' := by
  obtain ⟨n, hn⟩ : ∃ n, l1.length = n := ⟨_, rfl⟩
  obtain ⟨m, hm⟩ : ∃ n, l2.length = n := ⟨_, rfl⟩
  have HN := Lib.hid hn
  have HM := Lib.hid hm
  obtain ⟨r, hr⟩ : ∃ r, cmpL l1 l2 = r := ⟨_, rfl⟩
  have HR : Hid (cmpL (l1.drop 0) (l2.drop 0) = r) := by rw [List.drop_zero, List.drop_zero]; exact hr
  rw [hn] at z1 ⊢
  rw [hm] at z2 ⊢
  rw [hr]
  clear hn hm hr
  go_enter Tryz.func74, Tryz.ntmps74
  go_wp2
  go_loopw [13] (fun v wr => ∃ k : Nat, v = .int .i64 k ∧ k ≤ n ∧ k ≤ m ∧ Below w.heap.size w wr ∧ Hid (cmpL (l1.drop k) (l2.drop k) = r)) (fun v _ => n - (intOf v).toNat)
  case atStart => exact ⟨0, rfl, Nat.zero_le _, Nat.zero_le _, Below.refl _ _, HR⟩
  case round =>
    obtain ⟨k, rfl, hk, hkm, hb, HI⟩ := hrel
    by_cases hlt : k < n
    · have hltz : (k : Int) < (n : Int) := by omega
      have hk1 : k < l1.length := by rw [un HN]; exact hlt
      obtain ⟨g1, rfl, _, hg1, F⟩ := (h1.below hb).get hk1
      have f0 := F.c0
      have f1 := F.c1
      have f2 := F.c2
      have f3 := F.c3
      by_cases hlt2 : k < m
      · have hltz2 : ¬ ((m : Int) ≤ (k : Int)) := by omega
        have hltz3 : (k : Int) < (m : Int) := by omega
        have hk2 : k < l2.length := by rw [un HM]; exact hlt2
        obtain ⟨g2, rfl, _, hg2, F2⟩ := (h2.below hb).get hk2
        have d0 := F2.c0
        have d1 := F2.c1
        have d2 := F2.c2
        have d3 := F2.c3
        have hI := un HI
        rw [List.drop_eq_getElem_cons hk1, List.drop_eq_getElem_cons hk2] at hI
        unfold cmpL at hI
        have HJ := Lib.hid hI
        clear hI HI F F2
        generalize l1[k] = x at *
        generalize l2[k] = y at *
        have hne1 : ¬ g2 = wr.heap.size := by omega
        have hc := fun W => cattrs_any x y W
        generalize cmpA x y = q at *
        by_cases hq : q = 0
        · subst hq
          go_wp2_with fail
          refine (hc _).mono ?_
          rintro e w2 ⟨rfl, hb2⟩
          go_wp2
          go_roundw
          case rel => exact ⟨k + 1, by go_num, by omega, by omega, hb.trans (((below_box _ _ (Nat.le_refl _)).trans ((below_box _ _ (Nat.le_refl _)).mono (by simp))).trans (hb2.mono (by simp; omega)) |>.mono hb.size), Lib.hid (by have := un HJ; simpa using this)⟩
          case measure => simp [intOf]; omega
        · have hqb : (q == 0) = false := beq_false_of_ne hq
          go_wp2_with fail
          refine (hc _).mono ?_
          rintro e w2 ⟨rfl, hb2⟩
          go_wp2
          go_ret
          refine ⟨?_, hb.trans (((below_box _ _ (Nat.le_refl _)).trans ((below_box _ _ (Nat.le_refl _)).mono (by simp))).trans (hb2.mono (by simp; omega)) |>.mono hb.size)⟩
          rw [← un HJ, if_pos hq]
          rfl
      · have hltz2 : (m : Int) ≤ (k : Int) := by omega
        have hI := un HI
        have e2 : l2.drop k = [] := List.drop_of_length_le (by rw [un HM]; omega)
        rw [List.drop_eq_getElem_cons hk1, e2] at hI
        clear e2
        have HJ := Lib.hid hI
        clear hI HI F
        generalize l1[k] = x at *
        go_wp2
        go_ret
        refine ⟨?_, hb.trans ((below_box _ _ (Nat.le_refl _)).mono hb.size)⟩
        rw [← un HJ]
        rfl
    · have hltz : ¬ ((k : Int) < (n : Int)) := by omega
      have hI := un HI
      rw [List.drop_of_length_le (by rw [un HN]; omega)] at hI
      by_cases hnm : n < m
      · have hnmz : (n : Int) < (m : Int) := by omega
        rw [List.drop_eq_getElem_cons (by rw [un HM]; omega)] at hI
        have HJ := Lib.hid hI
        clear hI HI
        go_wp2
        go_ret
        refine ⟨?_, hb⟩
        rw [← un HJ]
        rfl
      · have hnmz : ¬ ((n : Int) < (m : Int)) := by omega
        rw [List.drop_of_length_le (by rw [un HM]; omega)] at hI
        have HJ := Lib.hid hI
        clear hI HI
        go_wp2
        go_ret
        refine ⟨?_, hb⟩
        rw [← un HJ]
        rfl

/-- of all but the attributes -/
def fieldsL (s t : Sp) : List Int := [compareInt s.T t.T, compareInt s.I t.I, compareInt s.P t.P, compareBytes s.sv.data.toList t.sv.data.toList, compareBytes s.nm.data.toList t.nm.data.toList, compareInt s.kd t.kd, compareInt s.st t.st, compareInt s.t0 t.t0, compareInt s.t1 t.t1]
set_option maxRecDepth 20000 in
set_option maxHeartbeats 4000000 in
theorem cfields_any (s t : Sp) (u v : Value) (w : World) : Calls Tryz.prog 73 #[spv s u, spv t v] w fun e w' => e = .returned (.int .i64 (orL (fieldsL s t))) ∧ Below w.heap.size w w' := by
  go_enter Tryz.func73, Tryz.ntmps73
  go_wp2
  have h1 := Bk.new w 45 (spc s u)
  have h2 : Bk (w.alloc (.cells (spc s u) 45) |>.alloc (.cells (spc t v) 45)).drew w.heap.size 45 (spc s u) := h1.below (below_box _ _ (Nat.le_refl _)).drew
  have h3 : Bk (w.alloc (.cells (spc s u) 45) |>.alloc (.cells (spc t v) 45)).drew (w.heap.size + 1) 45 (spc t v) := by
    have h4 := Bk.new (w.alloc (.cells (spc s u) 45)) 45 (spc t v)
    have e4 : (w.alloc (.cells (spc s u) 45)).heap.size = w.heap.size + 1 := by simp
    rw [e4] at h4
    exact h4
  have b0 : Below w.heap.size w (w.alloc (.cells (spc s u) 45) |>.alloc (.cells (spc t v) 45)).drew := by go_grown
  refine wp_region_still_tail 45 (by kernel_rfl) (by kernel_rfl) ?_
  change wpStill _ _ (w.alloc (.cells (spc s u) 45) |>.alloc (.cells (spc t v) 45)).drew (fun a' => wpList _ _ _ _ a' (w.alloc (.cells (spc s u) 45) |>.alloc (.cells (spc t v) 45)).drew) _ _
  generalize (w.alloc (.cells (spc s u) 45) |>.alloc (.cells (spc t v) 45)).drew = Y at *
  have x0 : Y.cell? ⟨w.heap.size, 0, none⟩ = some (.int .u64 s.T) := h2.cell 0
  have y0 : Y.cell? ⟨w.heap.size + 1, 0, none⟩ = some (.int .u64 t.T) := h3.cell 0
  have x1 : Y.cell? ⟨w.heap.size, 1, none⟩ = some (.int .u64 s.I) := h2.cell 1
  have y1 : Y.cell? ⟨w.heap.size + 1, 1, none⟩ = some (.int .u64 t.I) := h3.cell 1
  have x2 : Y.cell? ⟨w.heap.size, 2, none⟩ = some (.int .u64 s.P) := h2.cell 2
  have y2 : Y.cell? ⟨w.heap.size + 1, 2, none⟩ = some (.int .u64 t.P) := h3.cell 2
  have x3 : Y.cell? ⟨w.heap.size, 3, none⟩ = some (.string s.sv) := h2.cell 3
  have y3 : Y.cell? ⟨w.heap.size + 1, 3, none⟩ = some (.string t.sv) := h3.cell 3
  have x4 : Y.cell? ⟨w.heap.size, 4, none⟩ = some (.string s.nm) := h2.cell 4
  have y4 : Y.cell? ⟨w.heap.size + 1, 4, none⟩ = some (.string t.nm) := h3.cell 4
  have x5 : Y.cell? ⟨w.heap.size, 5, none⟩ = some (.int .i64 s.kd) := h2.cell 5
  have y5 : Y.cell? ⟨w.heap.size + 1, 5, none⟩ = some (.int .i64 t.kd) := h3.cell 5
  have x6 : Y.cell? ⟨w.heap.size, 6, none⟩ = some (.int .i64 s.st) := h2.cell 6
  have y6 : Y.cell? ⟨w.heap.size + 1, 6, none⟩ = some (.int .i64 t.st) := h3.cell 6
  have x7 : Y.cell? ⟨w.heap.size, 7, none⟩ = some (.int .u64 s.t0) := h2.cell 7
  have y7 : Y.cell? ⟨w.heap.size + 1, 7, none⟩ = some (.int .u64 t.t0) := h3.cell 7
  have x8 : Y.cell? ⟨w.heap.size, 8, none⟩ = some (.int .u64 s.t1) := h2.cell 8
  have y8 : Y.cell? ⟨w.heap.size + 1, 8, none⟩ = some (.int .u64 t.t1) := h3.cell 8
  clear h1 h2 h3
  simp only [List.take_succ_cons, List.take_zero, List.drop_succ_cons, List.drop_zero]
  still_step
  still_step
  still_step
  still_step
  still_call (compu_any s.T t.T _)
  still_step
  still_step
  still_step
  still_step
  still_call (compu_any s.I t.I _)
  still_step
  still_step
  still_step
  still_step
  still_call (compu_any s.P t.P _)
  still_step
  still_step
  still_step
  still_step
  still_call (Tryz.s_compare s.sv t.sv _)
  still_step
  still_step
  still_step
  still_step
  still_call (Tryz.s_compare s.nm t.nm _)
  still_step
  still_step
  still_step
  still_step
  still_call (Tryz.c_compare s.kd t.kd _)
  still_step
  still_step
  still_step
  still_step
  still_call (Tryz.c_compare s.st t.st _)
  still_step
  still_step
  still_step
  still_step
  still_call (compu_any s.t0 t.t0 _)
  still_step
  still_step
  still_step
  still_step
  still_call (compu_any s.t1 t.t1 _)
  refine wpStill_nil ?_
  have HV : Hid (orL [compareInt s.T t.T, compareInt s.I t.I, compareInt s.P t.P, compareBytes s.sv.data.toList t.sv.data.toList, compareBytes s.nm.data.toList t.nm.data.toList, compareInt s.kd t.kd, compareInt s.st t.st, compareInt s.t0 t.t0, compareInt s.t1 t.t1] = orL (fieldsL s t)) := rfl
  generalize compareInt s.T t.T = q0 at *
  generalize compareInt s.I t.I = q1 at *
  generalize compareInt s.P t.P = q2 at *
  generalize compareBytes s.sv.data.toList t.sv.data.toList = q3 at *
  generalize compareBytes s.nm.data.toList t.nm.data.toList = q4 at *
  generalize compareInt s.kd t.kd = q5 at *
  generalize compareInt s.st t.st = q6 at *
  generalize compareInt s.t0 t.t0 = q7 at *
  generalize compareInt s.t1 t.t1 = q8 at *
  have hor : Calls Tryz.prog 82 #[.slice (some ⟨Y.heap.size, 0, none⟩) 9 9] (Y.alloc (.cells #[.int .i64 q0, .int .i64 q1, .int .i64 q2, .int .i64 q3, .int .i64 q4, .int .i64 q5, .int .i64 q6, .int .i64 q7, .int .i64 q8] 3)) fun e w' => e = .returned (.int .i64 (orL [q0, q1, q2, q3, q4, q5, q6, q7, q8])) ∧ w' = Y.alloc (.cells #[.int .i64 q0, .int .i64 q1, .int .i64 q2, .int .i64 q3, .int .i64 q4, .int .i64 q5, .int .i64 q6, .int .i64 q7, .int .i64 q8] 3) :=
    orl_any [q0, q1, q2, q3, q4, q5, q6, q7, q8] Y.heap.size 3 _ (fun j hj => by
      have hb := Bk.new Y 3 #[.int .i64 q0, .int .i64 q1, .int .i64 q2, .int .i64 q3, .int .i64 q4, .int .i64 q5, .int .i64 q6, .int .i64 q7, .int .i64 q8]
      rw [hb.cell]
      match j, hj with
      | 0, _ => rfl
      | 1, _ => rfl
      | 2, _ => rfl
      | 3, _ => rfl
      | 4, _ => rfl
      | 5, _ => rfl
      | 6, _ => rfl
      | 7, _ => rfl
      | 8, _ => rfl) (by simp)
  go_wp2_with (go_at_call 82; refine hor.mono ?_; rintro e w' ⟨rfl, rfl⟩)
  go_ret
  refine ⟨?_, b0.alloc b0.size _⟩
  rw [← un HV]
  rfl

/-- of two spans -/
def cmpS (s t : Sp) (l m : List At) : Int := if orL (fieldsL s t) ≠ 0 then orL (fieldsL s t) else cmpL l m
set_option maxRecDepth 20000 in
set_option maxHeartbeats 2000000 in
theorem compare_any (s t : Sp) (A1 A2 : Option Addr) (c1 c2 : Nat) (l m : List At) (n1 n2 : Nat) (w : World) (h1 : Hd 0 w A1 c1 l) (h2 : Hd 0 w A2 c2 m) (hn1 : l.length = n1) (hn2 : m.length = n2) (z1 : n1 ≤ 40) (z2 : n2 ≤ 40) :
    Calls Tryz.prog 53 #[spv s (.slice A1 n1 c1), spv t (.slice A2 n2 c2)] w fun e w' => e = .returned (.int .i64 (cmpS s t l m)) ∧ Below w.heap.size w w' := by
  have HV : Hid (cmpS s t l m = if orL (fieldsL s t) ≠ 0 then orL (fieldsL s t) else cmpL l m) := rfl
  have hc1 := fun W => cfields_any s t (.slice A1 n1 c1) (.slice A2 n2 c2) W
  have hc2 := fun W (hb : Below w.heap.size w W) => cfunc_any A1 A2 c1 c2 l m W (h1.below hb) (h2.below hb) (by omega) (by omega)
  rw [hn1, hn2] at hc2
  generalize orL (fieldsL s t) = q at *
  generalize cmpL l m = r at *
  generalize cmpS s t l m = R at *
  clear h1 h2 hn1 hn2
  have b0 : Below w.heap.size w ((w.alloc (.cells (spc s (.slice A1 n1 c1)) 45)).alloc (.cells (spc t (.slice A2 n2 c2)) 45)) := by go_grown
  have x9 : ((w.alloc (.cells (spc s (.slice A1 n1 c1)) 45)).alloc (.cells (spc t (.slice A2 n2 c2)) 45)).cell? ⟨w.heap.size, 9, none⟩ = some (.slice A1 n1 c1) := by simp
  have y9 : ((w.alloc (.cells (spc s (.slice A1 n1 c1)) 45)).alloc (.cells (spc t (.slice A2 n2 c2)) 45)).cell? ⟨w.heap.size + 1, 9, none⟩ = some (.slice A2 n2 c2) := by simp
  go_enter Tryz.func53, Tryz.ntmps53
  go_wp2_with fail
  refine (hc1 _).mono ?_
  rintro e w2 ⟨rfl, hb2⟩
  have b2 := b0.trans (hb2.mono b0.size)
  replace x9 := (hb2.cell (World.block_lt_of_cell? _ _ x9)).trans x9
  replace y9 := (hb2.cell (World.block_lt_of_cell? _ _ y9)).trans y9
  clear hb2 b0
  by_cases hq : q = 0
  · subst hq
    go_wp2_with fail
    refine (hc2 _ b2).mono ?_
    rintro e w3 ⟨rfl, hb3⟩
    go_wp2
    go_ret
    refine ⟨?_, b2.trans (hb3.mono b2.size)⟩
    rw [un HV]
    simp
  · have hqb : (q == 0) = false := beq_false_of_ne hq
    go_wp2
    go_ret
    refine ⟨?_, b2⟩
    rw [un HV, if_pos hq]
    rfl
end Go.Proofs.YtdmibolbpgondaaGreat.P06
end
