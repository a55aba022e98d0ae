/-
  heap.compare; Len and Less of the items.
-/
import Derived.Test.YtdmibolbpgondaaGreatKU12Mem
import Derived.Handy
import Derived.Sort.Grow
import Derived.StillTailTactics
import Derived.BigQuiet
import Derived.Deep.QuietTactic
import Derived.Deep.RegionHeld3
set_option linter.unusedSimpArgs false
set_option linter.unusedVariables false
namespace Go.Proofs.YtdmibolbpgondaaGreat.U12
open Go.RowKit Go.Lib Go.Maps Go.Proofs.YtdmibolbpgondaaGreat.Wd

theorem ret_bool {a b : Bool} (h : a = b) : Ending.returned (.bool a) = .returned (.bool b) := by rw [h]
theorem ret_i64 {a b : Int} (h : a = b) : Ending.returned (.int .i64 a) = .returned (.int .i64 b) := by rw [h]
theorem nanu_any (x : Int) (w : World) : Calls Tryz.prog 107 #[.int .u64 x] w fun e w' => e = .returned (.bool false) ∧ w = w' := by
  go_enter Tryz.func107, Tryz.ntmps107
  go_wp2
  go_ret
  exact ⟨ret_bool (by simp), rfl⟩
def cmpI (x y : Int) : Int := if x < y then -1 else if y < x then 1 else 0
theorem compu_any (x y : Int) (w : World) : Calls Tryz.prog 83 #[.int .u64 x, .int .u64 y] w fun e w' => e = .returned (.int .i64 (cmpI x y)) ∧ w' = w := by
  go_enter Tryz.func83, Tryz.ntmps83
  go_wp2_with (go_at_call 107; refine (nanu_any _ _).mono ?_; rintro e w' ⟨rfl, rfl⟩)
  all_goals (go_ret; refine ⟨?_, rfl⟩; unfold cmpI; (repeat' split) <;> first | rfl | (exfalso; omega))
/-- the first that is not 0 -/
def or2 (x y : Int) : Int := if x ≠ 0 then x else y
set_option maxRecDepth 20000 in
theorem or_any (x y : Int) (g : Nat) (w : World) (h0 : w.cell? ⟨g, 0, none⟩ = some (.int .i64 x)) (h1 : w.cell? ⟨g, 1, none⟩ = some (.int .i64 y)) :
    Calls Tryz.prog 82 #[.slice (some ⟨g, 0, none⟩) 2 2] w fun e w' => e = .returned (.int .i64 (or2 x y)) ∧ w = w' := by
  go_enter Tryz.func82, Tryz.ntmps82
  go_wp2
  go_rounds 3
  all_goals go_ret
  all_goals (refine ⟨?_, rfl⟩; simp_all [or2])
/-- the order of two items, as a number -/
def cf (a b : It) : Int := or2 (cmpI a.2 b.2) (cmpI a.1 b.1)
theorem cf_neg (a b : It) : cf a b < 0 ↔ Lt a b := by
  unfold cf or2 cmpI Lt
  repeat' split
  all_goals omega
def ia (x : It) : Value := .agg #[.int .u64 (x.1 : Int), .int .u64 (x.2 : Int)]
def bx (x : It) : Obj := .cells #[.int .u64 (x.1 : Int), .int .u64 (x.2 : Int)] 132
/-- what compare leaves: its boxes -/
def cpW (w : World) (a b : It) : World := (((w.alloc (bx a)).alloc (bx b)).drew).alloc (.cells #[.int .i64 (cmpI a.2 b.2), .int .i64 (cmpI a.1 b.1)] 3)
set_option maxRecDepth 20000 in
set_option maxHeartbeats 1000000 in
theorem compare_any (a b : It) (w : World) :
    Calls Tryz.prog 64 #[ia a, ia b] w fun e w' => e = .returned (.int .i64 (cf a b)) ∧ w' = cpW w a b := by
  have e0 : cf a b = or2 (cmpI a.2 b.2) (cmpI a.1 b.1) := rfl
  have e1 : cpW w a b = (((w.alloc (bx a)).alloc (bx b)).drew).alloc (.cells #[.int .i64 (cmpI a.2 b.2), .int .i64 (cmpI a.1 b.1)] 3) := rfl
  rw [e0, e1]
  unfold ia bx
  clear e0 e1
  obtain ⟨a0, h0⟩ : ∃ z : Int, (a.1 : Int) = z := ⟨_, rfl⟩
  obtain ⟨a1, h1⟩ : ∃ z : Int, (a.2 : Int) = z := ⟨_, rfl⟩
  obtain ⟨b0, h2⟩ : ∃ z : Int, (b.1 : Int) = z := ⟨_, rfl⟩
  obtain ⟨b1, h3⟩ : ∃ z : Int, (b.2 : Int) = z := ⟨_, rfl⟩
  rw [h0, h1, h2, h3]
  clear h0 h1 h2 h3
  go_enter Tryz.func64, Tryz.ntmps64
  go_wp2
  refine wp_region_still_tail 10 (by kernel_rfl) (by kernel_rfl) ?_
  have c0 : (((w.alloc (.cells #[.int .u64 a0, .int .u64 a1] 132)).alloc (.cells #[.int .u64 b0, .int .u64 b1] 132)).drew).cell? ⟨w.heap.size, 0, none⟩ = some (.int .u64 a0) := by go_cell
  have c1 : (((w.alloc (.cells #[.int .u64 a0, .int .u64 a1] 132)).alloc (.cells #[.int .u64 b0, .int .u64 b1] 132)).drew).cell? ⟨w.heap.size, 1, none⟩ = some (.int .u64 a1) := by go_cell
  have d0 : (((w.alloc (.cells #[.int .u64 a0, .int .u64 a1] 132)).alloc (.cells #[.int .u64 b0, .int .u64 b1] 132)).drew).cell? ⟨w.heap.size + 1, 0, none⟩ = some (.int .u64 b0) := by go_cell
  have d1 : (((w.alloc (.cells #[.int .u64 a0, .int .u64 a1] 132)).alloc (.cells #[.int .u64 b0, .int .u64 b1] 132)).drew).cell? ⟨w.heap.size + 1, 1, none⟩ = some (.int .u64 b1) := by go_cell
  change wpStill _ _ (((w.alloc _).alloc _).drew) (fun a' => wpList _ _ _ _ a' (((w.alloc _).alloc _).drew)) _ _
  generalize hY : ((w.alloc (.cells #[.int .u64 a0, .int .u64 a1] 132)).alloc (.cells #[.int .u64 b0, .int .u64 b1] 132)).drew = Y at *
  have HY := Lib.hid hY
  clear hY
  simp only [List.take_succ_cons, List.take_zero, List.drop_succ_cons, List.drop_zero]
  still_step
  still_step
  still_step
  still_step
  still_call (compu_any a1 b1 _)
  still_step
  still_step
  still_step
  still_step
  still_call (compu_any a0 b0 _)
  refine wpStill_nil ?_
  generalize hx : cmpI a1 b1 = x at *
  generalize hy : cmpI a0 b0 = y at *
  have HX := Lib.hid hx
  have HZ := Lib.hid hy
  clear c0 c1 d0 d1 hx hy
  go_wp2_with (go_at_call 82; refine (or_any x y Y.heap.size _ (by simp) (by simp)).mono ?_; rintro e w' ⟨rfl, rfl⟩)
  go_ret
  refine ⟨by rw [HX.out, HZ.out]; rfl, by rw [HX.out, HZ.out, HY.out]⟩
theorem cpW_grow (w : World) (a b : It) : ∃ q os, cpW w a b = Sort.grow (w.drewN q) os := ⟨1, #[bx a, bx b, .cells #[.int .i64 (cmpI a.2 b.2), .int .i64 (cmpI a.1 b.1)] 3], by
  unfold cpW
  rw [Sort.alloc_eq_grow, Sort.alloc_eq_grow, Sort.alloc_eq_grow, Sort.drew_grow, Sort.drew_grow, Sort.grow_grow, Sort.grow_grow]
  rfl⟩
theorem cpW_below (w : World) (a b : It) : Below w.heap.size w (cpW w a b) := by
  unfold cpW
  go_grown
theorem compare_below (a b : It) (w : World) :
    Calls Tryz.prog 64 #[ia a, ia b] w fun e w' => e = .returned (.int .i64 (cf a b)) ∧ Below w.heap.size w w' :=
  (compare_any a b w).mono fun _ _ ⟨h1, h2⟩ => ⟨h1, h2 ▸ cpW_below w a b⟩

section
variable {w w' : World} {p c b N : Nat} {A : Option Addr} {K : Nat → It} {D : DataW Unit}
theorem len_at (h : Im w p A c b N K D) : Calls Tryz.prog 165 #[.pointer (some ⟨p, 0, none⟩)] w fun e w' => e = .returned (.int .i64 (N : Int)) ∧ w = w' := by
  have c0 := h.c0
  have hN := h.few
  clear h
  go_enter Tryz.func165, Tryz.ntmps165
  go_wp2
  go_ret
  exact ⟨rfl, rfl⟩
set_option maxRecDepth 20000 in
set_option maxHeartbeats 1000000 in
theorem less_at (h : Im w p A c b N K D) (i j : Nat) (x : Bool) (hi : i < N) (hj : j < N) (hx : decide (Lt (K i) (K j)) = x) :
    Calls Tryz.prog 166 #[.pointer (some ⟨p, 0, none⟩), .int .i64 (i : Int), .int .i64 (j : Int)] w fun e w' => e = .returned (.bool x) ∧ Below w.heap.size w w' := by
  have c0 := h.c0
  have hN := h.few
  obtain ⟨g, rfl, i0, i1, hf, hc, hm⟩ := h.get hi
  obtain ⟨_, e, j0, j1, _⟩ := h.get hj
  cases e
  have HC := fun W => compare_below (K i) (K j) W
  have HX := Lib.hid (show decide (cf (K i) (K j) < 0) = x from by rw [← hx]; exact decide_eq_decide.2 (cf_neg _ _))
  have hz : w.cell? ⟨p, 0, none⟩ = some (.slice (some ⟨g, 0, none⟩) N c) := c0
  clear h hx hf hz
  unfold ia at HC
  generalize cf (K i) (K j) = z at *
  generalize ((K i).1 : Int) = a0 at *
  generalize ((K i).2 : Int) = a1 at *
  generalize ((K j).1 : Int) = b0 at *
  generalize ((K j).2 : Int) = b1 at *
  go_enter Tryz.func166, Tryz.ntmps166
  have hd := HC w.drew
  have b0' : Below w.heap.size w w.drew := (Below.refl _ _).drew
  have kf := fun (W : World) (hb : Below w.drew.heap.size w.drew W) => (show W.cell? ⟨p, 0, none⟩ = some (.slice (some ⟨g, 0, none⟩) N c) ∧ W.cell? ⟨g, i * 2, none⟩ = some (.int .u64 a0) ∧ W.cell? ⟨g, i * 2 + 1, none⟩ = some (.int .u64 a1) ∧ W.cell? ⟨g, j * 2, none⟩ = some (.int .u64 b0) ∧ W.cell? ⟨g, j * 2 + 1, none⟩ = some (.int .u64 b1) from
    ⟨(hb.cell (World.block_lt_of_cell? _ _ c0)).trans c0, (hb.cell (World.block_lt_of_cell? _ _ i0)).trans i0, (hb.cell (World.block_lt_of_cell? _ _ i1)).trans i1, (hb.cell (World.block_lt_of_cell? _ _ j0)).trans j0, (hb.cell (World.block_lt_of_cell? _ _ j1)).trans j1⟩)
  have y0 : (0 : Int) ≤ (i : Int) := by omega
  have y1 : ((i : Int)).toNat = i := by omega
  have y2 : (0 : Int) ≤ (j : Int) := by omega
  have y3 : ((j : Int)).toNat = j := by omega
  clear HC
  go_wp2_with fail
  go_region_held3 (fun w' => w'.cell? ⟨p, 0, none⟩ = some (.slice (some ⟨g, 0, none⟩) N c) ∧ w'.cell? ⟨g, i * 2, none⟩ = some (.int .u64 a0) ∧ w'.cell? ⟨g, i * 2 + 1, none⟩ = some (.int .u64 a1) ∧ w'.cell? ⟨g, j * 2, none⟩ = some (.int .u64 b0) ∧ w'.cell? ⟨g, j * 2 + 1, none⟩ = some (.int .u64 b1))
    (first | exact q4 | go_keep)
    (first | (go_at_call 64; (with_reducible refine hd.mono ?_); rintro e w3 ⟨rfl, b3⟩; have q4 := kf w3 b3))
  clear q4 kf c0 i0 i1 j0 j1 hd
  have b4 : Below w.heap.size w w3 := b0'.trans b3
  go_wp2
  go_ret
  exact ⟨by rw [HX.out]; rfl, b4⟩
end
end Go.Proofs.YtdmibolbpgondaaGreat.U12
