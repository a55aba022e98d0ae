/-
  heap.compare; Len and Less of the items.
  Swap of the items.
  container/heap's up, over the items.
-/
import Derived.Test.YtdmibolbpgondaaGreatKU12Due
import Derived.Handy
import Derived.Sort.Grow
import Derived.StillTailTactics
import Derived.BigQuiet
import Derived.Deep.QuietTactic
import Derived.Deep.RegionHeld3
import Derived.Test.YtdmibolbpgondaaGreatKP06Region
import Derived.BigRegion
section
set_option linter.unusedSimpArgs false
set_option linter.unusedVariables false
namespace Go.Proofs.YtdmibolbpgondaaGreat.U12
open Go.RowKit Go.Lib Go.Maps Go.Proofs.YtdmibolbpgondaaGreat.Wd

theorem ret_bool {a b : Bool} (h : a = b) : Ending.returned (.bool a) = .returned (.bool b) := by rw [h]
theorem ret_i64 {a b : Int} (h : a = b) : Ending.returned (.int .i64 a) = .returned (.int .i64 b) := by rw [h]
theorem nanu_any (x : Int) (w : World) : Calls Tryz.prog 107 #[.int .u64 x] w fun e w' => e = .returned (.bool false) ∧ w = w' := by
  go_enter Tryz.func107, Tryz.ntmps107
  go_wp2
  go_ret
  exact ⟨ret_bool (by simp), rfl⟩
def cmpI (x y : Int) : Int := if x < y then -1 else if y < x then 1 else 0
theorem compu_any (x y : Int) (w : World) : Calls Tryz.prog 83 #[.int .u64 x, .int .u64 y] w fun e w' => e = .returned (.int .i64 (cmpI x y)) ∧ w' = w := by
  go_enter Tryz.func83, Tryz.ntmps83
  go_wp2_with (go_at_call 107; refine (nanu_any _ _).mono ?_; rintro e w' ⟨rfl, rfl⟩)
  all_goals (go_ret; refine ⟨?_, rfl⟩; unfold cmpI; (repeat' split) <;> first | rfl | (exfalso; omega))
/-- the first that is not 0 -/
def or2 (x y : Int) : Int := if x ≠ 0 then x else y
set_option maxRecDepth 20000 in
theorem or_any (x y : Int) (g : Nat) (w : World) (h0 : w.cell? ⟨g, 0, none⟩ = some (.int .i64 x)) (h1 : w.cell? ⟨g, 1, none⟩ = some (.int .i64 y)) :
    Calls Tryz.prog 82 #[.slice (some ⟨g, 0, none⟩) 2 2] w fun e w' => e = .returned (.int .i64 (or2 x y)) ∧ w = w' := by
  go_enter Tryz.func82, Tryz.ntmps82
  go_wp2
  go_rounds 3
  all_goals go_ret
  all_goals (refine ⟨?_, rfl⟩; simp_all [or2])
/-- the order of two items, as a number -/
def cf (a b : It) : Int := or2 (cmpI a.2 b.2) (cmpI a.1 b.1)
theorem cf_neg (a b : It) : cf a b < 0 ↔ Lt a b := by
  unfold cf or2 cmpI Lt
  repeat' split
  all_goals omega
def ia (x : It) : Value := .agg #[.int .u64 (x.1 : Int), .int .u64 (x.2 : Int)]
def bx (x : It) : Obj := .cells #[.int .u64 (x.1 : Int), .int .u64 (x.2 : Int)] 132
/-- what compare leaves: its boxes -/
def cpW (w : World) (a b : It) : World := (((w.alloc (bx a)).alloc (bx b)).drew).alloc (.cells #[.int .i64 (cmpI a.2 b.2), .int .i64 (cmpI a.1 b.1)] 3)
set_option maxRecDepth 20000 in
set_option maxHeartbeats 1000000 in
theorem compare_any (a b : It) (w : World) :
    Calls Tryz.prog 64 #[ia a, ia b] w fun e w' => e = .returned (.int .i64 (cf a b)) ∧ w' = cpW w a b := by
  have e0 : cf a b = or2 (cmpI a.2 b.2) (cmpI a.1 b.1) := rfl
  have e1 : cpW w a b = (((w.alloc (bx a)).alloc (bx b)).drew).alloc (.cells #[.int .i64 (cmpI a.2 b.2), .int .i64 (cmpI a.1 b.1)] 3) := rfl
  rw [e0, e1]
  unfold ia bx
  clear e0 e1
  obtain ⟨a0, h0⟩ : ∃ z : Int, (a.1 : Int) = z := ⟨_, rfl⟩
  obtain ⟨a1, h1⟩ : ∃ z : Int, (a.2 : Int) = z := ⟨_, rfl⟩
  obtain ⟨b0, h2⟩ : ∃ z : Int, (b.1 : Int) = z := ⟨_, rfl⟩
  obtain ⟨b1, h3⟩ : ∃ z : Int, (b.2 : Int) = z := ⟨_, rfl⟩
  rw [h0, h1, h2, h3]
  clear h0 h1 h2 h3
  go_enter Tryz.func64, Tryz.ntmps64
  go_wp2
  refine wp_region_still_tail 10 (by kernel_rfl) (by kernel_rfl) ?_
  have c0 : (((w.alloc (.cells #[.int .u64 a0, .int .u64 a1] 132)).alloc (.cells #[.int .u64 b0, .int .u64 b1] 132)).drew).cell? ⟨w.heap.size, 0, none⟩ = some (.int .u64 a0) := by go_cell
  have c1 : (((w.alloc (.cells #[.int .u64 a0, .int .u64 a1] 132)).alloc (.cells #[.int .u64 b0, .int .u64 b1] 132)).drew).cell? ⟨w.heap.size, 1, none⟩ = some (.int .u64 a1) := by go_cell
  have d0 : (((w.alloc (.cells #[.int .u64 a0, .int .u64 a1] 132)).alloc (.cells #[.int .u64 b0, .int .u64 b1] 132)).drew).cell? ⟨w.heap.size + 1, 0, none⟩ = some (.int .u64 b0) := by go_cell
  have d1 : (((w.alloc (.cells #[.int .u64 a0, .int .u64 a1] 132)).alloc (.cells #[.int .u64 b0, .int .u64 b1] 132)).drew).cell? ⟨w.heap.size + 1, 1, none⟩ = some (.int .u64 b1) := by go_cell
  change wpStill _ _ (((w.alloc _).alloc _).drew) (fun a' => wpList _ _ _ _ a' (((w.alloc _).alloc _).drew)) _ _
  generalize hY : ((w.alloc (.cells #[.int .u64 a0, .int .u64 a1] 132)).alloc (.cells #[.int .u64 b0, .int .u64 b1] 132)).drew = Y at *
  have HY := Lib.hid hY
  clear hY
  simp only [List.take_succ_cons, List.take_zero, List.drop_succ_cons, List.drop_zero]
  still_step
  still_step
  still_step
  still_step
  still_call (compu_any a1 b1 _)
  still_step
  still_step
  still_step
  still_step
  still_call (compu_any a0 b0 _)
  refine wpStill_nil ?_
  generalize hx : cmpI a1 b1 = x at *
  generalize hy : cmpI a0 b0 = y at *
  have HX := Lib.hid hx
  have HZ := Lib.hid hy
  clear c0 c1 d0 d1 hx hy
  go_wp2_with (go_at_call 82; refine (or_any x y Y.heap.size _ (by simp) (by simp)).mono ?_; rintro e w' ⟨rfl, rfl⟩)
  go_ret
  refine ⟨by rw [HX.out, HZ.out]; rfl, by rw [HX.out, HZ.out, HY.out]⟩
theorem cpW_grow (w : World) (a b : It) : ∃ q os, cpW w a b = Sort.grow (w.drewN q) os := ⟨1, #[bx a, bx b, .cells #[.int .i64 (cmpI a.2 b.2), .int .i64 (cmpI a.1 b.1)] 3], by
  unfold cpW
  rw [Sort.alloc_eq_grow, Sort.alloc_eq_grow, Sort.alloc_eq_grow, Sort.drew_grow, Sort.drew_grow, Sort.grow_grow, Sort.grow_grow]
  rfl⟩
theorem cpW_below (w : World) (a b : It) : Below w.heap.size w (cpW w a b) := by
  unfold cpW
  go_grown
theorem compare_below (a b : It) (w : World) :
    Calls Tryz.prog 64 #[ia a, ia b] w fun e w' => e = .returned (.int .i64 (cf a b)) ∧ Below w.heap.size w w' :=
  (compare_any a b w).mono fun _ _ ⟨h1, h2⟩ => ⟨h1, h2 ▸ cpW_below w a b⟩

section
variable {w w' : World} {p c b N : Nat} {A : Option Addr} {K : Nat → It} {D : DataW Unit}
theorem len_at (h : Im w p A c b N K D) : Calls Tryz.prog 165 #[.pointer (some ⟨p, 0, none⟩)] w fun e w' => e = .returned (.int .i64 (N : Int)) ∧ w = w' := by
  have c0 := h.c0
  have hN := h.few
  clear h
  go_enter Tryz.func165, Tryz.ntmps165
  go_wp2
  go_ret
  exact ⟨rfl, rfl⟩
set_option maxRecDepth 20000 in
set_option maxHeartbeats 1000000 in
theorem less_at (h : Im w p A c b N K D) (i j : Nat) (x : Bool) (hi : i < N) (hj : j < N) (hx : decide (Lt (K i) (K j)) = x) :
    Calls Tryz.prog 166 #[.pointer (some ⟨p, 0, none⟩), .int .i64 (i : Int), .int .i64 (j : Int)] w fun e w' => e = .returned (.bool x) ∧ Below w.heap.size w w' := by
  have c0 := h.c0
  have hN := h.few
  obtain ⟨g, rfl, i0, i1, hf, hc, hm⟩ := h.get hi
  obtain ⟨_, e, j0, j1, _⟩ := h.get hj
  cases e
  have HC := fun W => compare_below (K i) (K j) W
  have HX := Lib.hid (show decide (cf (K i) (K j) < 0) = x from by rw [← hx]; exact decide_eq_decide.2 (cf_neg _ _))
  have hz : w.cell? ⟨p, 0, none⟩ = some (.slice (some ⟨g, 0, none⟩) N c) := c0
  clear h hx hf hz
  unfold ia at HC
  generalize cf (K i) (K j) = z at *
  generalize ((K i).1 : Int) = a0 at *
  generalize ((K i).2 : Int) = a1 at *
  generalize ((K j).1 : Int) = b0 at *
  generalize ((K j).2 : Int) = b1 at *
  go_enter Tryz.func166, Tryz.ntmps166
  have hd := HC w.drew
  have b0' : Below w.heap.size w w.drew := (Below.refl _ _).drew
  have kf := fun (W : World) (hb : Below w.drew.heap.size w.drew W) => (show W.cell? ⟨p, 0, none⟩ = some (.slice (some ⟨g, 0, none⟩) N c) ∧ W.cell? ⟨g, i * 2, none⟩ = some (.int .u64 a0) ∧ W.cell? ⟨g, i * 2 + 1, none⟩ = some (.int .u64 a1) ∧ W.cell? ⟨g, j * 2, none⟩ = some (.int .u64 b0) ∧ W.cell? ⟨g, j * 2 + 1, none⟩ = some (.int .u64 b1) from
    ⟨(hb.cell (World.block_lt_of_cell? _ _ c0)).trans c0, (hb.cell (World.block_lt_of_cell? _ _ i0)).trans i0, (hb.cell (World.block_lt_of_cell? _ _ i1)).trans i1, (hb.cell (World.block_lt_of_cell? _ _ j0)).trans j0, (hb.cell (World.block_lt_of_cell? _ _ j1)).trans j1⟩)
  have y0 : (0 : Int) ≤ (i : Int) := by omega
  have y1 : ((i : Int)).toNat = i := by omega
  have y2 : (0 : Int) ≤ (j : Int) := by omega
  have y3 : ((j : Int)).toNat = j := by omega
  clear HC
  go_wp2_with fail
  go_region_held3 (fun w' => w'.cell? ⟨p, 0, none⟩ = some (.slice (some ⟨g, 0, none⟩) N c) ∧ w'.cell? ⟨g, i * 2, none⟩ = some (.int .u64 a0) ∧ w'.cell? ⟨g, i * 2 + 1, none⟩ = some (.int .u64 a1) ∧ w'.cell? ⟨g, j * 2, none⟩ = some (.int .u64 b0) ∧ w'.cell? ⟨g, j * 2 + 1, none⟩ = some (.int .u64 b1))
    (first | exact q4 | go_keep)
    (first | (go_at_call 64; (with_reducible refine hd.mono ?_); rintro e w3 ⟨rfl, b3⟩; have q4 := kf w3 b3))
  clear q4 kf c0 i0 i1 j0 j1 hd
  have b4 : Below w.heap.size w w3 := b0'.trans b3
  go_wp2
  go_ret
  exact ⟨by rw [HX.out]; rfl, b4⟩
end
end Go.Proofs.YtdmibolbpgondaaGreat.U12
end

section
set_option linter.unusedSimpArgs false
set_option linter.unusedVariables false
namespace Go.Proofs.YtdmibolbpgondaaGreat.U12
open Go.RowKit Go.Lib Go.Maps Go.Proofs.YtdmibolbpgondaaGreat.Wd

section
variable {w w' : World} {p c b N : Nat} {A : Option Addr} {K : Nat → It} {D : DataW Unit}
theorem drew_below (w : World) : Below w.heap.size w w.drew := (Below.refl _ _).drew
/-- a place told in the map -/
theorem Im.tell {x i : Nat} (h : Im w p A c b N K D) (hx : (x : Int) ≤ 18446744073709551615) (hi : i ≤ 100000) (hs : Maps.size D ≤ 100000) :
    ∃ w', (Instr.mapUpdate 136 (.map (some b)) (.int .u64 (x : Int)) (.int .i64 (i : Int))).run Tryz.prog w = .ok () w' ∧ Im w' p A c b N K (D.put (ik x) (U12.num i)) ∧ Fr (own p A b) w w' ∧ Maps.size (D.put (ik x) (U12.num i)) ≤ Maps.size D + 1 := by
  obtain ⟨w', hrun, hown, hturn⟩ := h.map.store law Tryz.underlying136 (by unfold maxLen; omega) (key_ok hx) (num_ok hi)
  obtain ⟨h2, F⟩ := h.turn hown hturn.grown
  exact ⟨w', hrun, h2, F, hown.size_le⟩
set_option maxRecDepth 20000 in
set_option maxHeartbeats 1000000 in
theorem swap_at (h : Im w p A c b N K D) (i j : Nat) (hi : i < N) (hj : j < N) (hij : i ≠ j) (hP : Pl D K N) (hn : Nd K N) :
    Calls Tryz.prog 169 #[.pointer (some ⟨p, 0, none⟩), .int .i64 (i : Int), .int .i64 (j : Int)] w fun e w' => e = .returned (.tuple #[]) ∧ ∃ D', Im w' p A c b N (sw K i j) D' ∧ Pl D' (sw K i j) N ∧ Fr (own p A b) w w' := by
  have c0 := h.c0
  have c1 := h.c1
  have hN := h.few
  obtain ⟨g, rfl, i0, i1, hf, hc, hm⟩ := h.get hi
  obtain ⟨_, e, j0, j1, _⟩ := h.get hj
  cases e
  have ni := h.num i hi
  have nj := h.num j hj
  obtain ⟨h1, F1⟩ := h.set hi nj
  obtain ⟨h2, F2⟩ := h1.set hj ni
  rw [sw_up1 K hij] at h2
  have F2 := F1.then F2
  have hPs := Lib.hid (hP.sw hn hi hj hij)
  have hsz := hP.size
  have y0 : (0 : Int) ≤ (i : Int) := by omega
  have y1 : ((i : Int)).toNat = i := by omega
  have y2 : (0 : Int) ≤ (j : Int) := by omega
  have y3 : ((j : Int)).toNat = j := by omega
  have z0 := hf (i * 2)
  have z1 := hf (i * 2 + 1)
  have z2 := hf (j * 2)
  have z3 := hf (j * 2 + 1)
  have ei := sw_i K i j
  have ej := sw_j K i j
  clear h h1 F1 hf hP hn
  unfold iput at h2 F2
  generalize K i = x at *
  generalize K j = y at *
  generalize sw K i j = L at *
  have H2 := Lib.hid h2
  have G2 := Lib.hid F2
  have EI := Lib.hid ei
  have EJ := Lib.hid ej
  have SZ := Lib.hid hsz
  clear h2 F2 ei ej hsz
  go_enter Tryz.func169, Tryz.ntmps169
  go_wp2_with fail
  go_region
  obtain ⟨V, hV⟩ : ∃ V, ((((w.setCell ⟨g, i * 2, none⟩ (.int .u64 (y.1 : Int))).setCell ⟨g, i * 2 + 1, none⟩ (.int .u64 (y.2 : Int))).setCell ⟨g, j * 2, none⟩ (.int .u64 (x.1 : Int))).setCell ⟨g, j * 2 + 1, none⟩ (.int .u64 (x.2 : Int))).drew = V := ⟨_, rfl⟩
  rw [hV]
  have A1 : Im V p (some ⟨g, 0, none⟩) c b N L D := hV ▸ (H2.out).below (drew_below _)
  have G1 : Fr (own p (some ⟨g, 0, none⟩) b) w V := hV ▸ ⟨G2.out.os, G2.out.tape, G2.out.output, G2.out.size, G2.out.block⟩
  clear hV H2 G2 c0 c1 i0 i1 j0 j1 z0 z1 z2 z3
  have A2 := A1.below (drew_below V)
  obtain ⟨V3, hrun, A3, G3, hs3⟩ := A2.tell (x := y.1) (i := i) nj.1 (by omega) (by rw [SZ.out]; omega)
  have c0 := A1.c0
  have c1 := A1.c1
  obtain ⟨_, e, i0, _⟩ := A1.get hi
  cases e
  rw [EI.out] at i0
  have A4 := A3.below (drew_below V3)
  obtain ⟨V5, hrun5, A5, G5, _⟩ := A4.tell (x := x.1) (i := j) ni.1 (by omega) (by rw [SZ.out] at hs3; omega)
  have d0 := A3.c0
  have d1 := A3.c1
  obtain ⟨_, e, j0, _⟩ := A3.get hj
  cases e
  rw [EJ.out] at j0
  have G : Fr (own p (some ⟨g, 0, none⟩) b) w V5 := (G1.then ((Fr.of_below _ (drew_below V)).then G3)).then ((Fr.of_below _ (drew_below V3)).then G5)
  clear A1 A2 A3 A4 G1 G3 G5 hs3
  go_wp2_with fail
  go_region
  clear c0 c1 i0 hrun
  go_wp2_with fail
  go_region
  clear d0 d1 j0 hrun5
  go_wp2
  go_returns
  exact ⟨rfl, _, A5, hPs.out, G⟩
end
end Go.Proofs.YtdmibolbpgondaaGreat.U12
end

section
set_option linter.unusedSimpArgs false
set_option linter.unusedVariables false
namespace Go.Proofs.YtdmibolbpgondaaGreat.U12
open Go.RowKit Go.Lib Go.Maps Go.Proofs.YtdmibolbpgondaaGreat.Wd

/-- the items K in the place of K0: the same ones, from M on at the same places -/
structure St (w0 : World) (p : Nat) (A : Option Addr) (c b N M : Nat) (K0 K : Nat → It) (w : World) : Prop where
  im : ∃ D, Im w p A c b N K D ∧ Pl D K N
  perm : (row K N).Perm (row K0 N)
  keep : ∀ k, M ≤ k → K k = K0 k
  fr : Fr (own p A b) w0 w
section
variable {w0 w w' : World} {p c b N M : Nat} {A : Option Addr} {K0 K : Nat → It} {D : DataW Unit}
theorem St.start (h : Im w p A c b N K D) (hP : Pl D K N) : St w p A c b N M K K w := ⟨⟨D, h, hP⟩, List.Perm.refl _, fun _ _ => rfl, Fr.refl _ _⟩
theorem St.below (h : St w0 p A c b N M K0 K w) (hb : Below w.heap.size w w') : St w0 p A c b N M K0 K w' := by
  obtain ⟨D, h1, h2⟩ := h.im
  exact ⟨⟨D, h1.below hb, h2⟩, h.perm, h.keep, h.fr.then (Fr.of_below _ hb)⟩
theorem St.few (h : St w0 p A c b N M K0 K w) : N ≤ 1000 := by
  obtain ⟨D, h1, h2⟩ := h.im
  exact h1.few
theorem less_st (h : St w0 p A c b N M K0 K w) (i j : Nat) (x : Bool) (hi : i < N) (hj : j < N) (hx : decide (Lt (K i) (K j)) = x) :
    Calls Tryz.prog 166 #[.pointer (some ⟨p, 0, none⟩), .int .i64 (i : Int), .int .i64 (j : Int)] w fun e w' => e = .returned (.bool x) ∧ St w0 p A c b N M K0 K w' := by
  obtain ⟨D, h1, h2⟩ := h.im
  exact (less_at h1 i j x hi hj hx).mono fun _ _ ⟨he, hb⟩ => ⟨he, h.below hb⟩
theorem swap_st (h : St w0 p A c b N M K0 K w) (hn : Nd K0 N) (hM : M ≤ N) (i j : Nat) (hi : i < M) (hj : j < M) (hij : i ≠ j) :
    Calls Tryz.prog 169 #[.pointer (some ⟨p, 0, none⟩), .int .i64 (i : Int), .int .i64 (j : Int)] w fun e w' => e = .returned (.tuple #[]) ∧ St w0 p A c b N M K0 (sw K i j) w' := by
  obtain ⟨D, h1, h2⟩ := h.im
  exact (swap_at h1 i j (by omega) (by omega) hij h2 (hn.perm h.perm)).mono fun _ _ ⟨he, D', h3, h4, hF⟩ =>
    ⟨he, ⟨D', h3, h4⟩, (row_sw K (by omega) (by omega)).trans h.perm, fun k hk => by rw [sw_o K (by omega) (by omega)]; exact h.keep k hk, h.fr.then hF⟩
/-- what up leaves -/
def UpOut (w0 : World) (p : Nat) (A : Option Addr) (c b N M : Nat) (K0 : Nat → It) (e : Ending) (w' : World) : Prop := e = .returned (.tuple #[]) ∧ ∃ K, St w0 p A c b N M K0 K w' ∧ Hp K M
def hi (p : Nat) : Value := .iface 127 (.pointer (some ⟨p, 0, none⟩))
set_option maxRecDepth 20000 in
set_option maxHeartbeats 1000000 in
theorem up_at (j : Nat) (h : St w0 p A c b N M K0 K w) (hn : Nd K0 N) (hM : M ≤ N) (hj : j < M) (hu : UpI K M j) :
    Calls Tryz.prog 131 #[.iface 127 (.pointer (some ⟨p, 0, none⟩)), .int .i64 (j : Int)] w (UpOut w0 p A c b N M K0) := by
  have hN := h.few
  have HU := Lib.hid hu
  have HS := Lib.hid h
  clear hu h
  go_enter Tryz.func131, Tryz.ntmps131
  go_wp2
  go_loopw [1] (fun v wr => ∃ (j : Nat) (K : Nat → It), v = .int .i64 (j : Int) ∧ j < M ∧ Hid (UpI K M j) ∧ Hid (St w0 p A c b N M K0 K wr)) (fun v _ => (intOf v).toNat)
  case atStart => exact ⟨j, K, rfl, hj, HU, HS⟩
  case round =>
    clear HU HS hj
    obtain ⟨j, K, rfl, hj, HU, HS⟩ := hrel
    by_cases j0 : j = 0
    · subst j0
      go_wp2
      go_returns
      exact ⟨rfl, K, HS.out, HU.out.top⟩
    · have hp := par_lt (k := j) (by omega)
      have hq : ((j : Int) - 1).tdiv 2 = (par j : Int) := by
        rw [Int.tdiv_eq_ediv_of_nonneg (by omega)]
        unfold par
        omega
      obtain ⟨x, hx⟩ : ∃ x, decide (Lt (K j) (K (par j))) = x := ⟨_, rfl⟩
      have HL := less_st HS.out j (par j) x (by omega) (by omega) hx
      have HX := Lib.hid hx
      have hne : ¬ (par j : Int) = (j : Int) := by omega
      clear hx
      generalize hi : par j = i at *
      have HI := Lib.hid hi
      clear hi
      go_wp2_with fail
      refine HL.mono ?_
      rintro e w1 ⟨rfl, hS1⟩
      clear HL HS
      cases x with
      | false =>
        have hH : Hp K M := HU.out.done (by rw [HI.out]; exact not_lt (of_decide_eq_false HX.out))
        clear HU
        go_wp2
        go_returns
        exact ⟨rfl, K, hS1, hH⟩
      | true =>
        have h0 : 0 < j := by omega
        have hlt : Lt (K j) (K (par j)) := by rw [HI.out]; exact of_decide_eq_true HX.out
        have HU2 := Lib.hid (HU.out.step hj h0 hlt)
        rw [HI.out] at HU2
        have HW := swap_st hS1 hn hM i j (by omega) hj (by omega)
        clear HU hS1
        go_wp2_with fail
        refine HW.mono ?_
        rintro e w2 ⟨rfl, hS2⟩
        have HS2 := Lib.hid hS2
        clear hS2 HW
        go_wp2
        go_roundw
        case rel => exact ⟨i, sw K i j, rfl, by omega, HU2, HS2⟩
        case measure => first | go_num | (simp [intOf]; omega)
end
end Go.Proofs.YtdmibolbpgondaaGreat.U12
end
