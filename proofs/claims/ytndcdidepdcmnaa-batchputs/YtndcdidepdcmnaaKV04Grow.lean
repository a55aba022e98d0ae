/-
  The kit's contract of slices.Grow at bytes, laid at this program; what slices.Concat does with two slices of bytes.
-/
import Derived.Shelf.Spec.SlicesGrow
import Derived.Test.YtndcdidepdcmnaaRows
import Derived.Test.YtndcdidepdcmnaaKWords
import Derived.Test.YtndcdidepdcmnaaKSame
import Derived.Handy
import Derived.Laws.AppendOwn
namespace Go.Proofs
open Go.Shelf Go.RowKit
def Try.grow_ren : Go.Shelf.Ren := ⟨fun | 4 => 46 | n => n, fun | 0 => 0 | 3 => 3 | 4 => 4 | 9 => 9 | 20 => 20 | 22 => 25 | 25 => 5 | n => n, fun | n => n⟩
theorem Try.grow_lays : Go.Proofs.Lays8.n4 Try.prog Try.grow_ren := {
  mixed := by kernel_rfl
  f4 := ⟨Try.f46.name, by decide, Try.func46.trans (congrArg some (by kernel_rfl))⟩
  t0 := Try.underlying0
  a0 := Try.isAgg0
  z0 := Try.sizeOf0
  v0 := Try.zeroValue0
  t3 := Try.underlying3
  a3 := Try.isAgg3
  z3 := Try.sizeOf3
  v3 := Try.zeroValue3
  t4 := Try.underlying4
  a4 := Try.isAgg4
  z4 := Try.sizeOf4
  v4 := Try.zeroValue4
  t9 := Try.underlying9
  a9 := Try.isAgg9
  z9 := Try.sizeOf9
  v9 := Try.zeroValue9
  t20 := Try.underlying20
  a20 := Try.isAgg20
  z20 := Try.sizeOf20
  v20 := Try.zeroValue20
  t22 := Try.underlying25
  a22 := Try.isAgg25
  z22 := Try.sizeOf25
  v22 := Try.zeroValue25 }
end Go.Proofs
namespace Go.Proofs.Ytndcdidepdcmnaa.V04
open Go.RowKit Go.Lib Go.Proofs.Ytndcdidepdcmnaa.Wd

theorem grow_nil (n : Nat) (N : Int) (hN : N = (n : Int)) (hn : n ≤ 2000000000) (w : World) : Calls Try.prog 46 #[.slice none 0 0, .int .i64 N] w fun e w' =>
    ∃ A c, e = .returned (.slice A 0 c) ∧ w'.ownsRow w.heap.size 5 1 (.slice A 0 c) 0 [] ∧ Below w.heap.size w w' := by
  obtain ⟨i0, hi, hz0, hz1, hz2⟩ := info_parts byte_info
  subst hN
  by_cases h0 : n = 0
  · subst h0
    refine (Any8.slices_Grow_room Try.grow_lays none 0 0 0 w (by omega) (by omega) (by omega) (by omega)).mono ?_
    rintro e w1 ⟨rfl, rfl⟩
    exact ⟨none, 0, rfl, World.ownsRow_nil _ _ _ _, Below.refl _ _⟩
  · refine (Any8.slices_Grow_grow Try.grow_lays i0 _ hi hz0 (by rw [hz1]; decide) none 0 0 n [] w (by omega) (by omega) (by rw [hz2]; omega) (by omega) (by simp) (by simp) (by simp)).mono ?_
    rintro e w1 ⟨rfl, rfl⟩
    have h1 := grownCap_ge w n 0 (Try.grow_ren.t 25)
    have h2 := grownCap_le_maxLen w n 0 (Try.grow_ren.t 25) (by unfold maxLen; omega)
    refine ⟨_, _, rfl, ?_, ((Below.refl _ _).drew).alloc (Nat.le_refl _) _⟩
    rw [Nat.zero_add]
    exact World.ownsRow_made w.drew _ _ (Nat.le_refl _) h2 (by simp [size_zeroCells, Value.cells]; omega)

set_option maxRecDepth 20000 in
set_option maxHeartbeats 2000000 in
theorem concat_at (A B : Option Addr) (ca cb la lb : Nat) (l r : List UInt8) (g : Nat) (w : World) (h0 : w.cell? ⟨g, 0, none⟩ = some (.slice A la ca)) (h1 : w.cell? ⟨g, 1, none⟩ = some (.slice B lb cb))
    (ha : Bs w A ca l) (hb : Bs w B cb r) (hla : l.length = la) (hlb : r.length = lb) (hl1 : la ≤ 1000000000) (hl2 : lb ≤ 1000000000) :
    Calls Try.prog 23 #[.slice (some ⟨g, 0, none⟩) 2 2] w fun e w' =>
      ∃ A' c', e = .returned (.slice A' (la + lb) c') ∧ w'.ownsRow w.heap.size 5 1 (.slice A' (la + lb) c') (la + lb) (Lib.byteCells (l ++ r)) ∧ Below w.heap.size w w' := by
  obtain ⟨i0, hi, hz0, hz1, hz2⟩ := info_parts byte_info
  go_enter Try.func23, Try.ntmps23
  go_wp2
  refine wp_loop_rounds 3 ?_
  rw [rounds_succ]
  go_wp2
  rw [rounds_succ]
  go_wp2
  rw [rounds_succ]
  go_wp2_with fail
  refine (grow_nil (la + lb) _ (by omega) (by omega) _).mono ?_
  rintro e w1 ⟨A1, c1, rfl, hown1, hb1⟩
  have ha1 : Rd 1 w1 A la ca (Lib.byteCells l) := by have := ha.below hb1; unfold Bs at this; rw [hla] at this; exact this
  have hr1 : Rd 1 w1 B lb cb (Lib.byteCells r) := by have := hb.below hb1; unfold Bs at this; rw [hlb] at this; exact this
  have k0 := h0
  have k1 := h1
  rw [← hb1.cell (World.block_lt_of_cell? _ _ h0)] at k0
  rw [← hb1.cell (World.block_lt_of_cell? _ _ h1)] at k1
  have hg : g < w.heap.size := World.block_lt_of_cell? _ _ h0
  clear ha
  have H1 := Lib.hid h1
  clear h0 h1
  go_wp2_with fail
  refine wp_loop_rounds 3 ?_
  rw [rounds_succ]
  go_wp2_with (at_builtin; refine wpList_append_rd _ rfl _ _ 25 rfl w.heap.size 5 i0 _ 1 1 Try.underlying25 hi hz0 hz1 hz2 rfl (by decide) _ 0 [] rfl hown1 A la ca (Lib.byteCells l) rfl ha1 (bc_one l) ?d1 ?d2 ?d3 ?_)
  case d1 => unfold maxLen; omega
  case d2 => omega
  case d3 => exact hb1.size
  intro A2 c2 w2 hown2 hg2
  have hb2 : Below w.heap.size w w2 := hb1.grown hg2 hb1.size (fun k hk => (hown1.lt k hk).1)
  have hr2 : Rd 1 w2 B lb cb (Lib.byteCells r) := by have := hb.below hb2; unfold Bs at this; rw [hlb] at this; exact this
  have hown2' : w2.ownsRow w.heap.size 5 1 (.slice A2 la c2) la (Lib.byteCells l) := by simpa using hown2
  have m1 := H1.out
  rw [← hb2.cell (show (⟨g, 1, none⟩ : Addr).block < w.heap.size from hg)] at m1
  clear k0 k1 hown1 hb1 ha1 hr1 hg2 hown2 hb
  go_wp2
  rw [rounds_succ]
  go_wp2_with (at_builtin; refine wpList_append_rd _ rfl _ _ 25 rfl w.heap.size 5 i0 _ 1 1 Try.underlying25 hi hz0 hz1 hz2 rfl (by decide) _ la (Lib.byteCells l) rfl hown2' B lb cb (Lib.byteCells r) rfl hr2 (bc_one r) ?d4 ?d5 ?d6 ?_)
  case d4 => unfold maxLen; omega
  case d5 => omega
  case d6 => exact hb2.size
  intro A3 c3 w3 hown3 hg3
  have hb3 : Below w.heap.size w w3 := hb2.grown hg3 hb2.size (fun k hk => (hown2'.lt k hk).1)
  rw [← bc_app] at hown3
  clear hown2' hb2 hr2 hg3 m1
  go_wp2
  rw [rounds_succ]
  go_wp2
  go_ret
  exact ⟨A3, c3, rfl, hown3, hb3⟩
end Go.Proofs.Ytndcdidepdcmnaa.V04
