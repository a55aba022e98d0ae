/-
  The kit's contract of slices.Grow at bytes, laid at this program; what slices.Concat does with two slices of bytes.
-/
import Derived.Shelf.Spec.SlicesGrow
import Derived.Test.YtghdojiffooilaaDoorRows
import Derived.Test.YtghdojiffooilaaDoorWords
import Derived.Test.YtghdojiffooilaaDoorSame
import Derived.Handy
import Derived.Laws.AppendOwn
namespace Go.Proofs
open Go.Shelf Go.RowKit
def Tryd.grow_ren : Go.Shelf.Ren := ⟨fun | 4 => 26 | n => n, fun | 0 => 0 | 3 => 3 | 4 => 4 | 9 => 9 | 20 => 20 | 22 => 22 | 25 => 5 | n => n, fun | n => n⟩
theorem Tryd.grow_lays : Go.Proofs.Lays8.n4 Tryd.prog Tryd.grow_ren := {
  mixed := by kernel_rfl
  f4 := ⟨Tryd.f26.name, by decide, Tryd.func26.trans (congrArg some (by kernel_rfl))⟩
  t0 := Tryd.underlying0
  a0 := Tryd.isAgg0
  z0 := Tryd.sizeOf0
  v0 := Tryd.zeroValue0
  t3 := Tryd.underlying3
  a3 := Tryd.isAgg3
  z3 := Tryd.sizeOf3
  v3 := Tryd.zeroValue3
  t4 := Tryd.underlying4
  a4 := Tryd.isAgg4
  z4 := Tryd.sizeOf4
  v4 := Tryd.zeroValue4
  t9 := Tryd.underlying9
  a9 := Tryd.isAgg9
  z9 := Tryd.sizeOf9
  v9 := Tryd.zeroValue9
  t20 := Tryd.underlying20
  a20 := Tryd.isAgg20
  z20 := Tryd.sizeOf20
  v20 := Tryd.zeroValue20
  t22 := Tryd.underlying22
  a22 := Tryd.isAgg22
  z22 := Tryd.sizeOf22
  v22 := Tryd.zeroValue22 }
end Go.Proofs
namespace Go.Proofs.YtghdojiffooilaaDoor.V04
open Go.RowKit Go.Lib Go.Proofs.YtghdojiffooilaaDoor.Wd

theorem grow_nil (n : Nat) (N : Int) (hN : N = (n : Int)) (hn : n ≤ 2000000000) (w : World) : Calls Tryd.prog 26 #[.slice none 0 0, .int .i64 N] w fun e w' =>
    ∃ A c, e = .returned (.slice A 0 c) ∧ w'.ownsRow w.heap.size 5 1 (.slice A 0 c) 0 [] ∧ Below w.heap.size w w' := by
  obtain ⟨i0, hi, hz0, hz1, hz2⟩ := info_parts byte_info
  subst hN
  by_cases h0 : n = 0
  · subst h0
    refine (Any8.slices_Grow_room Tryd.grow_lays none 0 0 0 w (by omega) (by omega) (by omega) (by omega)).mono ?_
    rintro e w1 ⟨rfl, rfl⟩
    exact ⟨none, 0, rfl, World.ownsRow_nil _ _ _ _, Below.refl _ _⟩
  · refine (Any8.slices_Grow_grow Tryd.grow_lays i0 _ hi hz0 (by rw [hz1]; decide) none 0 0 n [] w (by omega) (by omega) (by rw [hz2]; omega) (by omega) (by simp) (by simp) (by simp)).mono ?_
    rintro e w1 ⟨rfl, rfl⟩
    have h1 := grownCap_ge w n 0 (Tryd.grow_ren.t 25)
    have h2 := grownCap_le_maxLen w n 0 (Tryd.grow_ren.t 25) (by unfold maxLen; omega)
    refine ⟨_, _, rfl, ?_, ((Below.refl _ _).drew).alloc (Nat.le_refl _) _⟩
    rw [Nat.zero_add]
    exact World.ownsRow_made w.drew _ _ (Nat.le_refl _) h2 (by simp [size_zeroCells, Value.cells]; omega)

set_option maxRecDepth 20000 in
set_option maxHeartbeats 2000000 in
theorem concat_at (A B : Option Addr) (ca cb la lb : Nat) (l r : List UInt8) (g : Nat) (w : World) (h0 : w.cell? ⟨g, 0, none⟩ = some (.slice A la ca)) (h1 : w.cell? ⟨g, 1, none⟩ = some (.slice B lb cb))
    (ha : Bs w A ca l) (hb : Bs w B cb r) (hla : l.length = la) (hlb : r.length = lb) (hl1 : la ≤ 1000000000) (hl2 : lb ≤ 1000000000) :
    Calls Tryd.prog 20 #[.slice (some ⟨g, 0, none⟩) 2 2] w fun e w' =>
      ∃ A' c', e = .returned (.slice A' (la + lb) c') ∧ w'.ownsRow w.heap.size 5 1 (.slice A' (la + lb) c') (la + lb) (Lib.byteCells (l ++ r)) ∧ Below w.heap.size w w' := by
  obtain ⟨i0, hi, hz0, hz1, hz2⟩ := info_parts byte_info
  go_enter Tryd.func20, Tryd.ntmps20
  go_wp2
  refine wp_loop_rounds 3 ?_
  rw [rounds_succ]
  go_wp2
  rw [rounds_succ]
  go_wp2
  rw [rounds_succ]
  go_wp2_with fail
  refine (grow_nil (la + lb) _ (by omega) (by omega) _).mono ?_
  rintro e w1 ⟨A1, c1, rfl, hown1, hb1⟩
  have ha1 : Rd 1 w1 A la ca (Lib.byteCells l) := by have := ha.below hb1; unfold Bs at this; rw [hla] at this; exact this
  have hr1 : Rd 1 w1 B lb cb (Lib.byteCells r) := by have := hb.below hb1; unfold Bs at this; rw [hlb] at this; exact this
  have k0 := h0
  have k1 := h1
  rw [← hb1.cell (World.block_lt_of_cell? _ _ h0)] at k0
  rw [← hb1.cell (World.block_lt_of_cell? _ _ h1)] at k1
  have hg : g < w.heap.size := World.block_lt_of_cell? _ _ h0
  clear ha
  have H1 := Lib.hid h1
  clear h0 h1
  go_wp2_with fail
  refine wp_loop_rounds 3 ?_
  rw [rounds_succ]
  go_wp2_with (at_builtin; refine wpList_append_rd _ rfl _ _ 22 rfl w.heap.size 5 i0 _ 1 1 Tryd.underlying22 hi hz0 hz1 hz2 rfl (by decide) _ 0 [] rfl hown1 A la ca (Lib.byteCells l) rfl ha1 (bc_one l) ?d1 ?d2 ?d3 ?_)
  case d1 => unfold maxLen; omega
  case d2 => omega
  case d3 => exact hb1.size
  intro A2 c2 w2 hown2 hg2
  have hb2 : Below w.heap.size w w2 := hb1.grown hg2 hb1.size (fun k hk => (hown1.lt k hk).1)
  have hr2 : Rd 1 w2 B lb cb (Lib.byteCells r) := by have := hb.below hb2; unfold Bs at this; rw [hlb] at this; exact this
  have hown2' : w2.ownsRow w.heap.size 5 1 (.slice A2 la c2) la (Lib.byteCells l) := by simpa using hown2
  have m1 := H1.out
  rw [← hb2.cell (show (⟨g, 1, none⟩ : Addr).block < w.heap.size from hg)] at m1
  clear k0 k1 hown1 hb1 ha1 hr1 hg2 hown2 hb
  go_wp2
  rw [rounds_succ]
  go_wp2_with (at_builtin; refine wpList_append_rd _ rfl _ _ 22 rfl w.heap.size 5 i0 _ 1 1 Tryd.underlying22 hi hz0 hz1 hz2 rfl (by decide) _ la (Lib.byteCells l) rfl hown2' B lb cb (Lib.byteCells r) rfl hr2 (bc_one r) ?d4 ?d5 ?d6 ?_)
  case d4 => unfold maxLen; omega
  case d5 => omega
  case d6 => exact hb2.size
  intro A3 c3 w3 hown3 hg3
  have hb3 : Below w.heap.size w w3 := hb2.grown hg3 hb2.size (fun k hk => (hown2'.lt k hk).1)
  rw [← bc_app] at hown3
  clear hown2' hb2 hr2 hg3 m1
  go_wp2
  rw [rounds_succ]
  go_wp2
  go_ret
  exact ⟨A3, c3, rfl, hown3, hb3⟩
end Go.Proofs.YtghdojiffooilaaDoor.V04
