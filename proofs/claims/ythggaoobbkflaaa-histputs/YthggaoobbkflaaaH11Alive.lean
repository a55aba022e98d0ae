/-
  The chapter's example; Full of none.
-/
import Derived.Test.YthggaoobbkflaaaH11Shows
set_option linter.unusedSimpArgs false
set_option linter.unusedVariables false
namespace Go.Proofs.Ythggaoobbkflaaa.H11
open Go.RowKit Go.Lib Go.Proofs.Ythggaoobbkflaaa.Wd Go.Proofs.Ythggaoobbkflaaa.S10

theorem right_ex : Right [10, 20] := ⟨by simp, fun i h k => by
  match i with
  | 0 => simp
  | i + 1 => simp at h; omega⟩
theorem wrong_ex : ¬ Right [2, 2] := fun h => by
  have := h.up 0 (by simp) (by simp)
  simp at this
theorem hi_fx {w w' : World} {p lo hi : Nat} {bs l : List Nat} (h : Hi w p lo hi bs l) (hb : Below w.heap.size w w') : Hi w' p lo hi bs l := h.below hb
theorem count_hi (p lo hi : Nat) (bs l : List Nat) (w : World) (h : Hi w p lo hi bs l) :
    Calls Try.prog 13 #[.pointer (some ⟨p, 0, none⟩)] w fun e w' => e = .returned (ct (sn l.length) (sf l.length)) ∧ Below w.heap.size w w' := by
  obtain ⟨g, A, c, h, _⟩ := h
  exact count_at p g c A bs _ _ _ w h
theorem sum_hi (p lo hi : Nat) (bs l : List Nat) (w : World) (h : Hi w p lo hi bs l) :
    Calls Try.prog 14 #[.pointer (some ⟨p, 0, none⟩)] w fun e w' => e = .returned (ct (sn l.sum) (sf l.sum)) ∧ Below w.heap.size w w' := by
  obtain ⟨g, A, c, h, _⟩ := h
  exact hsum_at p g c A bs _ _ _ w h
theorem field0 (n : Int) (f : Bool) (w : World) : (Instr.field 37 (ct n f) 0).run Try.prog w = .ok (.int .u64 n) w := by kernel_rfl
set_option maxRecDepth 20000 in
set_option maxHeartbeats 4000000 in
theorem alive_any (w : World) : Calls Try.prog 6 #[] w fun e w' => e = .returned (.bool true) ∧ Below w.heap.size w w' := by
  have f0 := fun W => field0 1 false W
  have u1 := Us.two w 30 w.heap.size rfl 10 20 10 20 rfl rfl (by omega) (by omega)
  have b1 := below_box w (.cells #[.int .u64 10, .int .u64 20] 30)
  go_enter Try.func6, Try.ntmps6
  go_wp2_with fail
  refine (new_right _ 2 2 [10, 20] _ u1 rfl right_ex).mono ?_
  rintro e w2 ⟨p, rfl, H2, b2⟩
  have u2 := u1.below b2
  have B2 := b1.trans (b2.mono b1.size)
  have hlo : w.heap.size ≤ (w.alloc (.cells #[.int .u64 10, .int .u64 20] 30)).heap.size := b1.size
  generalize (w.alloc (.cells #[.int .u64 10, .int .u64 20] 30)).heap.size = lo at *
  generalize hhi : w2.heap.size = hi at H2
  clear u1 b1 b2 hhi
  have u3 := Us.two w2 30 w2.heap.size rfl 2 2 2 2 rfl rfl (by omega) (by omega)
  have b3 := below_box w2 (.cells #[.int .u64 2, .int .u64 2] 30)
  have H3 := H2.below b3
  have u4 := u2.below b3
  have B3 := B2.trans (b3.mono B2.size)
  clear H2 u2 b3 B2
  go_wp2_with fail
  refine (new_wrong _ 2 2 [2, 2] _ u3 rfl wrong_ex).mono ?_
  rintro e w4 ⟨rfl, b4⟩
  have H4 := H3.below b4
  have u5 := u4.below b4
  have B4 := B3.trans (b4.mono B3.size)
  clear H3 u4 b4 B3 u3
  go_wp2_with fail
  refine (bucket_at _ 2 2 10 0 [10, 20] _ u5 rfl right_ex.up (by omega) (by omega) rfl).mono ?_
  rintro e w5 ⟨rfl, rfl⟩
  go_wp2_with fail
  refine (bucket_at _ 2 2 11 1 [10, 20] _ u5 rfl right_ex.up (by omega) (by omega) rfl).mono ?_
  rintro e w5 ⟨rfl, rfl⟩
  go_wp2_with fail
  refine (bucket_at _ 2 2 21 2 [10, 20] _ u5 rfl right_ex.up (by omega) (by omega) rfl).mono ?_
  rintro e w5 ⟨rfl, rfl⟩
  clear u5
  go_wp2_with fail
  refine (put_at p lo hi 5 [10, 20] [] _ H4 (by omega)).mono ?_
  rintro e w5 ⟨rfl, H5, F5⟩
  have B5 := B4.trans (F5.below hlo B4.size)
  clear H4 F5 B4
  go_wp2_with fail
  refine (count_hi p lo hi [10, 20] _ _ H5).mono ?_
  rintro e w6 ⟨rfl, b6⟩
  have B6 := B5.trans (b6.mono B5.size)
  clear H5 b6 B5
  simp only [List.nil_append, List.length_cons, List.length_nil, Nat.zero_add, show sn 1 = 1 from rfl, show sf 1 = false from rfl]
  go_wp2
  go_ret
  exact ⟨ret_bool (by simp), B6⟩
end Go.Proofs.Ythggaoobbkflaaa.H11
