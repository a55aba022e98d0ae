/-
  The walk of HistNil.
-/
import Derived.Test.YthggaoobbkflaaaH11Alive
set_option linter.unusedSimpArgs false
set_option linter.unusedVariables false
namespace Go.Proofs.Ythggaoobbkflaaa.H11
open Go.RowKit Go.Lib Go.Proofs.Ythggaoobbkflaaa.Wd Go.Proofs.Ythggaoobbkflaaa.S10

theorem right_nil : Right [] := ⟨by simp, fun i h k => by simp at h⟩
theorem us_nil (w : World) : Us w none 0 [] := ⟨Rd.nil 1 w, fun x hx => by cases hx⟩
set_option maxRecDepth 20000 in
set_option maxHeartbeats 2000000 in
theorem full_nil (w : World) : Calls Try.prog 15 #[.pointer none] w fun e w' => e = .returned (.bool false) ∧ Below w.heap.size w w' := by
  obtain ⟨i0, hi, hz0, hz1, hz2⟩ := info_of ct_info
  have hone := crow_one [0, 0]
  go_enter Try.func15, Try.ntmps15
  go_wp2_with fail
  refine (buckets_nil _).mono ?_
  rintro e w1 ⟨rfl, b1⟩
  go_wp2_with fail
  refine (count_nil _).mono ?_
  rintro e w2 ⟨rfl, b2⟩
  have B2 := b1.trans (b2.mono b1.size)
  clear b1 b2
  go_wp2_with fail
  refine (sum_nil _).mono ?_
  rintro e w3 ⟨rfl, b3⟩
  have B3 := B2.trans (b3.mono B2.size)
  clear B2 b3
  have b4 := below_box w3 (.cells #[.int .u64 0, .bool false, .int .u64 0, .bool false] 37)
  have T3 : Rd 2 (w3.alloc (.cells #[.int .u64 0, .bool false, .int .u64 0, .bool false] 37)) (some ⟨w3.heap.size, 0, none⟩) 2 2 (crow [0, 0]) := two_row w3 37 0 0
  have B4 := B3.trans (b4.mono B3.size)
  have own3 : (w3.alloc (.cells #[.int .u64 0, .bool false, .int .u64 0, .bool false] 37)).ownsRow w.heap.size 37 2 (.slice none 0 0) 0 [] := ⟨rfl, .inl ⟨rfl, rfl⟩⟩
  clear b4 B3
  go_wp2_with (at_builtin; refine wpList_append_rd _ rfl (.tmp 5) (.tmp 10) 34 rfl w.heap.size 37 i0 _ 2 16 Try.underlying34 hi hz0 hz1 hz2 rfl (by decide) (.slice none 0 0) 0 [] rfl own3 (some ⟨w3.heap.size, 0, none⟩) 2 2 (crow [0, 0]) rfl T3 hone ?d1 ?d2 ?d3 ?_)
  case d1 => unfold maxLen; omega
  case d2 => omega
  case d3 => exact B4.size
  intro A4 k4 w4 own4 g4
  have B5 := B4.grown g4 B4.size fun k hk => (own3.lt k hk).1
  obtain ⟨q, rfl, hq, C4⟩ := own_co own4 rfl (by omega)
  have hC := containsf_at q k4 2 [0, 0] false w4 C4 rfl (by omega) rfl
  clear own4 g4 own3 T3 B4 C4
  go_wp2_with fail
  refine hC.mono ?_
  rintro e w5 ⟨rfl, b5⟩
  go_wp2
  go_ret
  exact ⟨rfl, B5.trans (b5.mono B5.size)⟩
set_option maxRecDepth 20000 in
set_option maxHeartbeats 2000000 in
theorem nil_law (n : Int) (w : World) : Calls Try.prog 4 #[.int .u64 n] w fun e w' => e = .returned (.bool true) ∧ Below w.heap.size w w' := by
  go_enter Try.func4, Try.ntmps4
  go_wp2_with fail
  refine (alive_any _).mono ?_
  rintro e w1 ⟨rfl, B⟩
  go_wp2_with fail
  refine (new_right none 0 0 [] _ (us_nil _) rfl right_nil).mono ?_
  rintro e w2 ⟨p, rfl, _, b⟩
  replace B := B.trans (b.mono B.size)
  clear b
  go_wp2_with fail
  refine (put_nil _ _).mono ?_
  rintro e w3 ⟨rfl, b⟩
  replace B := B.trans (b.mono B.size)
  clear b
  go_wp2_with fail
  refine (join_nil _ _).mono ?_
  rintro e w4 ⟨rfl, b⟩
  replace B := B.trans (b.mono B.size)
  clear b
  go_wp2_with fail
  refine (join_nil2 _ _).mono ?_
  rintro e w5 ⟨rfl, b⟩
  replace B := B.trans (b.mono B.size)
  clear b
  go_wp2_with fail
  refine (buckets_nil _).mono ?_
  rintro e w6 ⟨rfl, b⟩
  replace B := B.trans (b.mono B.size)
  clear b
  go_wp2_with fail
  refine (count_nil _).mono ?_
  rintro e w7 ⟨rfl, b⟩
  replace B := B.trans (b.mono B.size)
  clear b
  go_wp2_with fail
  refine (sum_nil _).mono ?_
  rintro e w8 ⟨rfl, b⟩
  replace B := B.trans (b.mono B.size)
  clear b
  go_wp2_with fail
  refine (full_nil _).mono ?_
  rintro e w9 ⟨rfl, b⟩
  replace B := B.trans (b.mono B.size)
  clear b
  go_wp2
  go_ret
  exact ⟨rfl, B⟩
end Go.Proofs.Ythggaoobbkflaaa.H11
