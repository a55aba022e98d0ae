/-
  What the document's Bytes of a value does.
-/
import Derived.Test.YtndcdidepdcmnaaKV04Put
set_option linter.unusedSimpArgs false
set_option linter.unusedVariables false
namespace Go.Proofs.Ytndcdidepdcmnaa.V04
open Go.RowKit Go.Lib Go.Proofs.Ytndcdidepdcmnaa.Wd Go.Proofs.Ytndcdidepdcmnaa.V01

theorem refput_at (N : Int) (n : Nat) (r : List UInt8) (w : World) (hN : N = (n : Int)) (hr : vby n = r) (hn : N ≤ 18446744073709551615) :
    Calls Try.prog 47 #[.int .u64 N] w fun e w' => Own w w' e r := by
  subst hN; subst hr
  exact refput_any n w hn

set_option maxRecDepth 20000 in
set_option maxHeartbeats 1000000 in
theorem rb_int (N : Int) (S : ByteArray) (r : List UInt8) (w : World) (h0 : -9223372036854775808 ≤ N) (h1 : N ≤ 9223372036854775807) (hr : right 1 N S = true) (hv : 1 :: vby (zig N).toNat = r) :
    Calls Try.prog 32 #[vl 1 N S] w fun e w' => Own w w' e r := by
  obtain ⟨i0, hi, hz0, hz1, hz2⟩ := info_parts Wd.byte_info
  have hzb := zig_bd N h0 h1
  have hlen := vby_le (zig N).toNat
  have HV := Lib.hid hv
  clear hv
  go_enter Try.func32, Try.ntmps32
  go_wp2_with fail
  refine (refright_any 1 N S true _ hr).mono ?_
  rintro e w1 ⟨rfl, rfl⟩
  have b1 : Below w.heap.size w ((w.alloc (box 56 1 N S)).alloc (box 56 1 N S)) := by go_grown
  have vx : Vx ((w.alloc (box 56 1 N S)).alloc (box 56 1 N S)) w.heap.size 1 N S := (Vx.box w _ _ _ S).old _
  generalize (w.alloc (box 56 1 N S)).alloc (box 56 1 N S) = w1 at *
  have c0 := vx.c0
  have c1 := vx.c1
  have c2 := vx.c2
  have lt := vx.lt
  go_wp2_with fail
  refine (refzig_any N _ h0 h1).mono ?_
  rintro e w2 ⟨rfl, rfl⟩
  have b2 := b1.alloc b1.size (.cells #[.int .u8 1] 5)
  have hL := own_lit w1 5 (.int .u8 1) w.heap.size b1.size
  obtain ⟨q, hq⟩ : ∃ q, vby (zig N).toNat = q := ⟨_, rfl⟩
  rw [hq] at hlen
  have HQ := Lib.hid hq
  clear c0 c1 c2 hr vx hq
  generalize w1.alloc (.cells #[.int .u8 1] 5) = w2 at *
  generalize zig N = Z at *
  go_wp2_with fail
  refine (refput_at Z Z.toNat q w2 (by omega) (un HQ) hzb.2).mono ?_
  rintro e w3 ⟨A3, c3, rfl, hown3, hb3⟩
  have hB3 := Rd.own hown3
  have hL3 := own_below hL hb3
  have b3 := b2.trans (hb3.mono b2.size)
  obtain ⟨m, hm⟩ : ∃ m, q.length = m := ⟨_, rfl⟩
  rw [hm] at hlen hB3 ⊢
  clear hown3 hb3 hL
  go_wp2_with (at_builtin; refine wpList_append_rd _ rfl (.tmp 14) (.tmp 18) 25 rfl w.heap.size 5 i0 _ 1 1 Try.underlying25 hi hz0 hz1 hz2 rfl (by decide) _ 1 [.int .u8 1] rfl hL3 A3 m c3 (Lib.byteCells q) rfl hB3 (bc_one _) ?d1 ?d2 ?d3 ?_)
  case d1 => unfold maxLen; omega
  case d2 => omega
  case d3 => exact b3.size
  intro A4 c4 w4 hown4 hg4
  have b4 : Below w.heap.size w w4 := b3.grown hg4 b3.size (fun k hk => (hL3.lt k hk).1)
  have hrl : r.length = 1 + m := by rw [← un HV, ← hm, ← un HQ, List.length_cons]; omega
  have hx5 : [Value.int .u8 1] ++ Lib.byteCells q = Lib.byteCells r := by rw [← un HV, ← un HQ]; rfl
  have hown5 : w4.ownsRow w.heap.size 5 1 (.slice A4 (1 + m) c4) (1 + m) (Lib.byteCells r) := by rw [← hx5]; exact hown4
  clear hL3 hB3 hg4 hown4
  go_wp2
  go_ret
  refine ⟨A4, c4, ?_, ?_, b4⟩
  · rw [hrl]; rfl
  · rw [hrl]; exact hown5
set_option maxRecDepth 20000 in
set_option maxHeartbeats 1000000 in
theorem rb_bool (N : Int) (S : ByteArray) (r : List UInt8) (w : World) (h0 : 0 ≤ N) (h1 : N ≤ 1) (hr : right 2 N S = true) (hv : [2, UInt8.ofNat N.toNat] = r) :
    Calls Try.prog 32 #[vl 2 N S] w fun e w' => Own w w' e r := by
  obtain ⟨i0, hi, hz0, hz1, hz2⟩ := info_parts Wd.byte_info
  have HV := Lib.hid hv
  clear hv
  go_enter Try.func32, Try.ntmps32
  go_wp2_with fail
  refine (refright_any 2 N S true _ hr).mono ?_
  rintro e w1 ⟨rfl, rfl⟩
  have b1 : Below w.heap.size w ((w.alloc (box 56 2 N S)).alloc (box 56 2 N S)) := by go_grown
  have vx : Vx ((w.alloc (box 56 2 N S)).alloc (box 56 2 N S)) w.heap.size 2 N S := (Vx.box w _ _ _ S).old _
  generalize (w.alloc (box 56 2 N S)).alloc (box 56 2 N S) = w1 at *
  have c0 := vx.c0
  have c1 := vx.c1
  have c2 := vx.c2
  have lt := vx.lt
  have b2 := b1.alloc b1.size (.cells #[.int .u8 2] 5)
  have hL := own_lit w1 5 (.int .u8 2) w.heap.size b1.size
  have lt2 : w.heap.size < w1.heap.size + 1 := by omega
  go_wp2_with (at_builtin; refine wpList_append_one _ rfl (.tmp 23) (.tmp 27) 25 rfl w.heap.size 5 i0 _ 1 Try.underlying25 hi hz0 hz1 hz2 rfl _ 1 [.int .u8 2] rfl hL (.int .u8 N) (congrArg (fun b => Value.slice (some ⟨b, 0, none⟩) 1 1) (show w1.heap.size + 1 = _ by simp)) rfl ?d1 ?d2 ?d3 ?_)
  case d1 => unfold maxLen; omega
  case d2 => omega
  case d3 => exact b2.size
  intro A4 c4 w4 hown4 hb4
  have b4 := b2.trans hb4
  clear hL hb4 b2 c0 c1 c2 vx
  go_wp2
  go_ret
  rw [← un HV]
  refine ⟨A4, c4, rfl, ?_, b4⟩
  have e1 : ([Value.int .u8 2] ++ [Value.int .u8 N]) = Lib.byteCells [2, UInt8.ofNat N.toNat] := by
    simp only [Lib.byteCells, List.map_cons, List.map_nil, List.cons_append, List.nil_append]
    rw [UInt8.toNat_ofNat_of_lt' (by show _ < 256; omega)]
    simp
    omega
  rw [← e1]
  exact hown4
theorem rb_wrong (K N : Int) (S : ByteArray) (w : World) (hr : right K N S = false) : Calls Try.prog 32 #[vl K N S] w fun e w' => Own w w' e [] := by
  go_enter Try.func32, Try.ntmps32
  go_wp2_with (go_at_call 26; refine (refright_any K N S false _ hr).mono ?_; rintro e w1 ⟨rfl, rfl⟩)
  go_ret
  exact ⟨none, 0, rfl, World.ownsRow_nil _ _ _ _, by go_grown⟩
set_option maxRecDepth 20000 in
set_option maxHeartbeats 1000000 in
theorem rb_text (S : ByteArray) (r : List UInt8) (w : World) (hS : S.size ≤ 4096) (hr : right 3 0 S = true) (hv : 3 :: (vby S.size ++ S.data.toList) = r) :
    Calls Try.prog 32 #[vl 3 0 S] w fun e w' => Own w w' e r := by
  obtain ⟨i0, hi, hz0, hz1, hz2⟩ := info_parts Wd.byte_info
  have hlen := vby_le S.size
  have hpos := vsize_pos S.size
  rw [← vby_len] at hpos
  have HV := Lib.hid hv
  clear hv
  go_enter Try.func32, Try.ntmps32
  go_wp2_with fail
  refine (refright_any 3 0 S true _ hr).mono ?_
  rintro e w1 ⟨rfl, rfl⟩
  have b1 : Below w.heap.size w ((w.alloc (box 56 3 0 S)).alloc (box 56 3 0 S)) := by go_grown
  have vx : Vx ((w.alloc (box 56 3 0 S)).alloc (box 56 3 0 S)) w.heap.size 3 0 S := (Vx.box w _ _ _ S).old _
  generalize (w.alloc (box 56 3 0 S)).alloc (box 56 3 0 S) = w1 at *
  have c0 := vx.c0
  have c1 := vx.c1
  have c2 := vx.c2
  have lt := vx.lt
  have b2 := b1.alloc b1.size (.cells #[.int .u8 3] 5)
  have hL := own_lit w1 5 (.int .u8 3) w.heap.size b1.size
  have v2 := vx.old (.cells #[.int .u8 3] 5)
  go_wp2_with fail
  have d2 := v2.c2
  obtain ⟨q, hq⟩ : ∃ q, vby S.size = q := ⟨_, rfl⟩
  rw [hq] at hlen hpos
  have HQ := Lib.hid hq
  obtain ⟨m, hm⟩ : ∃ m, q.length = m := ⟨_, rfl⟩
  rw [hm] at hlen hpos
  have h63 : 1 + m + S.size ≤ maxLen := by unfold maxLen; omega
  have h47 : 1 + m + S.size ≤ 140737488355328 := by omega
  have g63 : 1 + m ≤ maxLen := by unfold maxLen; omega
  have g47 : (1 + m) * 1 ≤ 140737488355328 := by omega
  have h64 : (S.size : Int) ≤ 18446744073709551615 := by omega
  have hwr : IntKind.u64.wrap (S.size : Int) = (S.size : Int) := IntWalk.u64_in _ (by omega)
  clear hq c0 c1 c2 vx
  generalize w1.alloc (.cells #[.int .u8 3] 5) = w2 at *
  have hLd : w2.drew.ownsRow w.heap.size 5 1 (.slice (some ⟨w1.heap.size, 0, none⟩) 1 1) 1 [.int .u8 3] := hL
  go_region_held3 (fun w' => w'.cell? ⟨w.heap.size, 2, none⟩ = some (.string S))
    (first | exact k5 | exact k4 | exact k3 | go_keep)
    (first
      | (go_at_call 47; (with_reducible refine (refput_at (S.size : Int) S.size q _ rfl (un HQ) h64).mono ?_); rintro e w3 ⟨A3, c3, rfl, hown3, hb3⟩; rw [hm] at hown3 ⊢; obtain ⟨g3, u3, rfl, hg3, hlt3, _, _, _⟩ := own_first hown3 hpos; have hR3 := Rd.own hown3; have hL3 := own_below hLd hb3; have k3 : w3.cell? ⟨w.heap.size, 2, none⟩ = some (.string S) := (hb3.cell (p := ⟨w.heap.size, 2, none⟩) v2.lt).trans v2.c2)
      | (refine step_append_lies _ rfl (.tmp 29) (.tmp 34) 25 rfl w.heap.size 5 i0 _ 1 1 Try.underlying25 hi hz0 hz1 hz2 rfl (Nat.lt_succ_self 0) _ 1 [.int .u8 3] rfl hL3 ⟨g3, 0, none⟩ m c3 (Lib.byteCells q) rfl hR3.len (hR3.at_ _ rfl) (bc_one q) hpos g63 g47 (Nat.le_trans b2.size hb3.size) w3.heap.size rfl ?_; intro g4 c4 w4 hown4 hg4 hat4 hlt4; have k4 := keep_far hg4 k3 (fun k hk => Option.some.inj hk ▸ lt); have hlt5 : w.heap.size < g4 := hat4.elim (fun h => Option.some.inj h ▸ lt) (fun h => h ▸ Nat.lt_of_lt_of_le v2.lt hb3.size); have hB4 : w.heap.size ≤ w4.heap.size := Nat.le_of_lt (Nat.lt_trans hlt5 hlt4))
      | (refine step_append_str rfl (.tmp 35) (.tmp 37) _ _ rfl w.heap.size 5 i0 Try.underlying25 Try.underlying9 hi hz0 hz1 hz2 _ (1 + m) _ rfl hown4 S rfl h63 h47 hB4 ?_; intro A5 c5 w5 hown5 hg5; have k5 := keep_far hg5 k4 (fun k hk => Option.some.inj hk ▸ hlt5)))
  have b3 := b2.drew.trans (hb3.mono b2.size)
  have b4 : Below w.heap.size w w4 := b3.grown hg4 b3.size (fun k hk => (hL3.lt k hk).1)
  have b5 : Below w.heap.size w w5 := b4.grown hg5 b4.size (fun k hk => (hown4.lt k hk).1)
  have hr5 : r.length = 1 + m + S.size := by
    have : S.data.toList.length = S.size := Array.length_toList
    rw [← un HV, ← hm, ← un HQ, List.length_cons, List.length_append, this]
    omega
  have hx5 : [Value.int .u8 3] ++ Lib.byteCells q ++ strCells S = Lib.byteCells r := by rw [str_bc, ← un HV, ← un HQ, List.append_assoc, ← bc_app]; rfl
  have hown6 : w5.ownsRow w.heap.size 5 1 (.slice A5 (1 + m + S.size) c5) (1 + m + S.size) (Lib.byteCells r) := by rw [← hx5]; exact hown5
  clear hown3 hown4 hown5 hg4 hg5 hb3 b3 hL3 hR3 hLd hL
  go_wp2
  go_ret
  refine ⟨A5, c5, ?_, ?_, b5⟩
  · rw [hr5]; rfl
  · rw [hr5]; exact hown6
theorem rb_any (K N : Int) (S : ByteArray) (w : World) (h0 : -9223372036854775808 ≤ N) (h1 : N ≤ 9223372036854775807) :
    Calls Try.prog 32 #[vl K N S] w fun e w' => Own w w' e (vbs K N S) := by
  unfold vbs
  cases hr : right K N S with
  | false => exact rb_wrong K N S w hr
  | true =>
    have hr' : (K = 1 ∧ S.size = 0) ∨ (K = 2 ∧ S.size = 0 ∧ (N = 0 ∨ N = 1)) ∨ (K = 3 ∧ N = 0 ∧ S.size ≤ 4096) := by simpa [right] using hr
    rw [if_pos rfl]
    rcases hr' with ⟨rfl, _⟩ | ⟨rfl, _, h⟩ | ⟨rfl, rfl, h⟩
    · exact rb_int N S _ w h0 h1 hr rfl
    · exact rb_bool N S _ w (by omega) (by omega) hr rfl
    · exact rb_text S _ w h hr rfl
end Go.Proofs.Ytndcdidepdcmnaa.V04
