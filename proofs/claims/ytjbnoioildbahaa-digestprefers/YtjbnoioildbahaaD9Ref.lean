/-
  The document's Trace, Part, Share; the chapter's example.
-/
import Derived.Test.YtjbnoioildbahaaD9Trace
import Derived.Lib.SlBytesConst
set_option linter.unusedSimpArgs false
set_option linter.unusedVariables false
namespace Go.Proofs.Ytjbnoioildbahaa.D09
open Go.RowKit Go.Lib Go.Proofs.Ytjbnoioildbahaa.Wd

theorem byte_info : (Try.prog.info? 5).map (fun i => (i.zero, i.size, i.bytes)) = some (some (.int .u8 0), 1, 1) := by kernel_rfl
/-- where the loop is -/
structure RtR (w : World) (t k : Nat) (v : Value) (n : Nat) (wr : World) : Prop where
  own : wr.ownsRow w.heap.size 5 1 v k (byteCells (tb t k))
  num : n = t / 256 ^ k
  bel : Below w.heap.size w wr
theorem RtR.start (w : World) (t : Nat) : RtR w t 0 (.slice none 0 0) t w := ⟨World.ownsRow_nil _ _ _ _, by simp, Below.refl _ _⟩
theorem RtR.step {w W : World} {t k n : Nat} {A : Option Addr} {c : Nat} (h : n = t / 256 ^ k) (h1 : W.ownsRow w.heap.size 5 1 (.slice A (k + 1) c) (k + 1) (byteCells (tb t k) ++ [.int .u8 ((n : Int) % 256)])) (h2 : Below w.heap.size w W) : RtR w t (k + 1) (.slice A (k + 1) c) (n / 256) W := by
  refine ⟨?_, ?_, h2⟩
  · have e : byteCells (tb t (k + 1)) = byteCells (tb t k) ++ [.int .u8 ((n : Int) % 256)] := by
      have e2 : (tbk t k : Int) = (n : Int) % 256 := by
        rw [h]
        exact Int.natCast_emod _ _
      rw [tb_succ, bc_app]
      simp only [byteCells, List.map_cons, List.map_nil, tbk_nat, e2]
    rw [e]
    exact h1
  · rw [h, Nat.div_div_eq_div_mul, Nat.pow_succ]
set_option maxRecDepth 20000 in
set_option maxHeartbeats 1000000 in
theorem rtrace_at (t : Nat) (w : World) (ht : (t : Int) ≤ 18446744073709551615) :
    Calls Try.prog 23 #[.int .u64 (t : Int)] w fun e w' => e = .returned (.int .u64 (tr t)) ∧ Below w.heap.size w w' := by
  obtain ⟨i0, hi, hz0, hz1, hz2⟩ := info_parts byte_info
  have h0 := RtR.start w t
  go_enter Try.func23, Try.ntmps23
  go_wp2
  go_loopw [0, 3, 4] (fun a v i wr => ∃ (k n : Nat) (A : Option Addr) (c : Nat), a = .int .u64 (n : Int) ∧ v = .slice A k c ∧ i = .int .i64 (k : Int) ∧ k ≤ 8 ∧ (n : Int) ≤ 18446744073709551615 ∧ RtR w t k v n wr) (fun _ _ i _ => 8 - (intOf i).toNat)
  case atStart => exact ⟨0, t, none, 0, rfl, rfl, rfl, by omega, ht, h0⟩
  case round =>
    obtain ⟨k, n, A, c, rfl, rfl, rfl, hk, hn, R⟩ := hrel
    clear h0
    by_cases h : k < 8
    · have hown := R.own
      have hnum := Lib.hid R.num
      have hb := R.bel
      have hbs := hb.size
      clear R
      go_wp2_with (at_builtin; refine wpList_append_one wr rfl (.tmp 9) (.tmp 13) 22 rfl w.heap.size 5 i0 _ 1 Try.underlying22 hi hz0 hz1 hz2 rfl (.slice A k c) k (byteCells (tb t k)) rfl hown (.int .u8 ((n : Int) % 256)) rfl rfl ?d1 ?d2 ?d3 ?_)
      case d1 => unfold maxLen; omega
      case d2 => omega
      case d3 => exact hbs
      intro A4 c4 w4 hown4 hb4
      have hR := RtR.step (A := A4) (c := c4) (n := n) hnum.out hown4 (hb.trans hb4)
      clear hown hnum hb hown4 hb4
      go_wp2
      go_roundw
      case rel => exact ⟨k + 1, n / 256, A4, c4, by go_num, rfl, by go_num, by omega, by omega, hR⟩
      case measure => first | go_num | (simp [intOf]; omega)
    · have hkl : k = 8 := by omega
      subst hkl
      have E : Bs wr A c (tb t 8) := Rd.own (by have := R.own; rw [tb_len]; exact this)
      have hh := rhash_at first _ c 8 _ _ wr E (tb_len t 8) (by omega) rfl
      have hB := R.bel
      unfold first at hh
      clear R E
      go_wp2_with fail
      refine hh.mono ?_
      rintro e w' ⟨rfl, rfl⟩
      go_wp2
      go_ret
      exact ⟨rfl, hB⟩
set_option maxRecDepth 20000 in
set_option maxHeartbeats 1000000 in
theorem rpart_at (t : Nat) (n : Int) (r : Int) (w : World) (ht : (t : Int) ≤ 18446744073709551615) (hn : n ≤ 9223372036854775807) (hr : part t n = r) :
    Calls Try.prog 12 #[.int .u64 (t : Int), .int .i64 n] w fun e w' => e = .returned (.int .i64 r) ∧ Below w.heap.size w w' := by
  have hT := fun W => rtrace_at t W ht
  have hin := tr_in t
  unfold part at hr
  generalize tr t = x at *
  obtain ⟨x0, x1⟩ := hin
  by_cases h1 : n < 1
  · rw [if_pos h1] at hr
    subst hr
    clear hT
    go_enter Try.func12, Try.ntmps12
    go_wp2
    go_ret
    exact ⟨rfl, Below.refl _ _⟩
  · rw [if_neg h1] at hr
    have hE := Lib.hid hr
    have m0 := Int.emod_nonneg x (b := n) (by omega)
    have m1 := Int.emod_lt_of_pos x (b := n) (by omega)
    have n0 : 0 ≤ n := by omega
    have n2 : n ≠ 0 := by omega
    clear hr
    go_enter Try.func12, Try.ntmps12
    go_wp2_with fail
    refine (hT _).mono ?_
    rintro e w' ⟨rfl, hb⟩
    go_wp2
    go_ret
    refine ⟨ret_int ?_, hb⟩
    rw [← hE.out]
theorem rshare_at (t : Nat) (n : Int) (b : Bool) (w : World) (ht : (t : Int) ≤ 18446744073709551615) (hr : decide (tr t % 1000 < n) = b) :
    Calls Try.prog 14 #[.int .u64 (t : Int), .int .i64 n] w fun e w' => e = .returned (.bool b) ∧ Below w.heap.size w w' := by
  have hT := fun W => rtrace_at t W ht
  have hin := tr_in t
  generalize tr t = x at *
  obtain ⟨x0, x1⟩ := hin
  have m0 := Int.emod_nonneg x (b := 1000) (by omega)
  have m1 := Int.emod_lt_of_pos x (b := 1000) (by omega)
  have hE := Lib.hid hr
  clear hr
  go_enter Try.func14, Try.ntmps14
  go_wp2_with fail
  refine (hT _).mono ?_
  rintro e w' ⟨rfl, hb⟩
  go_wp2
  go_ret
  refine ⟨ret_bool ?_, hb⟩
  rw [← hE.out]

theorem hash_none : fnv first [] = 14695981039346656037 := rfl
theorem hash_a : fnv first [97] = 12638187200555641996 := by decide
set_option maxRecDepth 20000 in
set_option maxHeartbeats 1000000 in
theorem alive_any (w : World) : Calls Try.prog 7 #[] w fun e w' => e = .returned (.bool true) ∧ Below w.heap.size w w' := by
  have h5 := tr_in 5
  have m0 := Int.emod_nonneg (tr 5) (b := 1000) (by omega)
  have m1 := Int.emod_lt_of_pos (tr 5) (b := 1000) (by omega)
  have H1 := fun W => hash_at none 0 0 [] _ W (Bs.nil W) rfl (by omega) hash_none
  have H2 := hash_at _ 1 1 [97] _ _ (Bs.const w 5 (1, 2) #[.int .u8 97] [97] rfl (by simp)) rfl (by omega) hash_a
  have hcv := Lib.run_convert_bytes_const (P := Try.prog) w 22 5 #[.int .u8 97] 1 1 Try.underlying22 Try.underlying5
  have H3 : ∀ W : World, Calls Try.prog 13 #[.int .u64 5, .int .i64 1000] W fun e w' => e = .returned (.bool true) ∧ Below W.heap.size W w' := fun W => share_at 5 1000 true W (by omega) (by simp; omega)
  have H4 : ∀ W : World, Calls Try.prog 13 #[.int .u64 5, .int .i64 0] W fun e w' => e = .returned (.bool false) ∧ Below W.heap.size W w' := fun W => share_at 5 0 false W (by omega) (by simp; omega)
  clear h5 m0 m1
  go_enter Try.func7, Try.ntmps7
  go_wp2_with fail
  refine (H1 _).mono ?_
  rintro e w' ⟨rfl, rfl⟩
  go_wp2_with fail
  refine H2.mono ?_
  rintro e w' ⟨rfl, rfl⟩
  have b0 : Below w.heap.size w (w.alloc (.cells #[.int .u8 97] 5 (1, 2))) := (Below.refl _ _).alloc (Nat.le_refl _) _
  go_wp2_with fail
  refine (H3 _).mono ?_
  rintro e w1 ⟨rfl, b1⟩
  replace b0 := b0.trans (b1.mono b0.size)
  clear b1
  go_wp2_with fail
  refine (H4 _).mono ?_
  rintro e w2 ⟨rfl, b2⟩
  replace b0 := b0.trans (b2.mono b0.size)
  clear b2
  go_wp2
  go_ret
  exact ⟨rfl, b0⟩
end Go.Proofs.Ytjbnoioildbahaa.D09
