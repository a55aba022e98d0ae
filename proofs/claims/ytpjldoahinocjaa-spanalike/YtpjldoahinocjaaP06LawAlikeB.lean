/-
  The walk of SpanAlike, where the span may not be.
-/
import Derived.Test.YtpjldoahinocjaaP06AlkR
set_option linter.unusedSimpArgs false
set_option linter.unusedVariables false
namespace Go.Proofs.Ytpjldoahinocjaa.P06
open Go.Shelf Go.RowKit Go.Lib Go.Sort Go.Proofs.Ytpjldoahinocjaa.Wd Go.Proofs.Ytpjldoahinocjaa.V04

set_option maxRecDepth 20000 in
set_option maxHeartbeats 8000000 in
theorem alike_lawB (s : Sp) (A : Option Addr) (c n : Nat) (l : List At) (a : Int) (w : World) (h : Ats w A c l) (hn : l.length = n) (a0 : 0 ≤ a) (a1 : a ≤ 255) (q : Bool) (hq : q = true ↔ Amb l) (r : Int) (hc : chk s q = r) (hr : 50 ≤ r ∧ r ≤ 55) :
    Calls Try.prog 5 #[spv s (.slice A n c), .int .u8 a] w fun e w' => e = .returned (.bool true) ∧ Below w.heap.size w w' := by
  have K1 : Bk (w.alloc (.cells (spc s (.slice A n c)) 25)) w.heap.size 25 (spc s (.slice A n c)) := Bk.new w _ _
  have b0 : Below w.heap.size w (w.alloc (.cells (spc s (.slice A n c)) 25)) := by go_grown
  have hm : n ≤ 9223372036854775807 := by have := h.cap; have := h.max; unfold maxLen at this; omega
  obtain ⟨fa, hfa⟩ : ∃ q, far s l = q := ⟨_, rfl⟩
  have hFa := fun W (hW : Below w.heap.size w W) => far_at s A c n l fa W (h.below hW) hn hm hfa
  have HFa := Lib.hid hfa
  have HR := Lib.hid hr
  have HC := Lib.hid hc
  have HQ := Lib.hid hq
  clear hfa hm hr hc hq
  go_enter Try.func5, Try.ntmps5
  go_wp2_with fail
  refine (alive_any _).mono ?_
  rintro e w1 ⟨rfl, b1⟩
  replace K1 := K1.below b1
  replace b0 := b0.trans (b1.mono b0.size)
  clear b1
  have x0 : w1.cell? ⟨w.heap.size, 0, none⟩ = some (.int .u64 s.T) := K1.cell 0
  have x1 : w1.cell? ⟨w.heap.size, 1, none⟩ = some (.int .u64 s.I) := K1.cell 1
  have x2 : w1.cell? ⟨w.heap.size, 2, none⟩ = some (.int .u64 s.P) := K1.cell 2
  have x3 : w1.cell? ⟨w.heap.size, 3, none⟩ = some (.string s.sv) := K1.cell 3
  have x4 : w1.cell? ⟨w.heap.size, 4, none⟩ = some (.string s.nm) := K1.cell 4
  have x5 : w1.cell? ⟨w.heap.size, 5, none⟩ = some (.int .i64 s.kd) := K1.cell 5
  have x6 : w1.cell? ⟨w.heap.size, 6, none⟩ = some (.int .i64 s.st) := K1.cell 6
  have x7 : w1.cell? ⟨w.heap.size, 7, none⟩ = some (.int .u64 s.t0) := K1.cell 7
  have x8 : w1.cell? ⟨w.heap.size, 8, none⟩ = some (.int .u64 s.t1) := K1.cell 8
  have x9 : w1.cell? ⟨w.heap.size, 9, none⟩ = some (.slice A n c) := K1.cell 9
  go_wp2_with fail
  refine (hFa _ b0).mono ?_
  rintro e w2 ⟨rfl, b1⟩
  replace K1 := K1.below b1
  replace b0 := b0.trans (b1.mono b0.size)
  clear b1 hFa x0 x1 x2 x3 x4 x5 x6 x7 x8 x9
  cases fa with
  | true =>
    go_wp2
    go_ret
    exact ⟨rfl, b0⟩
  | false =>
    have z : n ≤ 40 := by rw [← hn]; exact far_len (un HFa)
    have hs := far_sizes2 (un HFa)
    have hO := fun W (hW : Below w.heap.size w W) => of_at s A c n l W (h.below hW) hn z
    obtain ⟨mm, hmm⟩ : ∃ q : Int, 1 + a = q := ⟨_, rfl⟩
    have x0 : w2.cell? ⟨w.heap.size, 0, none⟩ = some (.int .u64 s.T) := K1.cell 0
    have x1 : w2.cell? ⟨w.heap.size, 1, none⟩ = some (.int .u64 s.I) := K1.cell 1
    have x2 : w2.cell? ⟨w.heap.size, 2, none⟩ = some (.int .u64 s.P) := K1.cell 2
    have x3 : w2.cell? ⟨w.heap.size, 3, none⟩ = some (.string s.sv) := K1.cell 3
    have x4 : w2.cell? ⟨w.heap.size, 4, none⟩ = some (.string s.nm) := K1.cell 4
    have x5 : w2.cell? ⟨w.heap.size, 5, none⟩ = some (.int .i64 s.kd) := K1.cell 5
    have x6 : w2.cell? ⟨w.heap.size, 6, none⟩ = some (.int .i64 s.st) := K1.cell 6
    have x7 : w2.cell? ⟨w.heap.size, 7, none⟩ = some (.int .u64 s.t0) := K1.cell 7
    have x8 : w2.cell? ⟨w.heap.size, 8, none⟩ = some (.int .u64 s.t1) := K1.cell 8
    have x9 : w2.cell? ⟨w.heap.size, 9, none⟩ = some (.slice A n c) := K1.cell 9
    go_wp2_with fail
    refine (hO _ b0).mono ?_
    rintro e w3 ⟨A5, c5, rfl, H5, b1⟩
    replace K1 := K1.below b1
    replace b0 := b0.trans (b1.mono b0.size)
    clear b1 x0 x1 x2 x3 x4 x5 x6 x7 x8 x9
    have hsv := hs.1
    have hnm := hs.2
    have hA1 := alike_any s mm A5 c5 n l w3 (H5.low (Nat.zero_le _)) hn z (by omega) (by omega)
    clear H5
    obtain ⟨y, hy⟩ : ∃ y, alk s mm = y := ⟨_, rfl⟩
    have HY := Lib.hid hy
    rw [hy] at hA1
    clear hy
    go_wp2_with fail
    refine hA1.mono ?_
    rintro e w4 ⟨A6, c6, Y, rfl, hYn, hYs, hYk, H6, b1⟩
    replace K1 := K1.below b1
    replace b0 := b0.trans (b1.mono b0.size)
    clear b1 hA1
    have hm1 : 1 ≤ mm := by omega
    have hm2 : mm ≤ 256 := by omega
    have ysv : lab s.sv mm = y.sv := by rw [← un HY]; rfl
    have ynm : lab s.nm mm = y.nm := by rw [← un HY]; rfl
    have ls1 := lab_size s.sv mm hm1
    have ls2 := lab_size s.nm mm hm1
    rw [ysv] at ls1
    rw [ynm] at ls2
    have yy : alk y mm = y := by rw [← un HY]; exact alk_alk s mm hm1
    have HYs := Lib.hid hYs
    have HYk := Lib.hid hYk
    have HYn := Lib.hid hYn
    have hCk1 : ∀ (A7 : Option Addr) (c7 : Nat) (W : World), Hd 0 W A7 c7 l → Calls Try.prog 10 #[spv s (.slice A7 n c7)] W fun e w' => e = .returned (.int .i64 r) ∧ Below W.heap.size W w' := fun A7 c7 W h7 => by
      have := check_any s A7 c7 n l W h7 hn z q (un HQ)
      rw [un HC] at this
      exact this
    have hAl : ∀ W, Below w4.heap.size w4 W → Calls Try.prog 14 #[spv y (.slice A6 n c6), .int .i64 mm] W (AlOut W y n Y) := fun W hW => by
      have := alike_any y mm A6 c6 n Y W ((H6.below hW).low (Nat.zero_le _)) (un HYn) z (by omega) (by omega)
      rw [yy] at this
      exact this
    have hCm : ∀ (A8 : Option Addr) (c8 : Nat) (Y8 : List At) (W : World), Hd 0 W A8 c8 Y8 → Y8.length = n → Srt Y8 → Keep Y Y8 → Below w4.heap.size w4 W → Calls Try.prog 19 #[spv y (.slice A8 n c8), spv y (.slice A6 n c6)] W fun e w' => e = .returned (.int .i64 0) ∧ Below W.heap.size W w' := fun A8 c8 Y8 W h8 e8 s8 k8 hW => by
      have e := uniq ord Y Y8 (un HYs) s8 k8
      subst e
      have := compare_any y y A8 A6 c8 c6 Y Y n n W h8 ((H6.below hW).low (Nat.zero_le _)) e8 (un HYn) z z
      rw [cmpS_self] at this
      exact this
    have t1 : decide (mm < (y.sv.size : Int)) = false := decide_eq_false (by omega)
    have t2 : decide (mm < (y.nm.size : Int)) = false := decide_eq_false (by omega)
    have t3 : ((n : Int) != (n : Int)) = false := by simp
    have HN := Lib.hid hn
    have er : (r == 0) = false := beq_false_of_ne (by have := un HR; omega)
    skip
    clear hs hsv hnm HFa ysv ynm ls1 ls2 yy hYs hYk hYn hn
    have bx : Below w4.heap.size w4 (w4.alloc (.cells (spc y (.slice A6 n c6)) 30)) := by go_grown
    have K2 : Bk (w4.alloc (.cells (spc y (.slice A6 n c6)) 30)) w4.heap.size 30 (spc y (.slice A6 n c6)) := Bk.new w4 _ _
    replace K1 := K1.below bx
    replace b0 := b0.trans (bx.mono b0.size)
    have R0 : AlR w w4 s y A n c A6 c6 (w4.alloc (.cells (spc y (.slice A6 n c6)) 30)) := ⟨K1, K2, b0, bx⟩
    clear K1 K2 b0 bx
    go_wp2_with fail
    generalize w4.alloc (.cells (spc y (.slice A6 n c6)) 30) = W4 at *
    have D : AlR w w4 s y A n c A6 c6 W4.drew := ⟨R0.k1, R0.k2, R0.b0.drew, R0.b4.drew⟩
    clear R0
    refine wp_region_held_drew (S := fun w' => w'.cell? ⟨w.heap.size, 0, none⟩ = some (.int .u64 s.T) ∧ w'.cell? ⟨w.heap.size, 1, none⟩ = some (.int .u64 s.I) ∧ w'.cell? ⟨w.heap.size, 2, none⟩ = some (.int .u64 s.P) ∧ w'.cell? ⟨w.heap.size, 3, none⟩ = some (.string s.sv) ∧ w'.cell? ⟨w.heap.size, 4, none⟩ = some (.string s.nm) ∧ w'.cell? ⟨w.heap.size, 5, none⟩ = some (.int .i64 s.kd) ∧ w'.cell? ⟨w.heap.size, 6, none⟩ = some (.int .i64 s.st) ∧ w'.cell? ⟨w.heap.size, 7, none⟩ = some (.int .u64 s.t0) ∧ w'.cell? ⟨w.heap.size, 8, none⟩ = some (.int .u64 s.t1) ∧ w'.cell? ⟨w.heap.size, 9, none⟩ = some (.slice A n c) ∧ w'.cell? ⟨w4.heap.size, 0, none⟩ = some (.int .u64 y.T) ∧ w'.cell? ⟨w4.heap.size, 1, none⟩ = some (.int .u64 y.I) ∧ w'.cell? ⟨w4.heap.size, 2, none⟩ = some (.int .u64 y.P) ∧ w'.cell? ⟨w4.heap.size, 3, none⟩ = some (.string y.sv) ∧ w'.cell? ⟨w4.heap.size, 4, none⟩ = some (.string y.nm) ∧ w'.cell? ⟨w4.heap.size, 5, none⟩ = some (.int .i64 y.kd) ∧ w'.cell? ⟨w4.heap.size, 6, none⟩ = some (.int .i64 y.st) ∧ w'.cell? ⟨w4.heap.size, 7, none⟩ = some (.int .u64 y.t0) ∧ w'.cell? ⟨w4.heap.size, 8, none⟩ = some (.int .u64 y.t1) ∧ w'.cell? ⟨w4.heap.size, 9, none⟩ = some (.slice A6 n c6)) (by kernel_rfl) (twenty D.k1 D.k2) (fun hHeld => ?_)
    refine wpAnyH_take (i := 0) (v := spv s (.slice A n c)) rfl (by kernel_rfl) (by kernel_rfl) (by kernel_rfl) (fun _ _ _ h => h) (Or.inl ⟨rfl, fun W hW => ?_⟩) hHeld ?_
    · (try dsimp only at hW)
      go_simp
    (try simp only [Act.put, List.setIfInBounds_toArray, List.set_cons_zero, List.set_cons_succ, List.getElem_toArray, List.getElem_cons_zero, List.getElem_cons_succ])
    refine wpAnyH_ready (rs := [1]) (by kernel_rfl) (by simp) ?_
    refine AllReadyH.cons rfl (fun K hK => ?_) AllReadyH.nil
    go_simp
    refine (hO _ D.b0).mono ?_
    rintro e v0 ⟨A7, c7, rfl, H7, B0⟩
    have E0 := D.below B0
    (try go_wp2_with fail)
    clear hHeld
    refine hK.out _ _ (twenty E0.k1 E0.k2) (fun hHeld => ?_)
    clear hK K
    (try simp only [Act.put, List.setIfInBounds_toArray, List.set_cons_zero, List.set_cons_succ, List.getElem_toArray, List.getElem_cons_zero, List.getElem_cons_succ])
    refine wpAnyH_ready (rs := [2]) (by kernel_rfl) (by simp) ?_
    refine AllReadyH.cons rfl (fun K hK => ?_) AllReadyH.nil
    go_simp
    refine (hCk1 A7 c7 _ (H7.low (Nat.zero_le _))).mono ?_
    rintro e v1 ⟨rfl, B1⟩
    have E1 := E0.below B1
    (try go_wp2_with fail)
    clear hHeld
    refine hK.out _ _ (twenty E1.k1 E1.k2) (fun hHeld => ?_)
    clear hK K
    (try simp only [Act.put, List.setIfInBounds_toArray, List.set_cons_zero, List.set_cons_succ, List.getElem_toArray, List.getElem_cons_zero, List.getElem_cons_succ])
    refine wpAnyH_take (i := 3) (v := .bool false) rfl (by kernel_rfl) (by kernel_rfl) (by kernel_rfl) (fun _ _ _ h => h) (Or.inl ⟨rfl, fun W hW => ?_⟩) hHeld ?_
    · (try dsimp only at hW)
      go_simp
    (try simp only [Act.put, List.setIfInBounds_toArray, List.set_cons_zero, List.set_cons_succ, List.getElem_toArray, List.getElem_cons_zero, List.getElem_cons_succ])
    refine wpAnyH_take (i := 4) (v := .bool false) rfl (by kernel_rfl) (by kernel_rfl) (by kernel_rfl) (fun _ _ _ h => h) (Or.inl ⟨rfl, fun W hW => ?_⟩) hHeld ?_
    · (try dsimp only at hW)
      go_simp
    (try simp only [Act.put, List.setIfInBounds_toArray, List.set_cons_zero, List.set_cons_succ, List.getElem_toArray, List.getElem_cons_zero, List.getElem_cons_succ])
    refine wpAnyH_take (i := 5) (v := undef) rfl (by kernel_rfl) (by kernel_rfl) (by kernel_rfl) (fun _ _ _ h => h) (Or.inr ⟨rfl, rfl⟩) hHeld ?_
    (try simp only [Act.put, List.setIfInBounds_toArray, List.set_cons_zero, List.set_cons_succ, List.getElem_toArray, List.getElem_cons_zero, List.getElem_cons_succ])
    refine wpAnyH_take (i := 6) (v := undef) rfl (by kernel_rfl) (by kernel_rfl) (by kernel_rfl) (fun _ _ _ h => h) (Or.inr ⟨rfl, rfl⟩) hHeld ?_
    (try simp only [Act.put, List.setIfInBounds_toArray, List.set_cons_zero, List.set_cons_succ, List.getElem_toArray, List.getElem_cons_zero, List.getElem_cons_succ])
    refine wpAnyH_take (i := 7) (v := undef) rfl (by kernel_rfl) (by kernel_rfl) (by kernel_rfl) (fun _ _ _ h => h) (Or.inr ⟨rfl, rfl⟩) hHeld ?_
    (try simp only [Act.put, List.setIfInBounds_toArray, List.set_cons_zero, List.set_cons_succ, List.getElem_toArray, List.getElem_cons_zero, List.getElem_cons_succ])
    refine wpAnyH_take (i := 8) (v := .bool false) rfl (by kernel_rfl) (by kernel_rfl) (by kernel_rfl) (fun _ _ _ h => h) (Or.inl ⟨rfl, fun W hW => ?_⟩) hHeld ?_
    · (try dsimp only at hW)
      go_simp
    (try simp only [Act.put, List.setIfInBounds_toArray, List.set_cons_zero, List.set_cons_succ, List.getElem_toArray, List.getElem_cons_zero, List.getElem_cons_succ])
    refine wpAnyH_take (i := 9) (v := .bool false) rfl (by kernel_rfl) (by kernel_rfl) (by kernel_rfl) (fun _ _ _ h => h) (Or.inl ⟨rfl, fun W hW => ?_⟩) hHeld ?_
    · (try dsimp only at hW)
      go_simp
    (try simp only [Act.put, List.setIfInBounds_toArray, List.set_cons_zero, List.set_cons_succ, List.getElem_toArray, List.getElem_cons_zero, List.getElem_cons_succ])
    refine wpAnyH_take (i := 10) (v := spv y (.slice A6 n c6)) rfl (by kernel_rfl) (by kernel_rfl) (by kernel_rfl) (fun _ _ _ h => h) (Or.inl ⟨rfl, fun W hW => ?_⟩) hHeld ?_
    · (try dsimp only at hW)
      go_simp
    (try simp only [Act.put, List.setIfInBounds_toArray, List.set_cons_zero, List.set_cons_succ, List.getElem_toArray, List.getElem_cons_zero, List.getElem_cons_succ])
    refine wpAnyH_take (i := 11) (v := .int .i64 mm) rfl (by kernel_rfl) (by kernel_rfl) (by kernel_rfl) (fun _ _ _ h => h) (Or.inl ⟨rfl, fun W hW => ?_⟩) hHeld ?_
    · (try dsimp only at hW)
      go_simp
    (try simp only [Act.put, List.setIfInBounds_toArray, List.set_cons_zero, List.set_cons_succ, List.getElem_toArray, List.getElem_cons_zero, List.getElem_cons_succ])
    refine wpAnyH_take (i := 13) (v := spv y (.slice A6 n c6)) rfl (by kernel_rfl) (by kernel_rfl) (by kernel_rfl) (fun _ _ _ h => h) (Or.inl ⟨rfl, fun W hW => ?_⟩) hHeld ?_
    · (try dsimp only at hW)
      go_simp
    (try simp only [Act.put, List.setIfInBounds_toArray, List.set_cons_zero, List.set_cons_succ, List.getElem_toArray, List.getElem_cons_zero, List.getElem_cons_succ])
    refine wpAnyH_ready (rs := [12]) (by kernel_rfl) (by simp) ?_
    refine AllReadyH.cons rfl (fun K hK => ?_) AllReadyH.nil
    go_simp
    refine (hAl _ E1.b4).mono ?_
    rintro e v3 ⟨A8, c8, Y8, rfl, hY8, S8, P8, H8, B3⟩
    have E3 := E1.below B3
    (try go_wp2_with fail)
    clear hHeld
    refine hK.out _ _ (twenty E3.k1 E3.k2) (fun hHeld => ?_)
    clear hK K
    (try simp only [Act.put, List.setIfInBounds_toArray, List.set_cons_zero, List.set_cons_succ, List.getElem_toArray, List.getElem_cons_zero, List.getElem_cons_succ])
    refine wpAnyH_ready (rs := [14]) (by kernel_rfl) (by simp) ?_
    refine AllReadyH.cons rfl (fun K hK => ?_) AllReadyH.nil
    go_simp
    refine (hCm A8 c8 Y8 _ (H8.low (Nat.zero_le _)) hY8 S8 P8 E3.b4).mono ?_
    rintro e v4 ⟨rfl, B4⟩
    have E4 := E3.below B4
    (try go_wp2_with fail)
    clear hHeld
    refine hK.out _ _ (twenty E4.k1 E4.k2) (fun hHeld => ?_)
    clear hK K
    (try simp only [Act.put, List.setIfInBounds_toArray, List.set_cons_zero, List.set_cons_succ, List.getElem_toArray, List.getElem_cons_zero, List.getElem_cons_succ])
    refine wpAnyH_take (i := 15) (v := .bool false) rfl (by kernel_rfl) (by kernel_rfl) (by kernel_rfl) (fun _ _ _ h => h) (Or.inl ⟨rfl, fun W hW => ?_⟩) hHeld ?_
    · (try dsimp only at hW)
      go_simp
    (try simp only [Act.put, List.setIfInBounds_toArray, List.set_cons_zero, List.set_cons_succ, List.getElem_toArray, List.getElem_cons_zero, List.getElem_cons_succ])
    refine wpAnyH_take (i := 16) (v := .bool false) rfl (by kernel_rfl) (by kernel_rfl) (by kernel_rfl) (fun _ _ _ h => h) (Or.inl ⟨rfl, fun W hW => ?_⟩) hHeld ?_
    · (try dsimp only at hW)
      go_simp
    (try simp only [Act.put, List.setIfInBounds_toArray, List.set_cons_zero, List.set_cons_succ, List.getElem_toArray, List.getElem_cons_zero, List.getElem_cons_succ])
    refine wpAnyH_take (i := 17) (v := .bool false) rfl (by kernel_rfl) (by kernel_rfl) (by kernel_rfl) (fun _ _ _ h => h) (Or.inl ⟨rfl, fun W hW => ?_⟩) hHeld ?_
    · (try dsimp only at hW)
      go_simp
    (try simp only [Act.put, List.setIfInBounds_toArray, List.set_cons_zero, List.set_cons_succ, List.getElem_toArray, List.getElem_cons_zero, List.getElem_cons_succ])
    refine wpAnyH_take (i := 18) (v := .pointer (some ⟨w4.heap.size, 3, none⟩)) rfl (by kernel_rfl) (by kernel_rfl) (by kernel_rfl) (fun _ _ _ h => h) (Or.inl ⟨rfl, fun W hW => ?_⟩) hHeld ?_
    · (try dsimp only at hW)
      go_simp
    (try simp only [Act.put, List.setIfInBounds_toArray, List.set_cons_zero, List.set_cons_succ, List.getElem_toArray, List.getElem_cons_zero, List.getElem_cons_succ])
    refine wpAnyH_take (i := 19) (v := .string y.sv) rfl (by kernel_rfl) (by kernel_rfl) (by kernel_rfl) (fun _ _ _ h => h) (Or.inl ⟨rfl, fun W hW => ?_⟩) hHeld ?_
    · (try dsimp only at hW)
      go_simp
    (try simp only [Act.put, List.setIfInBounds_toArray, List.set_cons_zero, List.set_cons_succ, List.getElem_toArray, List.getElem_cons_zero, List.getElem_cons_succ])
    refine wpAnyH_take (i := 20) (v := .int .i64 (y.sv.size : Int)) rfl (by kernel_rfl) (by kernel_rfl) (by kernel_rfl) (fun _ _ _ h => h) (Or.inl ⟨rfl, fun W hW => ?_⟩) hHeld ?_
    · (try dsimp only at hW)
      go_simp
    (try simp only [Act.put, List.setIfInBounds_toArray, List.set_cons_zero, List.set_cons_succ, List.getElem_toArray, List.getElem_cons_zero, List.getElem_cons_succ])
    refine wpAnyH_take (i := 21) (v := .int .i64 mm) rfl (by kernel_rfl) (by kernel_rfl) (by kernel_rfl) (fun _ _ _ h => h) (Or.inl ⟨rfl, fun W hW => ?_⟩) hHeld ?_
    · (try dsimp only at hW)
      go_simp
    (try simp only [Act.put, List.setIfInBounds_toArray, List.set_cons_zero, List.set_cons_succ, List.getElem_toArray, List.getElem_cons_zero, List.getElem_cons_succ])
    refine wpAnyH_take (i := 22) (v := .bool false) rfl (by kernel_rfl) (by kernel_rfl) (by kernel_rfl) (fun _ _ _ h => h) (Or.inl ⟨rfl, fun W hW => ?_⟩) hHeld ?_
    · (try dsimp only at hW)
      go_simp
    (try simp only [Act.put, List.setIfInBounds_toArray, List.set_cons_zero, List.set_cons_succ, List.getElem_toArray, List.getElem_cons_zero, List.getElem_cons_succ])
    refine wpAnyH_take (i := 23) (v := .bool false) rfl (by kernel_rfl) (by kernel_rfl) (by kernel_rfl) (fun _ _ _ h => h) (Or.inl ⟨rfl, fun W hW => ?_⟩) hHeld ?_
    · (try dsimp only at hW)
      go_simp
    (try simp only [Act.put, List.setIfInBounds_toArray, List.set_cons_zero, List.set_cons_succ, List.getElem_toArray, List.getElem_cons_zero, List.getElem_cons_succ])
    refine wpAnyH_take (i := 24) (v := .bool false) rfl (by kernel_rfl) (by kernel_rfl) (by kernel_rfl) (fun _ _ _ h => h) (Or.inl ⟨rfl, fun W hW => ?_⟩) hHeld ?_
    · (try dsimp only at hW)
      go_simp
    (try simp only [Act.put, List.setIfInBounds_toArray, List.set_cons_zero, List.set_cons_succ, List.getElem_toArray, List.getElem_cons_zero, List.getElem_cons_succ])
    refine wpAnyH_take (i := 25) (v := .pointer (some ⟨w4.heap.size, 4, none⟩)) rfl (by kernel_rfl) (by kernel_rfl) (by kernel_rfl) (fun _ _ _ h => h) (Or.inl ⟨rfl, fun W hW => ?_⟩) hHeld ?_
    · (try dsimp only at hW)
      go_simp
    (try simp only [Act.put, List.setIfInBounds_toArray, List.set_cons_zero, List.set_cons_succ, List.getElem_toArray, List.getElem_cons_zero, List.getElem_cons_succ])
    refine wpAnyH_take (i := 26) (v := .string y.nm) rfl (by kernel_rfl) (by kernel_rfl) (by kernel_rfl) (fun _ _ _ h => h) (Or.inl ⟨rfl, fun W hW => ?_⟩) hHeld ?_
    · (try dsimp only at hW)
      go_simp
    (try simp only [Act.put, List.setIfInBounds_toArray, List.set_cons_zero, List.set_cons_succ, List.getElem_toArray, List.getElem_cons_zero, List.getElem_cons_succ])
    refine wpAnyH_take (i := 27) (v := .int .i64 (y.nm.size : Int)) rfl (by kernel_rfl) (by kernel_rfl) (by kernel_rfl) (fun _ _ _ h => h) (Or.inl ⟨rfl, fun W hW => ?_⟩) hHeld ?_
    · (try dsimp only at hW)
      go_simp
    (try simp only [Act.put, List.setIfInBounds_toArray, List.set_cons_zero, List.set_cons_succ, List.getElem_toArray, List.getElem_cons_zero, List.getElem_cons_succ])
    refine wpAnyH_take (i := 28) (v := .int .i64 mm) rfl (by kernel_rfl) (by kernel_rfl) (by kernel_rfl) (fun _ _ _ h => h) (Or.inl ⟨rfl, fun W hW => ?_⟩) hHeld ?_
    · (try dsimp only at hW)
      go_simp
    (try simp only [Act.put, List.setIfInBounds_toArray, List.set_cons_zero, List.set_cons_succ, List.getElem_toArray, List.getElem_cons_zero, List.getElem_cons_succ])
    refine wpAnyH_take (i := 29) (v := .bool false) rfl (by kernel_rfl) (by kernel_rfl) (by kernel_rfl) (fun _ _ _ h => h) (Or.inl ⟨rfl, fun W hW => ?_⟩) hHeld ?_
    · (try dsimp only at hW)
      go_simp
    (try simp only [Act.put, List.setIfInBounds_toArray, List.set_cons_zero, List.set_cons_succ, List.getElem_toArray, List.getElem_cons_zero, List.getElem_cons_succ])
    refine wpAnyH_take (i := 30) (v := .bool false) rfl (by kernel_rfl) (by kernel_rfl) (by kernel_rfl) (fun _ _ _ h => h) (Or.inl ⟨rfl, fun W hW => ?_⟩) hHeld ?_
    · (try dsimp only at hW)
      go_simp
    (try simp only [Act.put, List.setIfInBounds_toArray, List.set_cons_zero, List.set_cons_succ, List.getElem_toArray, List.getElem_cons_zero, List.getElem_cons_succ])
    refine wpAnyH_take (i := 31) (v := .bool false) rfl (by kernel_rfl) (by kernel_rfl) (by kernel_rfl) (fun _ _ _ h => h) (Or.inl ⟨rfl, fun W hW => ?_⟩) hHeld ?_
    · (try dsimp only at hW)
      go_simp
    (try simp only [Act.put, List.setIfInBounds_toArray, List.set_cons_zero, List.set_cons_succ, List.getElem_toArray, List.getElem_cons_zero, List.getElem_cons_succ])
    refine wpAnyH_take (i := 32) (v := .pointer (some ⟨w4.heap.size, 9, none⟩)) rfl (by kernel_rfl) (by kernel_rfl) (by kernel_rfl) (fun _ _ _ h => h) (Or.inl ⟨rfl, fun W hW => ?_⟩) hHeld ?_
    · (try dsimp only at hW)
      go_simp
    (try simp only [Act.put, List.setIfInBounds_toArray, List.set_cons_zero, List.set_cons_succ, List.getElem_toArray, List.getElem_cons_zero, List.getElem_cons_succ])
    refine wpAnyH_take (i := 33) (v := .slice A6 n c6) rfl (by kernel_rfl) (by kernel_rfl) (by kernel_rfl) (fun _ _ _ h => h) (Or.inl ⟨rfl, fun W hW => ?_⟩) hHeld ?_
    · (try dsimp only at hW)
      go_simp
    (try simp only [Act.put, List.setIfInBounds_toArray, List.set_cons_zero, List.set_cons_succ, List.getElem_toArray, List.getElem_cons_zero, List.getElem_cons_succ])
    refine wpAnyH_take (i := 34) (v := .int .i64 (n : Int)) rfl (by kernel_rfl) (by kernel_rfl) (by kernel_rfl) (fun _ _ _ h => h) (Or.inl ⟨rfl, fun W hW => ?_⟩) hHeld ?_
    · (try dsimp only at hW)
      go_simp
    (try simp only [Act.put, List.setIfInBounds_toArray, List.set_cons_zero, List.set_cons_succ, List.getElem_toArray, List.getElem_cons_zero, List.getElem_cons_succ])
    refine wpAnyH_take (i := 35) (v := .pointer (some ⟨w.heap.size, 9, none⟩)) rfl (by kernel_rfl) (by kernel_rfl) (by kernel_rfl) (fun _ _ _ h => h) (Or.inl ⟨rfl, fun W hW => ?_⟩) hHeld ?_
    · (try dsimp only at hW)
      go_simp
    (try simp only [Act.put, List.setIfInBounds_toArray, List.set_cons_zero, List.set_cons_succ, List.getElem_toArray, List.getElem_cons_zero, List.getElem_cons_succ])
    refine wpAnyH_take (i := 36) (v := .slice A n c) rfl (by kernel_rfl) (by kernel_rfl) (by kernel_rfl) (fun _ _ _ h => h) (Or.inl ⟨rfl, fun W hW => ?_⟩) hHeld ?_
    · (try dsimp only at hW)
      go_simp
    (try simp only [Act.put, List.setIfInBounds_toArray, List.set_cons_zero, List.set_cons_succ, List.getElem_toArray, List.getElem_cons_zero, List.getElem_cons_succ])
    refine wpAnyH_take (i := 37) (v := .int .i64 (n : Int)) rfl (by kernel_rfl) (by kernel_rfl) (by kernel_rfl) (fun _ _ _ h => h) (Or.inl ⟨rfl, fun W hW => ?_⟩) hHeld ?_
    · (try dsimp only at hW)
      go_simp
    (try simp only [Act.put, List.setIfInBounds_toArray, List.set_cons_zero, List.set_cons_succ, List.getElem_toArray, List.getElem_cons_zero, List.getElem_cons_succ])
    refine wpAnyH_take (i := 38) (v := .bool false) rfl (by kernel_rfl) (by kernel_rfl) (by kernel_rfl) (fun _ _ _ h => h) (Or.inl ⟨rfl, fun W hW => ?_⟩) hHeld ?_
    · (try dsimp only at hW)
      go_simp
    (try simp only [Act.put, List.setIfInBounds_toArray, List.set_cons_zero, List.set_cons_succ, List.getElem_toArray, List.getElem_cons_zero, List.getElem_cons_succ])
    refine wpAnyH_take (i := 39) (v := .bool false) rfl (by kernel_rfl) (by kernel_rfl) (by kernel_rfl) (fun _ _ _ h => h) (Or.inl ⟨rfl, fun W hW => ?_⟩) hHeld ?_
    · (try dsimp only at hW)
      go_simp
    (try simp only [Act.put, List.setIfInBounds_toArray, List.set_cons_zero, List.set_cons_succ, List.getElem_toArray, List.getElem_cons_zero, List.getElem_cons_succ])
    refine wpAnyH_done (by kernel_rfl) ?_ _
    clear hHeld
    clear D E0 E1 E3 B0 B1 B3 B4 H7 H8 S8 P8 hY8 hAl hCm t1 t2 t3
    go_wp2
    go_loopw [7] (fun v wr => ∃ k : Nat, v = .int .i64 k ∧ 1 ≤ k ∧ AlR w w4 s y A n c A6 c6 wr) (fun v _ => n - (intOf v).toNat)
    case atStart => exact ⟨1, rfl, Nat.le_refl _, E4⟩
    case round =>
      clear E4
      obtain ⟨k, rfl, hk, R⟩ := hrel
      have c9 : wr.cell? ⟨w4.heap.size, 9, none⟩ = some (.slice A6 n c6) := R.k2.cell 9
      by_cases hlt : k < n
      · have hltz : (k : Int) < (n : Int) := by omega
        obtain ⟨q0, hq0⟩ : ∃ q, k = q + 1 := ⟨k - 1, by omega⟩
        have hkY : k < Y.length := by rw [un HYn]; exact hlt
        have hqY : q0 < Y.length := by omega
        have H := H6.below R.b4
        obtain ⟨g, hA6, _, _, G⟩ := H.get hkY
        obtain ⟨g', hA7, _, _, G'⟩ := H.get hqY
        have eg : g' = g := by
          rw [hA6] at hA7
          injection hA7 with hA7
          injection hA7 with hA7
          exact hA7.symm
        subst eg
        have f0 := G.c0
        have f1 := G'.c0
        have ht := gt_no Y[k] Y[q0] (Sd.get (un HYs) ord (show q0 ≤ k by omega) hkY)
        have q2 : IntKind.i64.wrap ((k : Int) - 1) = (q0 : Int) := by rw [IntKind.wrap_i64]; omega
        have q3 : (0 : Int) ≤ (q0 : Int) := by omega
        have q4 : ((q0 : Int)).toNat = q0 := by omega
        have q5 : (q0 : Int) < (n : Int) := by omega
        have q6 : (0 : Int) ≤ (k : Int) := by omega
        have q7 : ((k : Int)).toNat = k := by omega
        have q9 : (k : Int) - 1 = (q0 : Int) := by omega
        clear G G' H hA7 hq0
        subst hA6
        go_wp2_with fail
        go_quiet (fail)
        replace R := R.drewN nq
        generalize wr.drewN nq = W at R ⊢
        clear c9 f0 f1 q2 q3 q4 q5 q6 q7 q9
        go_wp2
        go_roundw
        case rel => exact ⟨k + 1, by go_num, by omega, R⟩
        case measure => first | go_num | (simp [intOf]; omega)
      · have hltz : ¬ ((k : Int) < (n : Int)) := by omega
        go_wp2
        clear hltz hlt hk c9
        go_loopw [8] (fun v wr => ∃ i : Nat, v = .int .i64 i ∧ i ≤ n ∧ AlR w w4 s y A n c A6 c6 wr) (fun v _ => n - (intOf v).toNat)
        case atStart => exact ⟨0, rfl, Nat.zero_le _, R⟩
        case round =>
          clear R
          obtain ⟨i, rfl, hi, R⟩ := hrel
          have c9 : wr.cell? ⟨w.heap.size, 9, none⟩ = some (.slice A n c) := R.k1.cell 9
          by_cases hlt : i < n
          · have hltz : (i : Int) < (n : Int) := by omega
            have hil : i < l.length := by rw [un HN]; exact hlt
            obtain ⟨ad, p, rfl, hp, F⟩ := h.get hil
            have F0 := Lib.hid F.c0
            have hb1 := attr_keep (un HYk) l[i].key
            have hb2 := attr_in hil
            obtain ⟨K, N, S, hV⟩ := attr_form2 l l[i].key
            have hA1 := fun W (hW : Below w4.heap.size w4 W) => attr_any y A6 c6 n Y l[i].key W ((H6.below hW).low (Nat.zero_le _)) (un HYn) z
            have hA2 := fun (A7 : Option Addr) (c7 : Nat) W (h7 : Hd 0 W A7 c7 l) => attr_any s A7 c7 n l l[i].key W h7 (un HN) z
            rw [hb1.1, hb1.2, hV, hb2] at hA1
            rw [hV, hb2] at hA2
            clear hb1 hb2 hV F
            generalize l[i] = x at *
            have e0 : (0 : Int) ≤ (i : Int) := by omega
            have e1 : ((i : Int)).toNat = i := by omega
            go_wp2_with fail
            go_cut [9, 10] from 89 to 129 (fun u9 u10 wc => ∃ g, u9 = .pointer (some ⟨g, 0, none⟩) ∧ u10 = .bool true ∧ AlR w w4 s y (some ad) n c A6 c6 wc ∧ Bk wc g 41 #[.int .i64 K, .int .i64 N, .string S])
            case first =>
              have R' : AlR w w4 s y (some ad) n c A6 c6 wr.drew := ⟨R.k1, R.k2, R.b0.drew, R.b4.drew⟩
              have z1 := R.k1.lt
              have z2 := R.k2.lt
              have bb : Below wr.drew.heap.size wr.drew ((wr.alloc (.cells #[.int .i64 0, .int .i64 0, .string ⟨#[]⟩] 41)).drew) := ((Below.refl _ _).alloc (Nat.le_refl _) _ : Below wr.drew.heap.size wr.drew (wr.drew.alloc _))
              have N0 : Bk ((wr.alloc (.cells #[.int .i64 0, .int .i64 0, .string ⟨#[]⟩] 41)).drew) wr.heap.size 41 #[.int .i64 0, .int .i64 0, .string ⟨#[]⟩] := Bk.new wr.drew _ _
              have Q0 := R'.below bb
              clear R c9 bb
              go_region_held3 (fun w' => w'.cell? ⟨w.heap.size, 0, none⟩ = some (.int .u64 s.T) ∧ w'.cell? ⟨w.heap.size, 1, none⟩ = some (.int .u64 s.I) ∧ w'.cell? ⟨w.heap.size, 2, none⟩ = some (.int .u64 s.P) ∧ w'.cell? ⟨w.heap.size, 3, none⟩ = some (.string s.sv) ∧ w'.cell? ⟨w.heap.size, 4, none⟩ = some (.string s.nm) ∧ w'.cell? ⟨w.heap.size, 5, none⟩ = some (.int .i64 s.kd) ∧ w'.cell? ⟨w.heap.size, 6, none⟩ = some (.int .i64 s.st) ∧ w'.cell? ⟨w.heap.size, 7, none⟩ = some (.int .u64 s.t0) ∧ w'.cell? ⟨w.heap.size, 8, none⟩ = some (.int .u64 s.t1) ∧ w'.cell? ⟨w.heap.size, 9, none⟩ = some (.slice (some ad) n c) ∧ w'.cell? ⟨w4.heap.size, 0, none⟩ = some (.int .u64 y.T) ∧ w'.cell? ⟨w4.heap.size, 1, none⟩ = some (.int .u64 y.I) ∧ w'.cell? ⟨w4.heap.size, 2, none⟩ = some (.int .u64 y.P) ∧ w'.cell? ⟨w4.heap.size, 3, none⟩ = some (.string y.sv) ∧ w'.cell? ⟨w4.heap.size, 4, none⟩ = some (.string y.nm) ∧ w'.cell? ⟨w4.heap.size, 5, none⟩ = some (.int .i64 y.kd) ∧ w'.cell? ⟨w4.heap.size, 6, none⟩ = some (.int .i64 y.st) ∧ w'.cell? ⟨w4.heap.size, 7, none⟩ = some (.int .u64 y.t0) ∧ w'.cell? ⟨w4.heap.size, 8, none⟩ = some (.int .u64 y.t1) ∧ w'.cell? ⟨w4.heap.size, 9, none⟩ = some (.slice A6 n c6) ∧ w'.cell? p = some (.string x.key))
                (first | exact (Q7.set3 z1 z2 _ _ _).cells (un F0) | exact Q7.cells (un F0) | exact Q0.cells (un F0) | exact R7.cells (un F0) | exact R'.cells (un F0) | exact (R7.below (below_box _ _ (Nat.le_refl _))).cells (un F0) | exact (Q7.set3 z1 z2 _ _ _).cells (un F0) | go_keep)
                (first
                  | (go_at_call 17; (with_reducible refine (hA1 _ R'.b4).mono ?_); rintro e w7 ⟨rfl, B7⟩; have R7 := R'.below B7)
                  | (go_at_call 17; (with_reducible refine (hA1 _ Q0.b4).mono ?_); rintro e w7 ⟨rfl, B7⟩; have Q7 := Q0.below B7; have N7 := N0.below B7; have n0 : w7.cell? ⟨wr.heap.size, 0, none⟩ = some (.int .i64 0) := N7.cell 0; have n1 : w7.cell? ⟨wr.heap.size, 1, none⟩ = some (.int .i64 0) := N7.cell 1; have n2 : w7.cell? ⟨wr.heap.size, 2, none⟩ = some (.string ⟨#[]⟩) := N7.cell 2; have m0 := N7.frozen 0; have m1 := N7.frozen 1; have m2 := N7.frozen 2))
              · go_wp2_with fail
                go_meet
                exact ⟨w7.heap.size, rfl, rfl, R7.below (below_box _ _ (Nat.le_refl _)), Bk.new w7 _ _⟩
              · go_wp2_with fail
                go_meet
                exact ⟨wr.heap.size, rfl, rfl, Q7.set3 z1 z2 _ _ _, N7.set3 _ _ _⟩
            case rest =>
              obtain ⟨g, rfl, rfl, R2, M⟩ := hcut
              clear R c9
              have c9 : wc.cell? ⟨w.heap.size, 9, none⟩ = some (.slice (some ad) n c) := R2.k1.cell 9
              have T : AlS w w4 s y (some ad) n c A6 c6 g K N S wc := ⟨R2, M⟩
              clear R2 M
              go_wp2_with fail
              go_cut [11, 12] from 89 to 129 (fun u11 u12 wc => ∃ g2, u11 = .pointer (some ⟨g2, 0, none⟩) ∧ u12 = .bool true ∧ AlS w w4 s y (some ad) n c A6 c6 g K N S wc ∧ Bk wc g2 41 #[.int .i64 K, .int .i64 N, .string S])
              case first =>
                have P0 : AlS w w4 s y (some ad) n c A6 c6 g K N S wc.drew := ⟨⟨T.r.k1, T.r.k2, T.r.b0.drew, T.r.b4.drew⟩, T.v⟩
                have z1 := T.r.k1.lt
                have z2 := T.r.k2.lt
                have z3 : wc.heap.size ≠ g := by have := T.v.lt; omega
                have bb : Below wc.drew.heap.size wc.drew ((wc.alloc (.cells #[.int .i64 0, .int .i64 0, .string ⟨#[]⟩] 41)).drew) := ((Below.refl _ _).alloc (Nat.le_refl _) _ : Below wc.drew.heap.size wc.drew (wc.drew.alloc _))
                have N0 : Bk ((wc.alloc (.cells #[.int .i64 0, .int .i64 0, .string ⟨#[]⟩] 41)).drew) wc.heap.size 41 #[.int .i64 0, .int .i64 0, .string ⟨#[]⟩] := Bk.new wc.drew _ _
                have Q0 := P0.below bb
                clear T c9 bb
                go_region_held3 (fun w' => w'.cell? ⟨w.heap.size, 0, none⟩ = some (.int .u64 s.T) ∧ w'.cell? ⟨w.heap.size, 1, none⟩ = some (.int .u64 s.I) ∧ w'.cell? ⟨w.heap.size, 2, none⟩ = some (.int .u64 s.P) ∧ w'.cell? ⟨w.heap.size, 3, none⟩ = some (.string s.sv) ∧ w'.cell? ⟨w.heap.size, 4, none⟩ = some (.string s.nm) ∧ w'.cell? ⟨w.heap.size, 5, none⟩ = some (.int .i64 s.kd) ∧ w'.cell? ⟨w.heap.size, 6, none⟩ = some (.int .i64 s.st) ∧ w'.cell? ⟨w.heap.size, 7, none⟩ = some (.int .u64 s.t0) ∧ w'.cell? ⟨w.heap.size, 8, none⟩ = some (.int .u64 s.t1) ∧ w'.cell? ⟨w.heap.size, 9, none⟩ = some (.slice (some ad) n c) ∧ w'.cell? ⟨w4.heap.size, 0, none⟩ = some (.int .u64 y.T) ∧ w'.cell? ⟨w4.heap.size, 1, none⟩ = some (.int .u64 y.I) ∧ w'.cell? ⟨w4.heap.size, 2, none⟩ = some (.int .u64 y.P) ∧ w'.cell? ⟨w4.heap.size, 3, none⟩ = some (.string y.sv) ∧ w'.cell? ⟨w4.heap.size, 4, none⟩ = some (.string y.nm) ∧ w'.cell? ⟨w4.heap.size, 5, none⟩ = some (.int .i64 y.kd) ∧ w'.cell? ⟨w4.heap.size, 6, none⟩ = some (.int .i64 y.st) ∧ w'.cell? ⟨w4.heap.size, 7, none⟩ = some (.int .u64 y.t0) ∧ w'.cell? ⟨w4.heap.size, 8, none⟩ = some (.int .u64 y.t1) ∧ w'.cell? ⟨w4.heap.size, 9, none⟩ = some (.slice A6 n c6) ∧ w'.cell? p = some (.string x.key))
                  (first | exact P2.r.cells (un F0) | exact P1.r.cells (un F0) | exact P0.r.cells (un F0) | exact (P2.below (below_box _ _ (Nat.le_refl _))).r.cells (un F0) | exact (P1.below (below_box _ _ (Nat.le_refl _))).r.cells (un F0) | exact Q2.r.cells (un F0) | exact Q1.r.cells (un F0) | exact Q0.r.cells (un F0) | exact (Q2.set3 z1 z2 z3 _ _ _).r.cells (un F0) | exact O2.r.cells (un F0) | exact (O2.set3 y1 y2 y3 _ _ _).r.cells (un F0) | go_keep)
                  (first
                    | (go_at_call 9; (with_reducible refine (hO _ P0.r.b0).mono ?_); rintro e v0 ⟨A9, d9, rfl, H9, B0⟩; have P1 := P0.below B0)
                    | (go_at_call 9; (with_reducible refine (hO _ Q0.r.b0).mono ?_); rintro e v0 ⟨A9, d9, rfl, H9, B0⟩; have Q1 := Q0.below B0; have N1 := N0.below B0)
                    | (go_at_call 17; (with_reducible refine (hA2 A9 d9 _ (H9.low (Nat.zero_le _))).mono ?_); rintro e v1 ⟨rfl, B1⟩; have P2 := P1.below B1)
                    | (go_at_call 17; (with_reducible refine (hA2 A9 d9 _ (H9.low (Nat.zero_le _))).mono ?_); rintro e v1 ⟨rfl, B1⟩; have Q2 := Q1.below B1; have N2 := N1.below B1; have n0 : v1.cell? ⟨wc.heap.size, 0, none⟩ = some (.int .i64 0) := N2.cell 0; have n1 : v1.cell? ⟨wc.heap.size, 1, none⟩ = some (.int .i64 0) := N2.cell 1; have n2 : v1.cell? ⟨wc.heap.size, 2, none⟩ = some (.string ⟨#[]⟩) := N2.cell 2; have m0 := N2.frozen 0; have m1 := N2.frozen 1; have m2 := N2.frozen 2)
                    | (go_at_call 17; (with_reducible refine (hA2 A9 d9 _ ((H9.below (below_box v0 (.cells #[.int .i64 0, .int .i64 0, .string ⟨#[]⟩] 41) (Nat.le_refl _))).low (Nat.zero_le _))).mono ?_); rintro e v1 ⟨rfl, B1⟩; have O2 := (P1.below (below_box v0 (.cells #[.int .i64 0, .int .i64 0, .string ⟨#[]⟩] 41) (Nat.le_refl _))).below B1; have y1 := P1.r.k1.lt; have y2 := P1.r.k2.lt; have y3 : v0.heap.size ≠ g := (by have := P1.v.lt; omega); have N2 := (Bk.new v0 41 #[.int .i64 0, .int .i64 0, .string ⟨#[]⟩]).below B1; have n0 : v1.cell? ⟨v0.heap.size, 0, none⟩ = some (.int .i64 0) := N2.cell 0; have n1 : v1.cell? ⟨v0.heap.size, 1, none⟩ = some (.int .i64 0) := N2.cell 1; have n2 : v1.cell? ⟨v0.heap.size, 2, none⟩ = some (.string ⟨#[]⟩) := N2.cell 2; have m0 := N2.frozen 0; have m1 := N2.frozen 1; have m2 := N2.frozen 2))
                all_goals go_wp2_with fail
                all_goals go_meet
                all_goals first
                  | exact ⟨v1.heap.size, rfl, rfl, P2.below (below_box _ _ (Nat.le_refl _)), Bk.new v1 _ _⟩
                  | exact ⟨wc.heap.size, rfl, rfl, Q2.set3 z1 z2 z3 _ _ _, N2.set3 _ _ _⟩
                  | exact ⟨v0.heap.size, rfl, rfl, O2.set3 y1 y2 y3 _ _ _, N2.set3 _ _ _⟩
              case rest =>
                obtain ⟨g2, rfl, rfl, T3, M3⟩ := hcut
                clear T c9
                have p0 : wc.cell? ⟨g, 0, none⟩ = some (.int .i64 K) := T3.v.cell 0
                have p1 : wc.cell? ⟨g, 1, none⟩ = some (.int .i64 N) := T3.v.cell 1
                have p2 : wc.cell? ⟨g, 2, none⟩ = some (.string S) := T3.v.cell 2
                have r0 : wc.cell? ⟨g2, 0, none⟩ = some (.int .i64 K) := M3.cell 0
                have r1 : wc.cell? ⟨g2, 1, none⟩ = some (.int .i64 N) := M3.cell 1
                have r2 : wc.cell? ⟨g2, 2, none⟩ = some (.string S) := M3.cell 2
                have s1 : (K == K) = true := by simp
                have s2 : (N == N) = true := by simp
                have s3 : (S.toList == S.toList) = true := by simp
                go_wp2
                go_roundw
                case rel =>
                  exact ⟨i + 1, by go_num, by omega, T3.r⟩
                case measure => first | go_num | (simp [intOf]; omega)
          · have hltz : ¬ ((i : Int) < (n : Int)) := by omega
            have x0 : wr.cell? ⟨w.heap.size, 0, none⟩ = some (.int .u64 s.T) := R.k1.cell 0
            have x1 : wr.cell? ⟨w.heap.size, 1, none⟩ = some (.int .u64 s.I) := R.k1.cell 1
            have x2 : wr.cell? ⟨w.heap.size, 2, none⟩ = some (.int .u64 s.P) := R.k1.cell 2
            have x3 : wr.cell? ⟨w.heap.size, 3, none⟩ = some (.string s.sv) := R.k1.cell 3
            have x4 : wr.cell? ⟨w.heap.size, 4, none⟩ = some (.string s.nm) := R.k1.cell 4
            have x5 : wr.cell? ⟨w.heap.size, 5, none⟩ = some (.int .i64 s.kd) := R.k1.cell 5
            have x6 : wr.cell? ⟨w.heap.size, 6, none⟩ = some (.int .i64 s.st) := R.k1.cell 6
            have x7 : wr.cell? ⟨w.heap.size, 7, none⟩ = some (.int .u64 s.t0) := R.k1.cell 7
            have x8 : wr.cell? ⟨w.heap.size, 8, none⟩ = some (.int .u64 s.t1) := R.k1.cell 8
            have x9 : wr.cell? ⟨w.heap.size, 9, none⟩ = some (.slice A n c) := R.k1.cell 9
            go_wp2_with fail
            refine (hO _ R.b0).mono ?_
            rintro e v5 ⟨A9, d9, rfl, H9, B5⟩
            have R5 := R.below B5
            clear B5 R c9 x0 x1 x2 x3 x4 x5 x6 x7 x8 x9
            go_wp2_with fail
            refine (hCk1 A9 d9 _ (H9.low (Nat.zero_le _))).mono ?_
            rintro e v6 ⟨rfl, B6⟩
            have R6 := R5.below B6
            clear B6 R5 H9
            go_wp2_with fail
            refine (reasons_any _).mono ?_
            rintro e v7 ⟨rfl, hv7⟩
            have b7 : Below w.heap.size w v7 := by rw [hv7]; exact R6.b0.alloc R6.b0.size _
            have T7 : Bk v7 v6.heap.size 32 #[.int .i64 50, .int .i64 51, .int .i64 52, .int .i64 53, .int .i64 54, .int .i64 55] := by rw [hv7]; exact Bk.new v6 _ _
            clear hv7 R6
            generalize v6.heap.size = g at *
            go_wp2
            go_loopw [15, 16] (fun f u wr => ∃ (k : Nat) (b : Bool), f = .bool b ∧ u = .int .i64 k ∧ k ≤ 6 ∧ Below w.heap.size w wr ∧ Bk wr g 32 #[.int .i64 50, .int .i64 51, .int .i64 52, .int .i64 53, .int .i64 54, .int .i64 55] ∧ Hid (r = 0 ∨ r < 50 + (k : Int) → b = true)) (fun _ u _ => 6 - (intOf u).toNat)
            case atStart =>
              exact ⟨0, false, rfl, rfl, Nat.zero_le _, b7, T7, fun h => by have := un HR; omega⟩
            case round =>
              clear b7 T7
              obtain ⟨j, b, rfl, rfl, hj, b7, T7, HB⟩ := hrel
              by_cases hlt6 : j < 6
              · have hlt6z : (j : Int) < 6 := by omega
                have cj := rs_cell T7 hlt6
                have e0 : (0 : Int) ≤ (j : Int) := by omega
                have e1 : ((j : Int)).toNat = j := by omega
                cases b with
                | true =>
                  go_wp2
                  go_roundw
                  case rel => exact ⟨j + 1, true, rfl, by go_num, by omega, b7, T7, fun _ => rfl⟩
                  case measure => first | go_num | (simp [intOf]; omega)
                | false =>
                  obtain ⟨t, ht⟩ : ∃ t, ((50 + (j : Int)) == r) = t := ⟨_, rfl⟩
                  have HT := Lib.hid ht
                  go_wp2
                  go_roundw
                  case rel =>
                    refine ⟨j + 1, t, rfl, by go_num, by omega, b7, T7, fun h => ?_⟩
                    have h1 : ¬ (r = 0 ∨ r < 50 + (j : Int)) := fun h => absurd (un HB h) (by simp)
                    have h2 : 50 + (j : Int) = r := by omega
                    rw [← un HT, h2]
                    simp
                  case measure => first | go_num | (simp [intOf]; omega)
              · have hlt6z : ¬ ((j : Int) < 6) := by omega
                have hb : b = true := un HB (.inr (by have := un HR; omega))
                subst hb
                have q0 : wr.cell? ⟨g, 0, none⟩ = some (.int .i64 50) := T7.cell 0
                have q5 : wr.cell? ⟨g, 5, none⟩ = some (.int .i64 55) := T7.cell 5
                go_wp2
                go_ret
                exact ⟨rfl, b7⟩
end Go.Proofs.Ytpjldoahinocjaa.P06
