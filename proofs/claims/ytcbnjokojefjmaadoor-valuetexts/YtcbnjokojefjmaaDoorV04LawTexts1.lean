/-
  The walk of ValueTexts: two right values of one kind have the same text just if they are the same, and the greater number is told as such.
-/
import Derived.Test.YtcbnjokojefjmaaDoorV04Alive
import Derived.Test.YtcbnjokojefjmaaDoorV04Texts
import Derived.Test.YtcbnjokojefjmaaDoorV04Open
import Derived.Lib.QuietBelow
set_option linter.unusedSimpArgs false
set_option linter.unusedVariables false
namespace Go.Proofs.YtcbnjokojefjmaaDoor.V04
open Go.RowKit Go.Lib Go.Proofs.YtcbnjokojefjmaaDoor.Wd

theorem right_size {K N : Int} {S : ByteArray} (h : right K N S = true) : S.size ≤ 4096 := by
  rcases right_cases h with ⟨_, rfl⟩ | ⟨_, rfl, _⟩ | ⟨_, _, h⟩
  · decide
  · decide
  · exact h
set_option maxRecDepth 20000 in
set_option maxHeartbeats 4000000 in
theorem texts_wrong (K N : Int) (S : ByteArray) (L M : Int) (T : ByteArray) (w : World) (hT : Tb w) (hno : ¬ (right K N S = true ∧ right L M T = true)) :
    Calls Tryd.prog 7 #[vl K N S, vl L M T] w fun e w' => e = .returned (.bool true) ∧ Below w.heap.size w w' := by
  have v1 : Vx ((w.alloc (box 23 K N S)).alloc (box 23 L M T)) w.heap.size K N S := (Vx.box w _ K N S).old _
  have v2 : Vx ((w.alloc (box 23 K N S)).alloc (box 23 L M T)) (w.heap.size + 1) L M T := vx2 w _ _ L M T
  have b : Below w.heap.size w ((w.alloc (box 23 K N S)).alloc (box 23 L M T)) := by go_grown
  go_enter Tryd.func7, Tryd.ntmps7
  go_wp2_with fail
  generalize ((w.alloc (box 23 K N S)).alloc (box 23 L M T)) = X at *
  refine (alive_any _ (hT.below b)).mono ?_
  rintro e w1 ⟨rfl, hb⟩
  replace v1 := v1.below hb
  replace v2 := v2.below hb
  replace b := b.trans (hb.mono b.size)
  clear hb
  have c1 := v1.c0
  have c2 := v1.c1
  have c3 := v1.c2
  have c4 := v2.c0
  have c5 := v2.c1
  have c6 := v2.c2
  obtain ⟨s, hw⟩ : ∃ s, wrap64 ((S.size : Int) + T.size) = s := ⟨_, rfl⟩
  obtain ⟨ra, hra⟩ : ∃ r, right K N S = r := ⟨_, rfl⟩
  by_cases hs : (9000 : Int) < s
  · go_wp2
    go_ret
    exact ⟨rfl, b⟩
  · cases ra with
    | false =>
      go_wp2_with (go_at_call 9; refine (right_any K N S false _ hra).mono ?_; rintro e w2 ⟨rfl, rfl⟩)
      go_ret
      exact ⟨rfl, b.alloc b.size _⟩
    | true =>
      have hrb : right L M T = false := by
        cases h : right L M T with
        | false => rfl
        | true => exact absurd ⟨hra, h⟩ hno
      clear hno
      go_wp2_with fail
      refine (right_any K N S true _ hra).mono ?_
      rintro e w2 ⟨rfl, rfl⟩
      have hb := below_box w1 (box 27 K N S) (Nat.le_refl _)
      generalize w1.alloc (box 27 K N S) = w2 at *
      replace v1 := v1.below hb
      replace v2 := v2.below hb
      replace b := b.trans (hb.mono b.size)
      clear hb c1 c2 c3 c4 c5 c6
      have c1 := v1.c0
      have c2 := v1.c1
      have c3 := v1.c2
      have c4 := v2.c0
      have c5 := v2.c1
      have c6 := v2.c2
      go_wp2_with (go_at_call 9; refine (right_any L M T false _ hrb).mono ?_; rintro e w3 ⟨rfl, rfl⟩)
      go_ret
      exact ⟨rfl, b.alloc b.size _⟩
set_option maxRecDepth 20000 in
set_option maxHeartbeats 4000000 in
theorem texts_same (K N : Int) (S : ByteArray) (w : World) (hT : Tb w) (fN0 : -9223372036854775808 ≤ N) (fN1 : N ≤ 9223372036854775807) (fM0 : -9223372036854775808 ≤ N) (fM1 : N ≤ 9223372036854775807) (hra : right K N S = true) (hrb : right K N S = true) :
    Calls Tryd.prog 7 #[vl K N S, vl K N S] w fun e w' => e = .returned (.bool true) ∧ Below w.heap.size w w' := by
  have v1 : Vx ((w.alloc (box 23 K N S)).alloc (box 23 K N S)) w.heap.size K N S := (Vx.box w _ K N S).old _
  have v2 : Vx ((w.alloc (box 23 K N S)).alloc (box 23 K N S)) (w.heap.size + 1) K N S := vx2 w _ _ K N S
  have b : Below w.heap.size w ((w.alloc (box 23 K N S)).alloc (box 23 K N S)) := by go_grown
  go_enter Tryd.func7, Tryd.ntmps7
  go_wp2_with fail
  generalize ((w.alloc (box 23 K N S)).alloc (box 23 K N S)) = X at *
  refine (alive_any _ (hT.below b)).mono ?_
  rintro e w1 ⟨rfl, hb⟩
  replace v1 := v1.below hb
  replace v2 := v2.below hb
  replace b := b.trans (hb.mono b.size)
  clear hb
  have c1 := v1.c0
  have c2 := v1.c1
  have c3 := v1.c2
  have c4 := v2.c0
  have c5 := v2.c1
  have c6 := v2.c2
  obtain ⟨s, hw⟩ : ∃ s, wrap64 ((S.size : Int) + S.size) = s := ⟨_, rfl⟩
  have s9 : ¬ (9000 : Int) < s := by
    have h1 := right_size hra
    have h2 := right_size hrb
    rw [← hw, IntWalk.wrap64_in _ (by omega)]
    omega
  go_wp2_with fail
  refine (right_any K N S true _ hra).mono ?_
  rintro e w2 ⟨rfl, rfl⟩
  have hb := below_box w1 (box 27 K N S) (Nat.le_refl _)
  generalize w1.alloc (box 27 K N S) = w2 at *
  replace v1 := v1.below hb
  replace v2 := v2.below hb
  replace b := b.trans (hb.mono b.size)
  clear hb c1 c2 c3 c4 c5 c6
  have c1 := v1.c0
  have c2 := v1.c1
  have c3 := v1.c2
  have c4 := v2.c0
  have c5 := v2.c1
  have c6 := v2.c2
  go_wp2_with fail
  refine (right_any K N S true _ hrb).mono ?_
  rintro e w3 ⟨rfl, rfl⟩
  have hb := below_box w2 (box 27 K N S) (Nat.le_refl _)
  generalize w2.alloc (box 27 K N S) = w3 at *
  replace v1 := v1.below hb
  replace v2 := v2.below hb
  replace b := b.trans (hb.mono b.size)
  clear hb c1 c2 c3 c4 c5 c6
  have c1 := v1.c0
  have c2 := v1.c1
  have c3 := v1.c2
  have c4 := v2.c0
  have c5 := v2.c1
  have c6 := v2.c2
  obtain ⟨A, hA⟩ : ∃ A : ByteArray, ⟨(anyOf K N S).text.toArray⟩ = A := ⟨_, rfl⟩
  have hB := hA
  have hx : cmpV K N S K N S = 0 := cmpV_self K N S
  have fa := any_fits (K := K) (S := S) fN0 fN1
  have fc := any_fits (K := K) (S := S) (N := N) fM0 fM1
  obtain ⟨_, pN, _, pI⟩ := any_parts hra
  obtain ⟨_, qN, _, qI⟩ := any_parts hrb
  have qa : ∀ d os, Calls Tryd.prog 16 #[vl K N S] (Sort.grow (redrawn w3 d) os) fun e w'' => e = .returned (anyOf K N S).v ∧ ∃ p : Regrown, w'' = Sort.grow (redrawn w3 p.d) p.os := fun d os => Calls.regrown_of (any_any K N S _)
  have qb : ∀ d os, Calls Tryd.prog 16 #[vl K N S] (Sort.grow (redrawn w3 d) os) fun e w'' => e = .returned (anyOf K N S).v ∧ ∃ p : Regrown, w'' = Sort.grow (redrawn w3 p.d) p.os := fun d os => Calls.regrown_of (any_any K N S _)
  have ta := fun w' (h : Below w.heap.size w w') => text_any (anyOf K N S) w' (hT.below h) fa
  have tc := fun w' (h : Below w.heap.size w w') => text_any (anyOf K N S) w' (hT.below h) fc
  rw [hA] at ta
  rw [hB] at tc
  have na := ofn_any (anyOf K N S)
  have nc := ofn_any (anyOf K N S)
  rw [pN, pI] at na
  rw [qN, qI] at nc
  clear pN pI qN qI hA hB fa fc hra hrb
  generalize (anyOf K N S).v = va at *
  have d1 := cell_regrown c1
  have d2 := cell_regrown c2
  have d3 := cell_regrown c3
  have d4 := cell_regrown c4
  have d5 := cell_regrown c5
  have d6 := cell_regrown c6
  have HX := Lib.hid hx
  clear hx
  go_wp2_with fail
  refine wp_region_quiet_below (by kernel_rfl) (by kernel_rfl) ?_
  repeat (quiet_step (first | exact qa _ _ | exact qb _ _))
  refine wpQuiet_nil ?_
  intro _ hw'
  obtain ⟨⟨dq, osq⟩, hw''⟩ := hw'
  subst hw''
  clear d1 d2 d3 d4 d5 d6 qa qb s9 hw
  have hb := below_regrown w3 dq osq
  generalize Sort.grow (redrawn w3 dq) osq = w4 at *
  replace v1 := v1.below hb
  replace v2 := v2.below hb
  replace b := b.trans (hb.mono b.size)
  clear hb c1 c2 c3 c4 c5 c6
  have c1 := v1.c0
  have c2 := v1.c1
  have c3 := v1.c2
  have c4 := v2.c0
  have c5 := v2.c1
  have c6 := v2.c2
  go_wp2_with fail
  refine (ta _ b).mono ?_
  rintro e w5 ⟨rfl, hb⟩
  replace v1 := v1.below hb
  replace v2 := v2.below hb
  replace b := b.trans (hb.mono b.size)
  clear hb c1 c2 c3 c4 c5 c6
  have c1 := v1.c0
  have c2 := v1.c1
  have c3 := v1.c2
  have c4 := v2.c0
  have c5 := v2.c1
  have c6 := v2.c2
  go_wp2_with fail
  refine (tc _ b).mono ?_
  rintro e w6 ⟨rfl, hb⟩
  replace v1 := v1.below hb
  replace v2 := v2.below hb
  replace b := b.trans (hb.mono b.size)
  clear hb c1 c2 c3 c4 c5 c6
  have c1 := v1.c0
  have c2 := v1.c1
  have c3 := v1.c2
  have c4 := v2.c0
  have c5 := v2.c1
  have c6 := v2.c2
  clear ta tc
  have qc : ∀ d os, Calls Tryd.prog 21 #[vl K N S, vl K N S] (Sort.grow (redrawn w6 d) os) fun e w'' => e = .returned (.int .i64 0) ∧ ∃ p : Regrown, w'' = Sort.grow (redrawn w6 p.d) p.os := fun d os => Calls.regrown_of (by have := compare_any K N S K N S (Sort.grow (redrawn w6 d) os); rwa [un HX] at this)
  have d1 := cell_regrown c1
  have d2 := cell_regrown c2
  have d3 := cell_regrown c3
  have d4 := cell_regrown c4
  have d5 := cell_regrown c5
  have d6 := cell_regrown c6
  go_wp2_with fail
  refine wp_region_quiet_below (by kernel_rfl) (by kernel_rfl) ?_
  repeat (quiet_step (exact qc _ _))
  refine wpQuiet_nil ?_
  intro _ hw'
  obtain ⟨⟨dq, osq⟩, hw''⟩ := hw'
  subst hw''
  clear d1 d2 d3 d4 d5 d6 qc
  have hb := below_regrown w6 dq osq
  generalize Sort.grow (redrawn w6 dq) osq = w7 at *
  replace v1 := v1.below hb
  replace v2 := v2.below hb
  replace b := b.trans (hb.mono b.size)
  clear hb c1 c2 c3 c4 c5 c6
  have c1 := v1.c0
  have c2 := v1.c1
  have c3 := v1.c2
  have c4 := v2.c0
  have c5 := v2.c1
  have c6 := v2.c2
  go_wp2_with fail
  refine (na _).mono ?_
  rintro e w8 ⟨rfl, rfl⟩
  go_wp2_with fail
  refine (nc _).mono ?_
  rintro e w8 ⟨rfl, rfl⟩
  clear na nc
  go_wp2_with (go_at_call 21; refine (compare_any K N S K N S _).mono ?_; rintro e w8 ⟨rfl, hb⟩; rw [un HX])
  all_goals go_ret
  all_goals refine ⟨?_, by first | exact b | exact b.trans (hb.mono b.size)⟩
  all_goals first | rfl | (refine ret_bool ?_; simp_all; done) | (refine ret_bool ?_; simp_all; omega)
end Go.Proofs.YtcbnjokojefjmaaDoor.V04
