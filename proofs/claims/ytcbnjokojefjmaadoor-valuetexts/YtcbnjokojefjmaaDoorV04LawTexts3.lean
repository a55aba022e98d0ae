/-
  The walk of ValueTexts: two right values of one kind have the same text just if they are the same, and the greater number is told as such.
-/
import Derived.Test.YtcbnjokojefjmaaDoorV04Alive
import Derived.Test.YtcbnjokojefjmaaDoorV04Texts
import Derived.Test.YtcbnjokojefjmaaDoorV04Open
import Derived.Lib.QuietBelow
import Derived.Test.YtcbnjokojefjmaaDoorV04LawTexts1
set_option linter.unusedSimpArgs false
set_option linter.unusedVariables false
namespace Go.Proofs.YtcbnjokojefjmaaDoor.V04
open Go.RowKit Go.Lib Go.Proofs.YtcbnjokojefjmaaDoor.Wd

set_option maxRecDepth 20000 in
set_option maxHeartbeats 4000000 in
theorem texts_texts (N : Int) (S : ByteArray) (T : ByteArray) (hST : ¬ S.toList = T.toList) (hE : ¬ S = T) (w : World) (hT : Tb w) (fN0 : -9223372036854775808 ≤ N) (fN1 : N ≤ 9223372036854775807) (fM0 : -9223372036854775808 ≤ N) (fM1 : N ≤ 9223372036854775807) (hra : right 3 N S = true) (hrb : right 3 N T = true) :
    Calls Tryd.prog 7 #[vl 3 N S, vl 3 N T] w fun e w' => e = .returned (.bool true) ∧ Below w.heap.size w w' := by
  have v1 : Vx ((w.alloc (box 23 3 N S)).alloc (box 23 3 N T)) w.heap.size 3 N S := (Vx.box w _ 3 N S).old _
  have v2 : Vx ((w.alloc (box 23 3 N S)).alloc (box 23 3 N T)) (w.heap.size + 1) 3 N T := vx2 w _ _ 3 N T
  have b : Below w.heap.size w ((w.alloc (box 23 3 N S)).alloc (box 23 3 N T)) := by go_grown
  go_enter Tryd.func7, Tryd.ntmps7
  go_wp2_with fail
  generalize ((w.alloc (box 23 3 N S)).alloc (box 23 3 N T)) = X at *
  refine (alive_any _ (hT.below b)).mono ?_
  rintro e w1 ⟨rfl, hb⟩
  replace v1 := v1.below hb
  replace v2 := v2.below hb
  replace b := b.trans (hb.mono b.size)
  clear hb
  have c1 := v1.c0
  have c2 := v1.c1
  have c3 := v1.c2
  have c4 := v2.c0
  have c5 := v2.c1
  have c6 := v2.c2
  obtain ⟨s, hw⟩ : ∃ s, wrap64 ((S.size : Int) + T.size) = s := ⟨_, rfl⟩
  have s9 : ¬ (9000 : Int) < s := by
    have h1 := right_size hra
    have h2 := right_size hrb
    rw [← hw, IntWalk.wrap64_in _ (by omega)]
    omega
  go_wp2_with fail
  refine (right_any 3 N S true _ hra).mono ?_
  rintro e w2 ⟨rfl, rfl⟩
  have hb := below_box w1 (box 27 3 N S) (Nat.le_refl _)
  generalize w1.alloc (box 27 3 N S) = w2 at *
  replace v1 := v1.below hb
  replace v2 := v2.below hb
  replace b := b.trans (hb.mono b.size)
  clear hb c1 c2 c3 c4 c5 c6
  have c1 := v1.c0
  have c2 := v1.c1
  have c3 := v1.c2
  have c4 := v2.c0
  have c5 := v2.c1
  have c6 := v2.c2
  go_wp2_with fail
  refine (right_any 3 N T true _ hrb).mono ?_
  rintro e w3 ⟨rfl, rfl⟩
  have hb := below_box w2 (box 27 3 N T) (Nat.le_refl _)
  generalize w2.alloc (box 27 3 N T) = w3 at *
  replace v1 := v1.below hb
  replace v2 := v2.below hb
  replace b := b.trans (hb.mono b.size)
  clear hb c1 c2 c3 c4 c5 c6
  have c1 := v1.c0
  have c2 := v1.c1
  have c3 := v1.c2
  have c4 := v2.c0
  have c5 := v2.c1
  have c6 := v2.c2
  obtain ⟨A, hA⟩ : ∃ A : ByteArray, ⟨(anyOf 3 N S).text.toArray⟩ = A := ⟨_, rfl⟩
  obtain ⟨B, hB⟩ : ∃ B : ByteArray, ⟨(anyOf 3 N T).text.toArray⟩ = B := ⟨_, rfl⟩
  obtain ⟨x, hx⟩ : ∃ x, cmpV 3 N S 3 N T = x := ⟨_, rfl⟩
  have htx := text_eq 3 N S N T hra hrb
  have hAB : ¬ A.toList = B.toList := fun h => hE (htx.1 (text_of hA hB h)).2
  have hAB' : (A.toList == B.toList) = false := beq_eq_false_iff_ne.2 hAB
  have hx0 : ¬ x = 0 := fun h => hE (cmpV_zero (hx.trans h)).2.2
  clear htx hE
  have fa := any_fits (K := 3) (S := S) fN0 fN1
  have fc := any_fits (K := 3) (S := T) (N := N) fM0 fM1
  obtain ⟨_, pN, _, pI⟩ := any_parts hra
  obtain ⟨_, qN, _, qI⟩ := any_parts hrb
  have qa : ∀ d os, Calls Tryd.prog 16 #[vl 3 N S] (Sort.grow (redrawn w3 d) os) fun e w'' => e = .returned (anyOf 3 N S).v ∧ ∃ p : Regrown, w'' = Sort.grow (redrawn w3 p.d) p.os := fun d os => Calls.regrown_of (any_any 3 N S _)
  have qb : ∀ d os, Calls Tryd.prog 16 #[vl 3 N T] (Sort.grow (redrawn w3 d) os) fun e w'' => e = .returned (anyOf 3 N T).v ∧ ∃ p : Regrown, w'' = Sort.grow (redrawn w3 p.d) p.os := fun d os => Calls.regrown_of (any_any 3 N T _)
  have ta := fun w' (h : Below w.heap.size w w') => text_any (anyOf 3 N S) w' (hT.below h) fa
  have tc := fun w' (h : Below w.heap.size w w') => text_any (anyOf 3 N T) w' (hT.below h) fc
  rw [hA] at ta
  rw [hB] at tc
  have na := ofn_any (anyOf 3 N S)
  have nc := ofn_any (anyOf 3 N T)
  rw [pN, pI] at na
  rw [qN, qI] at nc
  clear pN pI qN qI hA hB fa fc hra hrb
  generalize (anyOf 3 N S).v = va at *
  generalize (anyOf 3 N T).v = vc at *
  have d1 := cell_regrown c1
  have d2 := cell_regrown c2
  have d3 := cell_regrown c3
  have d4 := cell_regrown c4
  have d5 := cell_regrown c5
  have d6 := cell_regrown c6
  have HX := Lib.hid hx
  clear hx
  go_wp2_with fail
  refine wp_region_quiet_below (by kernel_rfl) (by kernel_rfl) ?_
  repeat (quiet_step (first | with_reducible exact qa _ _ | with_reducible exact qb _ _))
  refine wpQuiet_nil ?_
  intro _ hw'
  obtain ⟨⟨dq, osq⟩, hw''⟩ := hw'
  subst hw''
  clear d1 d2 d3 d4 d5 d6 qa qb s9 hw
  have hb := below_regrown w3 dq osq
  generalize Sort.grow (redrawn w3 dq) osq = w4 at *
  replace v1 := v1.below hb
  replace v2 := v2.below hb
  replace b := b.trans (hb.mono b.size)
  clear hb c1 c2 c3 c4 c5 c6
  have c1 := v1.c0
  have c2 := v1.c1
  have c3 := v1.c2
  have c4 := v2.c0
  have c5 := v2.c1
  have c6 := v2.c2
  go_wp2_with fail
  refine (ta _ b).mono ?_
  rintro e w5 ⟨rfl, hb⟩
  replace v1 := v1.below hb
  replace v2 := v2.below hb
  replace b := b.trans (hb.mono b.size)
  clear hb c1 c2 c3 c4 c5 c6
  have c1 := v1.c0
  have c2 := v1.c1
  have c3 := v1.c2
  have c4 := v2.c0
  have c5 := v2.c1
  have c6 := v2.c2
  go_wp2_with fail
  refine (tc _ b).mono ?_
  rintro e w6 ⟨rfl, hb⟩
  replace v1 := v1.below hb
  replace v2 := v2.below hb
  replace b := b.trans (hb.mono b.size)
  clear hb c1 c2 c3 c4 c5 c6
  have c1 := v1.c0
  have c2 := v1.c1
  have c3 := v1.c2
  have c4 := v2.c0
  have c5 := v2.c1
  have c6 := v2.c2
  clear ta tc
  have qc : ∀ d os, Calls Tryd.prog 21 #[vl 3 N S, vl 3 N T] (Sort.grow (redrawn w6 d) os) fun e w'' => e = .returned (.int .i64 x) ∧ ∃ p : Regrown, w'' = Sort.grow (redrawn w6 p.d) p.os := fun d os => Calls.regrown_of (by have := compare_any 3 N S 3 N T (Sort.grow (redrawn w6 d) os); rwa [un HX] at this)
  have d1 := cell_regrown c1
  have d2 := cell_regrown c2
  have d3 := cell_regrown c3
  have d4 := cell_regrown c4
  have d5 := cell_regrown c5
  have d6 := cell_regrown c6
  go_wp2_with fail
  refine wp_region_quiet_below (by kernel_rfl) (by kernel_rfl) ?_
  repeat (quiet_step (exact qc _ _))
  refine wpQuiet_nil ?_
  intro _ hw'
  obtain ⟨⟨dq, osq⟩, hw''⟩ := hw'
  subst hw''
  clear d1 d2 d3 d4 d5 d6 qc
  have hb := below_regrown w6 dq osq
  generalize Sort.grow (redrawn w6 dq) osq = w7 at *
  replace v1 := v1.below hb
  replace v2 := v2.below hb
  replace b := b.trans (hb.mono b.size)
  clear hb c1 c2 c3 c4 c5 c6
  have c1 := v1.c0
  have c2 := v1.c1
  have c3 := v1.c2
  have c4 := v2.c0
  have c5 := v2.c1
  have c6 := v2.c2
  go_wp2_with fail
  refine (na _).mono ?_
  rintro e w8 ⟨rfl, rfl⟩
  go_wp2_with fail
  refine (nc _).mono ?_
  rintro e w8 ⟨rfl, rfl⟩
  clear na nc
  go_wp2_with (go_at_call 21; refine (compare_any 3 N S 3 N T _).mono ?_; rintro e w8 ⟨rfl, hb⟩; rw [un HX])
  all_goals go_ret
  all_goals refine ⟨?_, by first | exact b | exact b.trans (hb.mono b.size)⟩
  all_goals first | rfl | (refine ret_bool ?_; simp_all; done) | (refine ret_bool ?_; simp_all; omega)
end Go.Proofs.YtcbnjokojefjmaaDoor.V04
