/-
  The walk of ValueAnys: any value as any, as a text and a number, and back.
-/
import Derived.Test.YtcbnjokojefjmaaDoorV04Alive
import Derived.Test.YtcbnjokojefjmaaDoorV04RefText
import Derived.Lib.QuietBelow
import Derived.Test.YtcbnjokojefjmaaDoorV04Open
import Derived.Test.YtcbnjokojefjmaaDoorV04Box
set_option linter.unusedSimpArgs false
set_option linter.unusedVariables false
namespace Go.Proofs.YtcbnjokojefjmaaDoor.V04
open Go.RowKit Go.Lib Go.Proofs.YtcbnjokojefjmaaDoor.Wd

set_option maxRecDepth 20000 in
set_option maxHeartbeats 1000000 in
theorem anys_law (K N : Int) (S : ByteArray) (w : World) (hT : Tb w) (h0 : -9223372036854775808 ≤ N) (h1 : N ≤ 9223372036854775807) :
    Calls Tryd.prog 4 #[vl K N S] w fun e w' => e = .returned (.bool true) ∧ Below w.heap.size w w' := by
  have b0 := below_box w (box 23 K N S) (Nat.le_refl _)
  go_enter Tryd.func4, Tryd.ntmps4
  go_wp2_with fail
  refine (alive_any _ (hT.below b0)).mono ?_
  rintro e w1 ⟨rfl, hb1⟩
  have v1 := (Vx.box w 23 K N S).below hb1
  have b1 := b0.trans (hb1.mono b0.size)
  clear b0 hb1
  have hT1 := hT.below b1
  have c0 := v1.c0
  have c1 := v1.c1
  have c2 := v1.c2
  by_cases hS : (5000 : Int) < S.size
  · go_wp2
    go_ret
    exact ⟨rfl, b1⟩
  · go_wp2_with fail
    refine (any_any K N S _).mono ?_
    rintro e w2 ⟨rfl, hb2⟩
    have v2 := v1.below hb2
    have hT2 := hT1.below hb2
    have b2 := b1.trans (hb2.mono b1.size)
    clear c0 c1 c2 v1 hT1 b1 hb2
    have c0 := v2.c0
    have c1 := v2.c1
    have c2 := v2.c2
    cases hr : right K N S with
    | false =>
      rw [any_none hr]
      unfold Av.v
      go_wp2_with fail
      refine (refright_any K N S false _ hr).mono ?_
      rintro e w3 ⟨rfl, rfl⟩
      go_wp2_with fail
      refine (of_at .nil 0 0 emp false rfl rfl rfl (by decide) _).mono ?_
      rintro e w3 ⟨rfl, hb3⟩
      go_wp2_with fail
      refine (ofn_any .nil _).mono ?_
      rintro e w4 ⟨rfl, rfl⟩
      have b3 := b2.trans (((Below.refl _ _).alloc b2.size (box 23 K N S)).trans (hb3.mono (by have := b2.size; simp; omega)))
      have b4 := b3.alloc b3.size (box 27 0 0 emp)
      go_wp2_with fail
      refine (text_any .nil _ (hT.below b4) trivial).mono ?_
      rintro e w5 ⟨rfl, hb5⟩
      unfold Av.text
      go_wp2
      go_ret
      exact ⟨rfl, b4.trans (hb5.mono b4.size)⟩
    | true =>
      obtain ⟨pK, pN, pS, pI⟩ := any_parts hr
      have pf := any_fits (K := K) (S := S) h0 h1
      have pt := ref_text hr
      generalize anyOf K N S = a at *
      go_wp2_with fail
      refine (refright_any K N S true _ hr).mono ?_
      rintro e w3 ⟨rfl, rfl⟩
      go_wp2_with fail
      refine (of_at a K N S true pK pN pS hr _).mono ?_
      rintro e w3 ⟨rfl, hb3⟩
      go_wp2_with fail
      refine (ofn_any a _).mono ?_
      rintro e w4 ⟨rfl, rfl⟩
      rw [pN, pI]
      have b3 := b2.trans (((Below.refl _ _).alloc b2.size (box 23 K N S)).trans (hb3.mono (by have := b2.size; simp; omega)))
      have b4 := b3.alloc b3.size (box 27 K N S)
      have x4 := Vx.box w3 27 K N S
      have v3 := (v2.below (below_box w2 (box 23 K N S) (Nat.le_refl _))).below hb3
      have v4 := v3.below (below_box w3 (box 27 K N S) (Nat.le_refl _))
      have hT4 := hT.below b4
      clear c0 c1 c2 hb3 v2 hT2 b2 v3 hT b3
      generalize w3.heap.size = g2 at *
      generalize w3.alloc (box 27 K N S) = w4 at *
      obtain ⟨r, hrt⟩ : ∃ r, a.text = r := ⟨_, rfl⟩
      have d0 := cell_regrown v4.c0
      have d1 := cell_regrown v4.c1
      have d2 := cell_regrown v4.c2
      have d3 := cell_regrown x4.c0
      have d4 := cell_regrown x4.c1
      have d5 := cell_regrown x4.c2
      have q1 : ∀ d os, Calls Tryd.prog 19 #[a.v] (Sort.grow (redrawn w4 d) os) fun e w'' => e = .returned (.string ⟨r.toArray⟩) ∧ ∃ p : Regrown, w'' = Sort.grow (redrawn w4 p.d) p.os := fun d os => Calls.regrown_of (by have := text_any a _ (hT4.below (below_regrown w4 d os)) pf; rwa [hrt] at this)
      have q2 : ∀ d os, Calls Tryd.prog 20 #[vl K N S] (Sort.grow (redrawn w4 d) os) fun e w'' => e = .returned (.string ⟨r.toArray⟩) ∧ ∃ p : Regrown, w'' = Sort.grow (redrawn w4 p.d) p.os := fun d os => Calls.regrown_of (reftext_at K N S r _ h0 h1 (by rw [pt, hrt]))
      clear hT4 pt hrt pf pI pN pS pK
      generalize a.v = v at *
      go_wp2_with fail
      refine wp_region_quiet_below (by kernel_rfl) (by kernel_rfl) ?_
      repeat (quiet_step (first | exact q1 _ _ | exact q2 _ _))
      refine wpQuiet_nil ?_
      intro _ hw'
      obtain ⟨⟨dq, osq⟩, hw''⟩ := hw'
      subst hw''
      go_wp2
      go_ret
      exact ⟨rfl, b4.trans ((below_regrown w4 dq osq).mono b4.size)⟩
end Go.Proofs.YtcbnjokojefjmaaDoor.V04
