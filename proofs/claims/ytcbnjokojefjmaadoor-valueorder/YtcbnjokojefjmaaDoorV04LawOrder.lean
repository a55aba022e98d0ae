/-
  The walk of ValueOrder: the order of any three values.
-/
import Derived.Test.YtcbnjokojefjmaaDoorV04Alive
import Derived.Test.YtcbnjokojefjmaaDoorV04Comp
import Derived.Test.YtcbnjokojefjmaaDoorV04Open
set_option linter.unusedSimpArgs false
set_option linter.unusedVariables false
namespace Go.Proofs.YtcbnjokojefjmaaDoor.V04
open Go.RowKit Go.Lib Go.Proofs.YtcbnjokojefjmaaDoor.Wd

set_option maxRecDepth 20000 in
set_option maxHeartbeats 2000000 in
theorem order_law (K N : Int) (S : ByteArray) (L M : Int) (T : ByteArray) (I J : Int) (U : ByteArray) (w : World) (hT : Tb w) :
    Calls Tryd.prog 6 #[vl K N S, vl L M T, vl I J U] w fun e w' => e = .returned (.bool true) ∧ Below w.heap.size w w' := by
  obtain ⟨x, hx⟩ : ∃ x, cmpV K N S L M T = x := ⟨_, rfl⟩
  obtain ⟨y, hy⟩ : ∃ y, cmpV L M T I J U = y := ⟨_, rfl⟩
  obtain ⟨z, hz⟩ : ∃ z, cmpV K N S I J U = z := ⟨_, rfl⟩
  have bx := cmpV_vals K N S L M T
  have by' := cmpV_vals L M T I J U
  have bz := cmpV_vals K N S I J U
  have t3 := cmpV_trans K N S L M T I J U
  have ng := cmpV_neg K N S L M T
  unfold T3 at t3
  rw [hx] at bx ng
  rw [hy] at by'
  rw [hz] at bz
  rw [hx, hy, hz] at t3
  have v1 : Vx (((w.alloc (box 23 K N S)).alloc (box 23 L M T)).alloc (box 23 I J U)) w.heap.size K N S := ((Vx.box w _ K N S).old _).old _
  have v2 : Vx (((w.alloc (box 23 K N S)).alloc (box 23 L M T)).alloc (box 23 I J U)) (w.heap.size + 1) L M T := (vx2 w _ _ L M T).old _
  have v3 : Vx (((w.alloc (box 23 K N S)).alloc (box 23 L M T)).alloc (box 23 I J U)) (w.heap.size + 1 + 1) I J U := vx3 w _ _ _ I J U
  have b : Below w.heap.size w (((w.alloc (box 23 K N S)).alloc (box 23 L M T)).alloc (box 23 I J U)) := by go_grown
  go_enter Tryd.func6, Tryd.ntmps6
  go_wp2_with fail
  generalize (((w.alloc (box 23 K N S)).alloc (box 23 L M T)).alloc (box 23 I J U)) = X at *
  refine (alive_any _ (hT.below b)).mono ?_
  rintro e w1 ⟨rfl, hb⟩
  replace v1 := v1.below hb
  replace v2 := v2.below hb
  replace v3 := v3.below hb
  replace b := b.trans (hb.mono b.size)
  clear hb
  have c1 := v1.c0
  have c2 := v1.c1
  have c3 := v1.c2
  have c4 := v2.c0
  have c5 := v2.c1
  have c6 := v2.c2
  have c7 := v3.c0
  have c8 := v3.c1
  have c9 := v3.c2
  go_wp2_with fail
  refine (compare_any K N S L M T _).mono ?_
  rintro e w2 ⟨rfl, hb⟩
  rw [hx]
  replace v1 := v1.below hb
  replace v2 := v2.below hb
  replace v3 := v3.below hb
  replace b := b.trans (hb.mono b.size)
  clear hb c1 c2 c3 c4 c5 c6 c7 c8 c9
  have c1 := v1.c0
  have c2 := v1.c1
  have c3 := v1.c2
  have c4 := v2.c0
  have c5 := v2.c1
  have c6 := v2.c2
  have c7 := v3.c0
  have c8 := v3.c1
  have c9 := v3.c2
  go_wp2_with fail
  refine (compare_any L M T I J U _).mono ?_
  rintro e w3 ⟨rfl, hb⟩
  rw [hy]
  replace v1 := v1.below hb
  replace v2 := v2.below hb
  replace v3 := v3.below hb
  replace b := b.trans (hb.mono b.size)
  clear hb c1 c2 c3 c4 c5 c6 c7 c8 c9
  have c1 := v1.c0
  have c2 := v1.c1
  have c3 := v1.c2
  have c4 := v2.c0
  have c5 := v2.c1
  have c6 := v2.c2
  have c7 := v3.c0
  have c8 := v3.c1
  have c9 := v3.c2
  go_wp2_with fail
  refine (compare_any K N S I J U _).mono ?_
  rintro e w4 ⟨rfl, hb⟩
  rw [hz]
  replace v1 := v1.below hb
  replace v2 := v2.below hb
  replace v3 := v3.below hb
  replace b := b.trans (hb.mono b.size)
  clear hb c1 c2 c3 c4 c5 c6 c7 c8 c9
  have c1 := v1.c0
  have c2 := v1.c1
  have c3 := v1.c2
  have c4 := v2.c0
  have c5 := v2.c1
  have c6 := v2.c2
  have c7 := v3.c0
  have c8 := v3.c1
  have c9 := v3.c2
  go_wp2_with fail
  refine (refcompare_any K N S L M T _).mono ?_
  rintro e w5 ⟨rfl, hb⟩
  rw [hx]
  replace v1 := v1.below hb
  replace v2 := v2.below hb
  replace v3 := v3.below hb
  replace b := b.trans (hb.mono b.size)
  clear hb c1 c2 c3 c4 c5 c6 c7 c8 c9
  have c1 := v1.c0
  have c2 := v1.c1
  have c3 := v1.c2
  have c4 := v2.c0
  have c5 := v2.c1
  have c6 := v2.c2
  have c7 := v3.c0
  have c8 := v3.c1
  have c9 := v3.c2
  go_wp2_with fail
  refine (compare_any L M T K N S _).mono ?_
  rintro e w6 ⟨rfl, hb⟩
  rw [ng]
  replace v1 := v1.below hb
  replace v2 := v2.below hb
  replace v3 := v3.below hb
  replace b := b.trans (hb.mono b.size)
  clear hb c1 c2 c3 c4 c5 c6 c7 c8 c9
  have c1 := v1.c0
  have c2 := v1.c1
  have c3 := v1.c2
  have c4 := v2.c0
  have c5 := v2.c1
  have c6 := v2.c2
  have c7 := v3.c0
  have c8 := v3.c1
  have c9 := v3.c2
  clear hx hy hz ng
  rcases bx with rfl | rfl | rfl <;> rcases by' with rfl | rfl | rfl <;> rcases bz with rfl | rfl | rfl
  all_goals first
    | (exfalso; have := t3 (by omega) (by omega); omega)
    | (go_wp2; go_ret; exact ⟨rfl, b⟩)
end Go.Proofs.YtcbnjokojefjmaaDoor.V04
