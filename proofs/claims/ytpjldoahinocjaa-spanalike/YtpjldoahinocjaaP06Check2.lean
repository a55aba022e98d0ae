/-
  span.Check.
-/
import Derived.Test.YtpjldoahinocjaaP06Check
set_option linter.unusedSimpArgs false
set_option linter.unusedVariables false
namespace Go.Proofs.Ytpjldoahinocjaa.P06
open Go.Shelf Go.RowKit Go.Lib Go.Sort Go.Proofs.Ytpjldoahinocjaa.Wd Go.Proofs.Ytpjldoahinocjaa.V04

set_option maxRecDepth 20000 in
theorem name_any (s : ByteArray) (w : World) : Calls Try.prog 23 #[.string s] w fun e w' => e = .returned (.bool (nmb s)) ∧ w' = w := by
  have he := empty_iff s
  by_cases hz : s.size = 0
  · have e1 : nmb s = false := by simp [nmb, hz]
    have e2 : s.toList.isEmpty = true := by rw [List.isEmpty_iff]; exact he.2 hz
    have e3 : s.toList = [] := he.2 hz
    rw [e1]
    clear he
    go_enter Try.func23, Try.ntmps23
    go_wp2
    all_goals go_ret
    all_goals exact ⟨by first | rfl | simp_all, rfl⟩
  · have e2 : s.toList.isEmpty = false := by rw [Bool.eq_false_iff, ne_eq, List.isEmpty_iff]; exact fun e => hz (he.1 e)
    clear he
    by_cases h4 : (s.size : Int) ≤ 4096
    · have e1 : nmb s = true := by simp only [nmb, decide_eq_true_eq]; omega
      rw [e1]
      go_enter Try.func23, Try.ntmps23
      go_wp2
      all_goals go_ret
      all_goals exact ⟨by first | rfl | simp_all, rfl⟩
    · have e1 : nmb s = false := by simp only [nmb, decide_eq_false_iff_not]; omega
      rw [e1]
      go_enter Try.func23, Try.ntmps23
      go_wp2
      all_goals go_ret
      all_goals exact ⟨by first | rfl | simp_all, rfl⟩

/-- the reason, where the attributes may be (b) or not -/
def chk (s : Sp) (b : Bool) : Int :=
  if s.T = 0 ∨ s.I = 0 then 50 else if s.t1 < s.t0 ∨ 4611686018427387904 < s.t1 then 51 else if s.kd < 0 ∨ 4 < s.kd then 52 else if s.st < 0 ∨ 2 < s.st then 53
  else if nmb s.sv = false ∨ nmb s.nm = false then 54 else if b = false then 55 else 0
set_option maxRecDepth 20000 in
set_option maxHeartbeats 4000000 in
theorem check_any (s : Sp) (A : Option Addr) (c n : Nat) (l : List At) (w : World) (h : Hd 0 w A c l) (hn : l.length = n) (hm : n ≤ 40) (b : Bool) (hb : b = true ↔ Amb l) :
    Calls Try.prog 10 #[spv s (.slice A n c)] w fun e w' => e = .returned (.int .i64 (chk s b)) ∧ Below w.heap.size w w' := by
  have b0 : Below w.heap.size w (w.alloc (.cells (spc s (.slice A n c)) 30)) := by go_grown
  have hca : ∀ W, Below w.heap.size w W → Calls Try.prog 24 #[.slice A n c] W fun e w' => e = .returned (.bool b) ∧ Below W.heap.size W w' := fun W hW => by
    refine (attrs_any A c n l W (h.below hW) hn hm).mono ?_
    rintro e w' ⟨b', rfl, hb', hB⟩
    refine ⟨?_, hB⟩
    rw [Bool.eq_iff_iff.2 (hb'.trans hb.symm)]
  clear h hn hb
  obtain ⟨n1, e1⟩ : ∃ q, nmb s.sv = q := ⟨_, rfl⟩
  obtain ⟨n2, e2⟩ : ∃ q, nmb s.nm = q := ⟨_, rfl⟩
  have hc1 := fun W => name_any s.sv W
  have hc2 := fun W => name_any s.nm W
  rw [e1] at hc1
  rw [e2] at hc2
  obtain ⟨r, hr⟩ : ∃ r, chk s b = r := ⟨_, rfl⟩
  rw [hr]
  unfold chk at hr
  rw [e1, e2] at hr
  clear e1 e2
  by_cases g1 : s.T = 0
  · have k1 : (s.T == 0) = true := by simp [g1]
    rw [if_pos (.inl g1)] at hr
    subst hr
    clear g1
    go_enter Try.func10, Try.ntmps10
    go_wp2
    go_ret
    exact ⟨rfl, b0⟩
  have k1 : (s.T == 0) = false := beq_false_of_ne g1
  by_cases g2 : s.I = 0
  · have k2 : (s.I == 0) = true := by simp [g2]
    rw [if_pos (.inr g2)] at hr
    subst hr
    clear g1 g2
    go_enter Try.func10, Try.ntmps10
    go_wp2
    go_ret
    exact ⟨rfl, b0⟩
  have k2 : (s.I == 0) = false := beq_false_of_ne g2
  rw [if_neg (fun h => h.elim g1 g2)] at hr
  clear g1 g2
  by_cases g3 : s.t1 < s.t0
  · rw [if_pos (.inl g3)] at hr
    subst hr
    go_enter Try.func10, Try.ntmps10
    go_wp2
    go_ret
    exact ⟨rfl, b0⟩
  by_cases g4 : 4611686018427387904 < s.t1
  · rw [if_pos (.inr g4)] at hr
    subst hr
    go_enter Try.func10, Try.ntmps10
    go_wp2
    go_ret
    exact ⟨rfl, b0⟩
  rw [if_neg (fun h => h.elim g3 g4)] at hr
  by_cases g5 : s.kd < 0
  · rw [if_pos (.inl g5)] at hr
    subst hr
    go_enter Try.func10, Try.ntmps10
    go_wp2
    go_ret
    exact ⟨rfl, b0⟩
  by_cases g6 : 4 < s.kd
  · rw [if_pos (.inr g6)] at hr
    subst hr
    go_enter Try.func10, Try.ntmps10
    go_wp2
    go_ret
    exact ⟨rfl, b0⟩
  rw [if_neg (fun h => h.elim g5 g6)] at hr
  by_cases g7 : s.st < 0
  · rw [if_pos (.inl g7)] at hr
    subst hr
    go_enter Try.func10, Try.ntmps10
    go_wp2
    go_ret
    exact ⟨rfl, b0⟩
  by_cases g8 : 2 < s.st
  · rw [if_pos (.inr g8)] at hr
    subst hr
    go_enter Try.func10, Try.ntmps10
    go_wp2
    go_ret
    exact ⟨rfl, b0⟩
  rw [if_neg (fun h => h.elim g7 g8)] at hr
  cases n1 with
  | false =>
    rw [if_pos (.inl rfl)] at hr
    subst hr
    go_enter Try.func10, Try.ntmps10
    go_wp2_with fail
    refine (hc1 _).mono ?_
    rintro e w' ⟨rfl, rfl⟩
    go_wp2
    go_ret
    exact ⟨rfl, b0⟩
  | true =>
    cases n2 with
    | false =>
      rw [if_pos (.inr rfl)] at hr
      subst hr
      go_enter Try.func10, Try.ntmps10
      go_wp2_with fail
      refine (hc1 _).mono ?_
      rintro e w' ⟨rfl, rfl⟩
      go_wp2_with fail
      refine (hc2 _).mono ?_
      rintro e w' ⟨rfl, rfl⟩
      go_wp2
      go_ret
      exact ⟨rfl, b0⟩
    | true =>
      rw [if_neg (by simp)] at hr
      cases b with
      | false =>
        rw [if_pos rfl] at hr
        subst hr
        go_enter Try.func10, Try.ntmps10
        go_wp2_with fail
        refine (hc1 _).mono ?_
        rintro e w' ⟨rfl, rfl⟩
        go_wp2_with fail
        refine (hc2 _).mono ?_
        rintro e w' ⟨rfl, rfl⟩
        go_wp2_with fail
        refine (hca _ b0).mono ?_
        rintro e w' ⟨rfl, hb2⟩
        go_wp2
        go_ret
        exact ⟨rfl, b0.trans (hb2.mono b0.size)⟩
      | true =>
        rw [if_neg (by simp)] at hr
        subst hr
        go_enter Try.func10, Try.ntmps10
        go_wp2_with fail
        refine (hc1 _).mono ?_
        rintro e w' ⟨rfl, rfl⟩
        go_wp2_with fail
        refine (hc2 _).mono ?_
        rintro e w' ⟨rfl, rfl⟩
        go_wp2_with fail
        refine (hca _ b0).mono ?_
        rintro e w' ⟨rfl, hb2⟩
        go_wp2
        go_ret
        exact ⟨rfl, b0.trans (hb2.mono b0.size)⟩
end Go.Proofs.Ytpjldoahinocjaa.P06
