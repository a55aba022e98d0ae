/-
  Same of two spans; To with a letter for the length; what a label of another length is.
-/
import Derived.Test.YtpjldoahinocjaaP06LawOrder
import Derived.Test.YtpjldoahinocjaaP06To
set_option linter.unusedSimpArgs false
set_option linter.unusedVariables false
namespace Go.Proofs.Ytpjldoahinocjaa.P06
open Go.Shelf Go.RowKit Go.Lib Go.Sort Go.Proofs.Ytpjldoahinocjaa.Wd Go.Proofs.Ytpjldoahinocjaa.V04

theorem to_at (s : Sp) (A : Option Addr) (c n : Nat) (l : List At) (w : World) (h : Ats w A c l) (hn : l.length = n) (hm : n ≤ 40) : Calls Try.prog 13 #[spv s (.slice A n c)] w (OfOut w s n l) := by
  subst hn
  exact to_any s A c l w h hm
theorem cmpS_self (s : Sp) (l : List At) : cmpS s s l l = 0 := by
  have := cmpS_neg s s l l
  omega
theorem same_any (s t : Sp) (A1 A2 : Option Addr) (c1 c2 : Nat) (l m : List At) (n1 n2 : Nat) (b : Bool) (w : World) (h1 : Ats w A1 c1 l) (h2 : Ats w A2 c2 m) (hn1 : l.length = n1) (hn2 : m.length = n2) (z1 : n1 ≤ 40) (z2 : n2 ≤ 40) (hb : b = decide (cmpS s t l m = 0)) :
    Calls Try.prog 12 #[spv s (.slice A1 n1 c1), spv t (.slice A2 n2 c2)] w fun e w' => e = .returned (.bool b) ∧ Below w.heap.size w w' := by
  obtain ⟨x, hx⟩ : ∃ x, cmpS s t l m = x := ⟨_, rfl⟩
  have hR : ∀ W, Below w.heap.size w W → Calls Try.prog 20 #[spv s (.slice A1 n1 c1), spv t (.slice A2 n2 c2)] W fun e w' => e = .returned (.int .i64 x) ∧ Below W.heap.size W w' := fun W hW => by
    have h := refcmp_any s t A1 A2 c1 c2 l m n1 n2 W (h1.below hW) (h2.below hW) hn1 hn2 z1 z2
    rw [hx] at h
    exact h
  rw [hx] at hb
  subst hb
  have b0 : Below w.heap.size w ((w.alloc (.cells (spc s (.slice A1 n1 c1)) 25)).alloc (.cells (spc t (.slice A2 n2 c2)) 25)) := by go_grown
  clear h1 h2 hn1 hn2 z1 z2 hx
  go_enter Try.func12, Try.ntmps12
  go_wp2_with fail
  refine (hR _ b0).mono ?_
  rintro e w2 ⟨rfl, b2⟩
  replace b0 := b0.trans (b2.mono b0.size)
  clear b2 hR
  go_wp2
  go_ret
  exact ⟨ret_bool (by rw [Bool.eq_iff_iff]; simp), b0⟩

/-! ### labels of two lengths -/
theorem cutN_mono : ∀ (L : List (Nat × List UInt8)) (n m : Int), n ≤ m → T03.cutN L n ≤ T03.cutN L m
  | [], n, m, h => Nat.le_refl _
  | p :: t, n, m, h => by
    simp only [T03.cutN]
    by_cases h1 : (p.2.length : Int) ≤ n
    · rw [if_pos h1, if_pos (by omega)]
      have := cutN_mono t (n - p.2.length) (m - p.2.length) (by omega)
      omega
    · rw [if_neg h1]
      exact Nat.zero_le _
theorem cut_mono (l : List UInt8) (n m : Int) (h : n ≤ m) : (T03.cut l m).take (T03.cut l n).length = T03.cut l n ∧ (T03.cut l n).length ≤ (T03.cut l m).length := by
  have h0 := cutN_mono (T03.ps l) n m h
  obtain ⟨_, _, _, e1, _⟩ := T03.cut_told l n
  obtain ⟨_, _, _, e2, _⟩ := T03.cut_told l m
  rw [e1, e2] at h0
  refine ⟨?_, h0⟩
  have h1 := T03.cut_pre l n
  have h2 := T03.cut_pre l m
  conv => lhs; rw [← h2]
  rw [List.take_take, Nat.min_eq_left h0, h1]
/-- a longer label begins with a shorter one -/
theorem lab_own (s : ByteArray) (n m : Int) (h : n ≤ m) : (lab s n).size ≤ (lab s m).size ∧ ((lab s m).extract 0 (lab s n).size = lab s n ∨ lab s n = ⟨#[95]⟩) := by
  obtain ⟨h1, h2⟩ := cut_mono (T03.clean (T03.ls s)) n m h
  unfold lab
  generalize T03.cut (T03.clean (T03.ls s)) n = X at *
  generalize T03.cut (T03.clean (T03.ls s)) m = Y at *
  by_cases hx : X.length = 0
  · rw [if_pos hx]
    refine ⟨?_, .inr rfl⟩
    split
    · exact Nat.le_refl _
    · rename_i hy
      rw [T03.str_size]
      exact Nat.pos_of_ne_zero hy
  · rw [if_neg hx, if_neg (by omega), T03.str_size, T03.str_size]
    refine ⟨h2, .inl ?_⟩
    rw [T03.ext_str, T03.ls_str, h1]
theorem lab_size (s : ByteArray) (n : Int) (h : 1 ≤ n) : ((lab s n).size : Int) ≤ n ∧ 0 < (lab s n).size ∧ (lab s n).size ≤ s.size + 1 := by
  obtain ⟨_, _, _, _, _, h5⟩ := T03.cut_told (T03.clean (T03.ls s)) n
  have h6 := T03.cut_le (T03.clean (T03.ls s)) n
  have h7 := T03.clean_le (T03.ls s)
  have h8 : (T03.ls s).length = s.size := rfl
  unfold lab
  split
  · refine ⟨?_, by decide, ?_⟩
    · show (1 : Int) ≤ n
      omega
    · show 1 ≤ _
      omega
  · rw [T03.str_size]
    exact ⟨h5 (by omega), by omega, by omega⟩
end Go.Proofs.Ytpjldoahinocjaa.P06
