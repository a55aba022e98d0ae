/-
  slices.Clone of attributes.
-/
import Derived.Test.YtjbnoioildbahaaP06Of
import Derived.Lib.SliceRun
set_option linter.unusedSimpArgs false
set_option linter.unusedVariables false
namespace Go.Proofs.Ytjbnoioildbahaa.P06
open Go.Shelf Go.RowKit Go.Lib Go.Sort Go.Proofs.Ytjbnoioildbahaa.Wd Go.Proofs.Ytjbnoioildbahaa.V04

theorem own_empty4 (w : World) (e : TypeId) : (w.alloc (.cells #[] e)).ownsRow w.heap.size e 4 (.slice (some ⟨w.heap.size, 0, none⟩) 0 0) 0 [] :=
  ⟨by simp, .inr ⟨w.heap.size, 0, #[], rfl, Nat.le_refl _, heap_alloc_new w _, Nat.le_refl _, by unfold maxLen; omega, by simp, by simp⟩⟩
/-- what a copy is -/
def ClOut (w : World) (n : Nat) (l : List At) (e : Ending) (w' : World) : Prop := ∃ A' c', e = .returned (.slice A' n c') ∧ Hd w.heap.size w' A' c' l ∧ Below w.heap.size w w'
theorem ClOut.of {w : World} {n : Nat} {l : List At} {e : Ending} {w' : World} (A' : Option Addr) (c' : Nat) (h1 : e = .returned (.slice A' n c')) (h2 : Hd w.heap.size w' A' c' l) (h3 : Below w.heap.size w w') : ClOut w n l e w' := ⟨A', c', h1, h2, h3⟩
set_option maxRecDepth 20000 in
set_option maxHeartbeats 2000000 in
theorem clone_any (A : Option Addr) (c n : Nat) (l : List At) (w : World) (h : Hd 0 w A c l) (hn : l.length = n) (hm : n ≤ 40) :
    Calls Try.prog 25 #[.slice A n c] w (ClOut w n l) := by
  have q22 : ∀ (w : World) (a : Option Addr) (n c : Nat), (binOp .eql 37 (.slice a n c) (.slice none 0 0)).run Try.prog w = .ok (.bool a.isNone) w := fun w a n c => Lib.run_eql_slice_nil w _ _ a n c 0 0 Try.underlying37
  obtain ⟨i0, hi, hz0, hz1, hz2⟩ := info_parts attr_info
  cases hA : A with
  | none =>
    subst hA
    rcases h with ⟨_, hc, hl⟩ | ⟨g, hg, _⟩
    · subst hc hl
      have hn0 : n = 0 := by simpa using hn.symm
      subst hn0
      clear hn
      go_enter Try.func25, Try.ntmps25
      go_wp2
      go_ret
      exact ClOut.of none 0 rfl (Hd.nil _ _) (Below.refl _ _)
    · cases hg
  | some ad =>
    subst hA
    have hr := h.ats.below (below_box w (.cells #[] 56) (Nat.le_refl _))
    have hr' : Rd 4 (w.alloc (.cells #[] 56)) (some ad) n c (l.flatMap enc) := by rw [← hn]; exact hr
    have ho := own_empty4 w 56
    have HN := Lib.hid hn
    clear hn hr h
    go_enter Try.func25, Try.ntmps25
    go_wp2_with (at_builtin; refine wpList_append_rd _ rfl (.tmp 5) (.tmp 6) 37 rfl w.heap.size 56 i0 _ 4 48 Try.underlying37 hi hz0 hz1 hz2 rfl (by decide) _ 0 [] rfl ho (some ad) n c (l.flatMap enc) rfl hr' (fm_one l) ?d1 ?d2 ?d3 ?_)
    case d1 => unfold maxLen; omega
    case d2 => omega
    case d3 => simp
    intro A3 c3 w2 hown3 hg3
    have hb : Below w.heap.size w w2 := ((below_box w (.cells #[] 56) (Nat.le_refl _))).grown hg3 (by simp) fun k hk => (ho.lt k hk).1
    have hH : Hd w.heap.size w2 A3 c3 l := by
      have h1 : w2.ownsRow w.heap.size 56 4 (.slice A3 l.length c3) l.length (l.flatMap enc) := by
        rw [un HN]
        simpa using hown3
      exact Hd.own h1
    clear hown3 hg3
    go_wp2
    go_ret
    exact ClOut.of A3 c3 (by simp) hH hb
end Go.Proofs.Ytjbnoioildbahaa.P06
