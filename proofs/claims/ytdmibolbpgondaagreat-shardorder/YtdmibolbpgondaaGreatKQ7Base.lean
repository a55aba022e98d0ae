/-
  Of the texts of layer 6 what layer 7 wants: One, Of, To, Far, Same, with letters for the lengths.
-/
import Derived.Test.YtdmibolbpgondaaGreatKP06Ord
import Derived.Test.YtdmibolbpgondaaGreatKP06RefCmp
import Derived.Handy
set_option linter.unusedSimpArgs false
set_option linter.unusedVariables false
namespace Go.Proofs.YtdmibolbpgondaaGreat.Q07
open Go.Shelf Go.RowKit Go.Lib Go.Sort Go.Proofs.YtdmibolbpgondaaGreat.Wd Go.Proofs.YtdmibolbpgondaaGreat.V04 Go.Proofs.YtdmibolbpgondaaGreat.P06

def oneS : Sp := ⟨7, 1, 0, ⟨#[119, 101, 98]⟩, ⟨#[103, 101, 116]⟩, 1, 0, 5, 9⟩
theorem one_any (w : World) : Calls Tryz.prog 27 #[] w fun e w' => e = .returned (spv oneS (.slice none 0 0)) ∧ Below w.heap.size w w' := by
  go_enter Tryz.func27, Tryz.ntmps27
  go_wp2
  go_returns
  exact ⟨rfl, by go_grown⟩
def OfOut (w : World) (s : Sp) (n : Nat) (l : List At) (e : Ending) (w' : World) : Prop := ∃ A' c', e = .returned (spv s (.slice A' n c')) ∧ Hd w.heap.size w' A' c' l ∧ Below w.heap.size w w'
theorem of_at (s : Sp) (A : Option Addr) (c n : Nat) (l : List At) (w : World) (h : Ats w A c l) (hn : l.length = n) (hm : n ≤ 40) : Calls Tryz.prog 11 #[spv s (.slice A n c)] w (OfOut w s n l) := by
  subst hn
  exact of_any s A c l w h hm
theorem far_at (s : Sp) (A : Option Addr) (c n : Nat) (l : List At) (b : Bool) (w : World) (h : Ats w A c l) (hn : l.length = n) (hm : n ≤ 9223372036854775807) (hb : far s l = b) :
    Calls Tryz.prog 9 #[spv s (.slice A n c)] w fun e w' => e = .returned (.bool b) ∧ Below w.heap.size w w' := by
  subst hn hb
  exact far_any s A c l w h hm
theorem far_len {s : Sp} {l : List At} (h : far s l = false) : l.length ≤ 40 := by
  unfold far at h
  simp only [Bool.or_eq_false_iff, decide_eq_false_iff_not] at h
  omega
theorem to_at (s : Sp) (A : Option Addr) (c n : Nat) (l : List At) (w : World) (h : Ats w A c l) (hn : l.length = n) (hm : n ≤ 40) : Calls Tryz.prog 41 #[spv s (.slice A n c)] w (OfOut w s n l) := by
  subst hn
  exact to_any s A c l w h hm
theorem cmpS_self (s : Sp) (l : List At) : cmpS s s l l = 0 := by
  have := cmpS_neg s s l l
  omega
theorem same_any (s t : Sp) (A1 A2 : Option Addr) (c1 c2 : Nat) (l m : List At) (n1 n2 : Nat) (b : Bool) (w : World) (h1 : Ats w A1 c1 l) (h2 : Ats w A2 c2 m) (hn1 : l.length = n1) (hn2 : m.length = n2) (z1 : n1 ≤ 40) (z2 : n2 ≤ 40) (hb : b = decide (cmpS s t l m = 0)) :
    Calls Tryz.prog 40 #[spv s (.slice A1 n1 c1), spv t (.slice A2 n2 c2)] w fun e w' => e = .returned (.bool b) ∧ Below w.heap.size w w' := by
  obtain ⟨x, hx⟩ : ∃ x, cmpS s t l m = x := ⟨_, rfl⟩
  have hR : ∀ W, Below w.heap.size w W → Calls Tryz.prog 36 #[spv s (.slice A1 n1 c1), spv t (.slice A2 n2 c2)] W fun e w' => e = .returned (.int .i64 x) ∧ Below W.heap.size W w' := fun W hW => by
    have h := refcmp_any s t A1 A2 c1 c2 l m n1 n2 W (h1.below hW) (h2.below hW) hn1 hn2 z1 z2
    rw [hx] at h
    exact h
  rw [hx] at hb
  subst hb
  have b0 : Below w.heap.size w ((w.alloc (.cells (spc s (.slice A1 n1 c1)) 34)).alloc (.cells (spc t (.slice A2 n2 c2)) 34)) := by go_grown
  clear h1 h2 hn1 hn2 z1 z2 hx
  go_enter Tryz.func40, Tryz.ntmps40
  go_wp2_with fail
  refine (hR _ b0).mono ?_
  rintro e w2 ⟨rfl, b2⟩
  replace b0 := b0.trans (b2.mono b0.size)
  clear b2 hR
  go_wp2
  go_ret
  exact ⟨ret_bool (by rw [Bool.eq_iff_iff]; simp), b0⟩
end Go.Proofs.YtdmibolbpgondaaGreat.Q07
