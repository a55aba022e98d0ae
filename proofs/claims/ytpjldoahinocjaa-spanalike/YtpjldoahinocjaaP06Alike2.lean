/-
  Made alike: byKeys, Alike.
-/
import Derived.Test.YtpjldoahinocjaaP06Alike
set_option linter.unusedSimpArgs false
set_option linter.unusedVariables false
namespace Go.Proofs.Ytpjldoahinocjaa.P06
open Go.Shelf Go.RowKit Go.Lib Go.Sort Go.Proofs.Ytpjldoahinocjaa.Wd Go.Proofs.Ytpjldoahinocjaa.V04

theorem insnil_any (f : Value) (c : Nat) (w : World) : Calls Try.prog 69 #[.slice none 0 c, .int .i64 0, .int .i64 0, f] w fun e w' => e = .returned (.tuple #[]) ∧ w' = w := by
  go_enter Try.func69, Try.ntmps69
  go_wp2
  refine wp_loop_rounds 1 ?_
  rw [rounds_succ]
  go_wp2
  go_end0
  exact ⟨rfl, rfl⟩
theorem sortnil_any (f : Value) (c : Nat) (w : World) : Calls Try.prog 41 #[.slice none 0 c, f] w fun e w' => e = .returned (.tuple #[]) ∧ w' = w := by
  have hs : ∀ W, Calls Try.prog 56 #[.slice none 0 c, .int .i64 0, f] W fun e w' => e = .returned (.tuple #[]) ∧ w' = W := fun W => by
    go_enter Try.func56, Try.ntmps56
    go_wp2
    refine wp_loop_rounds 1 ?_
    rw [rounds_succ]
    go_wp2_with (go_at_call 69; refine (insnil_any f c _).mono ?_; rintro e w1 ⟨rfl, rfl⟩)
    refine wp_loop_rounds 1 ?_
    rw [rounds_succ]
    go_wp2
    go_end0
    exact ⟨rfl, rfl⟩
  go_enter Try.func41, Try.ntmps41
  go_wp2_with (go_at_call 56; refine (hs _).mono ?_; rintro e w1 ⟨rfl, rfl⟩)
  go_end0
  exact ⟨rfl, rfl⟩

/-- what byKeys answers -/
def KeOut (w : World) (n : Nat) (l : List At) (e : Ending) (w' : World) : Prop := ∃ A' c' Y, e = .returned (.slice A' n c') ∧ Y.length = n ∧ Srt Y ∧ Keep l Y ∧ Hd w.heap.size w' A' c' Y ∧ Below w.heap.size w w'
theorem KeOut.of {w : World} {n : Nat} {l : List At} {e : Ending} {w' : World} (A' : Option Addr) (c' : Nat) (Y : List At) (h1 : e = .returned (.slice A' n c')) (h2 : Y.length = n) (h3 : Srt Y) (h4 : Keep l Y) (h5 : Hd w.heap.size w' A' c' Y) (h6 : Below w.heap.size w w') : KeOut w n l e w' := ⟨A', c', Y, h1, h2, h3, h4, h5, h6⟩
set_option maxRecDepth 20000 in
set_option maxHeartbeats 2000000 in
theorem bykeys_any (A : Option Addr) (c n : Nat) (l : List At) (w : World) (h : Hd 0 w A c l) (hn : l.length = n) (hm : n ≤ 40) :
    Calls Try.prog 28 #[.slice A n c] w (KeOut w n l) := by
  have eg : ∀ args w, (callFunc 42 args).run Try.prog w = .ok (.enter 42 args) w := enters_of Try.func42 (by kernel_rfl) rfl
  have hc := clone_any A c n l w h hn hm
  have HN := Lib.hid hn
  have HG := Lib.hid eg
  clear h hn eg
  go_enter Try.func28, Try.ntmps28
  go_wp2_with fail
  refine hc.mono ?_
  rintro e w2 ⟨A2, c2, rfl, hH, hb⟩
  rcases hH with ⟨rfl, rfl, hl⟩ | ⟨g, rfl, hB, hg, hHo, hcap, hmax⟩
  · have hn0 : n = 0 := by have := un HN; rw [hl] at this; simpa using this.symm
    subst hn0
    have HL := Lib.hid hl
    clear hl
    go_wp2_with fail
    refine (sortnil_any _ _ _).mono ?_
    rintro e w3 ⟨rfl, rfl⟩
    go_wp2
    go_ret
    refine KeOut.of none 0 [] rfl rfl Sd.nil ?_ (Hd.nil _ _) hb
    rw [un HL]
    exact Fe.refl _
  · have hsz : (l.toArray).size = n := by rw [List.size_toArray]; exact un HN
    have R : Rw 4 w2 g l.toArray := ⟨enc_len, enc_one, hHo, hg⟩
    have hs := sort_any 42 #[] g c2 l.toArray w2 w2 l n R (un HG) (cmplays g _ w2) (un HN) hm hsz (SWK.start hHo)
    have HC := Lib.hid (And.intro hcap (And.intro hmax (And.intro hB (And.intro hg hHo))))
    clear R hsz hcap hmax hHo
    go_wp2_with fail
    refine hs.mono ?_
    rintro e w3 ⟨rfl, Y, hY, h1, h2, h3⟩
    go_wp2
    go_ret
    obtain ⟨hcap, hmax, hB, hg, hHo⟩ := un HC
    refine KeOut.of (some ⟨g, 0, none⟩) c2 Y rfl hY h1 h2 (.inr ⟨g, rfl, hB, h3.lt hg, h3.holds hg hHo (by rw [List.size_toArray, List.size_toArray, hY]; exact (un HN).symm), by rw [hY, ← un HN]; exact hcap, hmax⟩) ?_
    exact hb.grown (grown_sorted h3) hb.size fun k hk => by injection hk with hk; subst hk; exact hB
end Go.Proofs.Ytpjldoahinocjaa.P06
