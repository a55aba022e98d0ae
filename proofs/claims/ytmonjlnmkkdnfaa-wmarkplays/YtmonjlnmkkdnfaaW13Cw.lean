/-
  A clock of the call's own, one line a call.
-/
import Derived.Test.YtmonjlnmkkdnfaaW13Alive
set_option linter.unusedSimpArgs false
set_option linter.unusedVariables false
namespace Go.Proofs.Ytmonjlnmkkdnfaa.W13
open Go.RowKit Go.Lib Go.Proofs.Ytmonjlnmkkdnfaa.Wd

theorem qt_false {now idle : Nat} {x : Kn} (h : ¬ (idle ≠ 0 ∧ x.2 + idle ≤ now)) : qt now idle x = false := by
  cases hq : qt now idle x
  · rfl
  · exact absurd (qt_true.1 hq) h
/-- the clock of the call's own -/
def Cw (w0 w : World) (p : Nat) (c : Cl) : Prop := ∃ lo hi, Ci w p lo hi c ∧ w0.heap.size ≤ lo ∧ Below w0.heap.size w0 w
section
variable {w0 w w' : World} {p : Nat} {c : Cl}
theorem Cw.new {w1 : World} {lo hi : Nat} (hb : Below w0.heap.size w0 w) (h : Ci w1 p lo hi c) (hl : w.heap.size ≤ lo) (b : Below w.heap.size w w1) : Cw w0 w1 p c := ⟨lo, hi, h, Nat.le_trans hb.size hl, hb.trans (b.mono hb.size)⟩
theorem Cw.out (h : Cw w0 w p c) {d : Cl} {e : Ending} {lo hi : Nat} (k : CiOut p lo hi d w e w') (hl : w0.heap.size ≤ lo) : e = .returned (.int .i64 0) ∧ Cw w0 w' p d := by
  obtain ⟨_, _, _, _, b⟩ := h
  exact ⟨k.1, lo, hi, k.2.1, hl, b.trans (k.2.2.below hl b.size)⟩
theorem Cw.bel (h : Cw w0 w p c) : Below w0.heap.size w0 w := by obtain ⟨_, _, _, _, b⟩ := h; exact b
theorem Cw.ok (h : Cw w0 w p c) : c.Ok := by obtain ⟨_, _, k, _⟩ := h; exact k.ok
theorem Cw.below (h : Cw w0 w p c) (b : Below w.heap.size w w') : Cw w0 w' p c := by
  obtain ⟨lo, hi, k, h1, h2⟩ := h
  exact ⟨lo, hi, k.below b, h1, h2.trans (b.mono h2.size)⟩
theorem Cw.see (h : Cw w0 w p c) (s e : Nat) (hs : s < c.N) (he : e ≤ 4611686018427387904) :
    Calls Try.prog 11 #[.pointer (some ⟨p, 0, none⟩), .int .i64 (s : Int), .int .u64 (e : Int)] w fun e' w' => e' = .returned (.int .i64 0) ∧ Cw w0 w' p (c.see s e) := by
  obtain ⟨lo, hi, k, h1, h2⟩ := h
  exact (see_at s e k hs he).mono fun _ _ k2 => Cw.out ⟨lo, hi, k, h1, h2⟩ k2 h1
theorem Cw.tick (h : Cw w0 w p c) (hn : c.now < 100000) : Calls Try.prog 10 #[.pointer (some ⟨p, 0, none⟩)] w fun e' w' => e' = .returned (.int .i64 0) ∧ Cw w0 w' p c.tick := by
  obtain ⟨lo, hi, k, h1, h2⟩ := h
  exact (tick_at k hn).mono fun _ _ k2 => Cw.out ⟨lo, hi, k, h1, h2⟩ k2 h1
theorem Cw.mark (h : Cw w0 w p c) (m : Nat) (hm : c.mark = m) : Calls Try.prog 13 #[.pointer (some ⟨p, 0, none⟩)] w fun e w' => e = .returned (.int .u64 (m : Int)) ∧ w = w' := by
  obtain ⟨lo, hi, k, h1, h2⟩ := h
  subst hm
  exact mark_at k
theorem Cw.now (h : Cw w0 w p c) (m : Nat) (hm : c.now = m) : Calls Try.prog 14 #[.pointer (some ⟨p, 0, none⟩)] w fun e w' => e = .returned (.int .u64 (m : Int)) ∧ w = w' := by
  obtain ⟨lo, hi, k, h1, h2⟩ := h
  subst hm
  exact now_at k
theorem Cw.idle (h : Cw w0 w p c) (s : Nat) (b : Bool) (hs : s < c.N) (hb : qt c.now c.idle (c.K s) = b) : Calls Try.prog 16 #[.pointer (some ⟨p, 0, none⟩), .int .i64 (s : Int)] w fun e w' => e = .returned (.bool b) ∧ Cw w0 w' p c := by
  obtain ⟨lo, hi, k, h1, h2⟩ := h
  subst hb
  exact (idle_in s k hs).mono fun _ _ ⟨e, b⟩ => ⟨e, Cw.below ⟨lo, hi, k, h1, h2⟩ b⟩
end
end Go.Proofs.Ytmonjlnmkkdnfaa.W13
