/-
  A yard of the call's own, one line a call; alive.
-/
import Derived.Test.YtfpecjhgadijlaaY14Yard
set_option linter.unusedSimpArgs false
set_option linter.unusedVariables false
namespace Go.Proofs.Ytfpecjhgadijlaa.Y14
open Go.RowKit Go.Lib Go.Maps Go.Proofs.Ytfpecjhgadijlaa.Wd Go.Proofs.Ytfpecjhgadijlaa.U12

/-- a yard of the call's own -/
def YR (w0 w : World) (q M : Nat) (m : List It) : Prop := ∃ o, Yd w q o M m ∧ (∀ x ∈ o, w0.heap.size ≤ x) ∧ Below w0.heap.size w0 w
section
variable {w0 w w' : World} {q M : Nat} {m : List It}
theorem YR.below (h : YR w0 w q M m) (hb : Below w.heap.size w w') : YR w0 w' q M m := by
  obtain ⟨o, h1, h2, h3⟩ := h
  exact ⟨o, h1.below hb, h2, h3.trans (hb.mono h3.size)⟩
theorem YR.bel (h : YR w0 w q M m) : Below w0.heap.size w0 w := by obtain ⟨o, h1, h2, h3⟩ := h; exact h3
theorem YR.sorted (h : YR w0 w q M m) : m.Pairwise Lt := by obtain ⟨o, h1, h2, h3⟩ := h; exact h1.qu.sorted
theorem YR.nodup (h : YR w0 w q M m) : (m.map (·.1)).Nodup := by obtain ⟨o, h1, h2, h3⟩ := h; exact h1.qu.nodup
theorem YR.le (h : YR w0 w q M m) : m.length ≤ M := by obtain ⟨o, h1, h2, h3⟩ := h; exact h1.le
theorem YR.put (h : YR w0 w q M m) (x : It) (hx : (x.1 : Int) ≤ 18446744073709551615 ∧ (x.2 : Int) ≤ 18446744073709551615) (hN : m.length + 1 ≤ 1000) :
    Calls Try.prog 8 #[.pointer (some ⟨q, 0, none⟩), .int .u64 (x.1 : Int), .int .u64 (x.2 : Int)] w fun e w' => e = .returned (.tuple #[.int .u64 (yid m x M : Int), .bool (yis m x M), .int .i64 0]) ∧ YR w0 w' q M (yput m x M) := by
  obtain ⟨o, h1, h2, h3⟩ := h
  exact (yput_at x h1 hx hN).mono fun _ _ ⟨e, o', h4, hF, hS⟩ => ⟨e, o', h4, hS.above h3.size h2, h3.trans (hF.below h3.size h2)⟩
theorem YR.has (h : YR w0 w q M m) (x : Nat) (hx : (x : Int) ≤ 18446744073709551615) (r : Bool) (hr : isin m x = r) :
    Calls Try.prog 11 #[.pointer (some ⟨q, 0, none⟩), .int .u64 (x : Int)] w fun e w' => e = .returned (.bool r) ∧ w = w' := by
  obtain ⟨o, h1, h2, h3⟩ := h
  subst hr
  exact yhas_at x h1 hx
theorem YR.len (h : YR w0 w q M m) (n : Nat) (hn : m.length = n) :
    Calls Try.prog 10 #[.pointer (some ⟨q, 0, none⟩)] w fun e w' => e = .returned (.int .i64 (n : Int)) ∧ w = w' := by
  obtain ⟨o, h1, h2, h3⟩ := h
  exact ylen_at n h1 hn
theorem YR.new (M : Nat) (hM : M ≤ 65536) (B : Below w0.heap.size w0 w) : Calls Try.prog 7 #[.int .i64 (M : Int)] w fun e w' => ∃ q, e = .returned (.tuple #[.pointer (some ⟨q, 0, none⟩), .int .i64 0]) ∧ YR w0 w' q M [] :=
  (ynew_right M w hM).mono fun _ _ ⟨q, o, e, h1, h2, h3⟩ => ⟨q, e, o, h1, fun x hx => Nat.le_trans B.size (h2 x hx), B.trans (h3.mono B.size)⟩
end
set_option maxRecDepth 20000 in
set_option maxHeartbeats 1000000 in
theorem alive_any (w : World) : Calls Try.prog 6 #[] w fun e w' => e = .returned (.bool true) ∧ Below w.heap.size w w' := by
  have hn := YR.new (w0 := w) 1 (by decide) (Below.refl _ w)
  go_enter Try.func6, Try.ntmps6
  go_wp2_with fail
  refine hn.mono ?_
  rintro e w1 ⟨q, rfl, h1⟩
  have hp1 := h1.put (5, 9) ⟨by decide, by decide⟩ (by decide)
  rw [show yid [] (5, 9) 1 = 0 by decide, show yis [] (5, 9) 1 = false by decide, show yput [] (5, 9) 1 = [(5, 9)] by decide] at hp1
  clear hn h1
  go_wp2_with fail
  refine hp1.mono ?_
  rintro e w2 ⟨rfl, h2⟩
  have hp2 := h2.put (6, 8) ⟨by decide, by decide⟩ (by decide)
  rw [show yid [(5, 9)] (6, 8) 1 = 6 by decide, show yis [(5, 9)] (6, 8) 1 = true by decide, show yput [(5, 9)] (6, 8) 1 = [(5, 9)] by decide] at hp2
  clear hp1 h2
  go_wp2_with fail
  refine hp2.mono ?_
  rintro e w3 ⟨rfl, h3⟩
  have hw := ynew_wrong (-1) w3 (.inl (by decide))
  have ha1 := h3.has 5 (by decide) true (by decide)
  have ha2 := h3.has 6 (by decide) false (by decide)
  have hb := Lib.hid h3.bel
  clear hp2 h3
  go_wp2_with fail
  refine hw.mono ?_
  rintro e w4 ⟨rfl, rfl⟩
  go_wp2_with fail
  refine ha1.mono ?_
  rintro e w4 ⟨rfl, rfl⟩
  go_wp2_with fail
  refine ha2.mono ?_
  rintro e w4 ⟨rfl, rfl⟩
  go_wp2
  go_ret
  exact ⟨rfl, hb.out⟩
end Go.Proofs.Ytfpecjhgadijlaa.Y14
