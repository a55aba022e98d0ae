/-
  A queue of the call's own, in one word.
-/
import Derived.Test.YtephbjomplmkgaaU12Nil
set_option linter.unusedSimpArgs false
set_option linter.unusedVariables false
namespace Go.Proofs.Ytephbjomplmkgaa.U12
open Go.RowKit Go.Lib Go.Maps Go.Proofs.Ytephbjomplmkgaa.Wd

/-- a queue of the call's own -/
def QR (w0 w : World) (q : Nat) (m : List It) : Prop := ∃ o, Qu w q o m ∧ (∀ x ∈ o, w0.heap.size ≤ x) ∧ Below w0.heap.size w0 w
section
variable {w0 w w' : World} {q : Nat} {m m' : List It}
theorem QR.below (h : QR w0 w q m) (hb : Below w.heap.size w w') : QR w0 w' q m := by
  obtain ⟨o, h1, h2, h3⟩ := h
  exact ⟨o, h1.below hb, h2, h3.trans (hb.mono h3.size)⟩
theorem QR.bel (h : QR w0 w q m) : Below w0.heap.size w0 w := by
  obtain ⟨o, h1, h2, h3⟩ := h
  exact h3
theorem QR.qu (h : QR w0 w q m) : ∃ o, Qu w q o m := by
  obtain ⟨o, h1, h2, h3⟩ := h
  exact ⟨o, h1⟩
theorem QR.sorted (h : QR w0 w q m) : m.Pairwise Lt := by obtain ⟨o, h1, h2, h3⟩ := h; exact h1.sorted
theorem QR.nodup (h : QR w0 w q m) : (m.map (·.1)).Nodup := by obtain ⟨o, h1, h2, h3⟩ := h; exact h1.nodup
theorem QR.few (h : QR w0 w q m) : m.length ≤ 1000 := by obtain ⟨o, h1, h2, h3⟩ := h; exact h1.few
theorem QR.num (h : QR w0 w q m) : ∀ x ∈ m, (x.1 : Int) ≤ 18446744073709551615 ∧ (x.2 : Int) ≤ 18446744073709551615 := by obtain ⟨o, h1, h2, h3⟩ := h; exact h1.num
theorem QR.put (h : QR w0 w q m) (x : It) (r : Bool) (hx : (x.1 : Int) ≤ 18446744073709551615 ∧ (x.2 : Int) ≤ 18446744073709551615) (hN : m.length + 1 ≤ 1000) (hr : isin m x.1 = !r) :
    Calls Try.prog 10 #[.pointer (some ⟨q, 0, none⟩), .int .u64 (x.1 : Int), .int .u64 (x.2 : Int)] w fun e w' => e = .returned (.bool r) ∧ QR w0 w' q (putm m x) := by
  obtain ⟨o, h1, h2, h3⟩ := h
  exact (put_at x r h1 hx hN hr).mono fun _ _ ⟨e, o', h4, hF, hS⟩ => ⟨e, o', h4, hS.above h3.size h2, h3.trans (hF.below h3.size h2)⟩
theorem QR.drop (h : QR w0 w q m) (x : Nat) (r : Bool) (hx : (x : Int) ≤ 18446744073709551615) (hr : isin m x = r) :
    Calls Try.prog 12 #[.pointer (some ⟨q, 0, none⟩), .int .u64 (x : Int)] w fun e w' => e = .returned (.bool r) ∧ QR w0 w' q (dropm m x) := by
  obtain ⟨o, h1, h2, h3⟩ := h
  exact (drop_at x r h1 hx hr).mono fun _ _ ⟨e, o', h4, hF, hS⟩ => ⟨e, o', h4, hS.above h3.size h2, h3.trans (hF.below h3.size h2)⟩
theorem QR.first (h : QR w0 w q m) (x : It) (m2 : List It) (hm : m = x :: m2) :
    Calls Try.prog 15 #[.pointer (some ⟨q, 0, none⟩)] w fun e w' => e = .returned (.tuple #[.int .u64 (x.1 : Int), .int .u64 (x.2 : Int), .bool true]) ∧ QR w0 w' q m := by
  have h0 := h
  obtain ⟨o, h1, h2, h3⟩ := h
  subst hm
  exact (first_some x h1).mono fun _ _ ⟨e, hb⟩ => ⟨e, h0.below hb⟩
theorem QR.empty (h : QR w0 w q m) (hm : m = []) :
    Calls Try.prog 15 #[.pointer (some ⟨q, 0, none⟩)] w fun e w' => e = .returned (.tuple #[.int .u64 0, .int .u64 0, .bool false]) ∧ w = w' := by
  obtain ⟨o, h1, h2, h3⟩ := h
  subst hm
  exact first_none h1
theorem QR.len (h : QR w0 w q m) (n : Nat) (hn : m.length = n) :
    Calls Try.prog 16 #[.pointer (some ⟨q, 0, none⟩)] w fun e w' => e = .returned (.int .i64 (n : Int)) ∧ w = w' := by
  obtain ⟨o, h1, h2, h3⟩ := h
  exact qlen_at n h1 hn
theorem QR.new (B : Below w0.heap.size w0 w) : Calls Try.prog 8 #[] w fun e w' => ∃ q, e = .returned (.pointer (some ⟨q, 0, none⟩)) ∧ QR w0 w' q [] :=
  (new_at w).mono fun _ _ ⟨q, o, e, h1, h2, h3⟩ => ⟨q, e, o, h1, fun x hx => Nat.le_trans B.size (h2 x hx), B.trans (h3.mono B.size)⟩
theorem putm_len (m : List It) (x : It) : (putm m x).length ≤ m.length + 1 := by
  rw [(putm_perm m x).length_eq]
  have := List.length_filter_le (fun y : It => decide (y.1 ≠ x.1)) m
  unfold dropm
  simp only [List.length_cons]
  omega
theorem dropm_head {x : It} {m : List It} (h : ((x :: m).map (·.1)).Nodup) : dropm (x :: m) x.1 = m := by
  have hn := List.nodup_cons.1 (show (x.1 :: m.map (·.1)).Nodup from h)
  have := dropm_out (m := m) (id := x.1) fun z hz e => hn.1 (e ▸ List.mem_map_of_mem hz)
  simpa [dropm] using this
end
theorem isin_or (m : List It) (x : Nat) : ∃ r, isin m x = !r := ⟨!isin m x, by simp⟩
/-- the elements that came in, wherever the queue's calls have come to -/
theorem us_at {w : World} {A : Option Addr} {c : Nat} {l : List Nat} (h : Us w A c l) {k : Nat} (hk : k < l.length) : ∃ ad, A = some ad ∧ (∀ W, Below w.heap.size w W → W.cell? (ad.add k) = some (.int .u64 (l[k] : Int))) ∧ (l[k] : Int) ≤ 18446744073709551615 := by
  obtain ⟨ad, h1, h2, h3⟩ := h.get hk
  exact ⟨ad, h1, fun W hb => (hb.cell (World.block_lt_of_cell? _ _ h2)).trans h2, h3⟩
end Go.Proofs.Ytephbjomplmkgaa.U12
