/-
  TombPlays: the yard, and the document's list beside it.
-/
import Derived.Test.YtfpecjhgadijlaaY14Own
import Derived.Test.YtfpecjhgadijlaaY14Ref
set_option linter.unusedSimpArgs false
set_option linter.unusedVariables false
namespace Go.Proofs.Ytfpecjhgadijlaa.Y14
open Go.RowKit Go.Lib Go.Maps Go.Proofs.Ytfpecjhgadijlaa.Wd Go.Proofs.Ytfpecjhgadijlaa.U12

/-- the yard remembers m, the document's list m2 lies at A -/
structure YP (w0 w : World) (q M : Nat) (m m2 : List It) (A : Option Addr) (c : Nat) : Prop where
  ex : ∃ o, Yd w q o M m ∧ (∀ x ∈ o, w0.heap.size ≤ x) ∧ (∀ a, A = some a → a.block ∉ o ∧ a.block < w.heap.size)
  bel : Below w0.heap.size w0 w
  its : Its w A c m2
section
variable {w0 w w' : World} {q M c n : Nat} {m m2 : List It} {A : Option Addr}
theorem YP.below (h : YP w0 w q M m m2 A c) (hb : Below w.heap.size w w') : YP w0 w' q M m m2 A c := by
  obtain ⟨o, h1, h2, h3⟩ := h.ex
  exact ⟨⟨o, h1.below hb, h2, fun a ha => ⟨(h3 a ha).1, Nat.lt_of_lt_of_le (h3 a ha).2 hb.size⟩⟩, h.bel.trans (hb.mono h.bel.size), h.its.below hb⟩
theorem YP.yr (h : YP w0 w q M m m2 A c) : YR w0 w q M m := by
  obtain ⟨o, h1, h2, h3⟩ := h.ex
  exact ⟨o, h1, h2, h.bel⟩
theorem YP.put (h : YP w0 w q M m m2 A c) (x : It) (hx : (x.1 : Int) ≤ 18446744073709551615 ∧ (x.2 : Int) ≤ 18446744073709551615) (hN : m.length + 1 ≤ 1000) :
    Calls Try.prog 8 #[.pointer (some ⟨q, 0, none⟩), .int .u64 (x.1 : Int), .int .u64 (x.2 : Int)] w fun e w' => e = .returned (.tuple #[.int .u64 (yid m x M : Int), .bool (yis m x M), .int .i64 0]) ∧ YP w0 w' q M (yput m x M) m2 A c := by
  obtain ⟨o, h1, h2, h3⟩ := h.ex
  refine (yput_at x h1 hx hN).mono ?_
  rintro e w' ⟨he, o', h4, F, S⟩
  refine ⟨he, ⟨o', h4, S.above h.bel.size h2, fun a ha => ⟨fun hm => ?_, Nat.lt_of_lt_of_le (h3 a ha).2 F.size⟩⟩, h.bel.trans (F.below h.bel.size h2), ⟨h.its.len, h.its.none_, h.its.cap, h.its.max, fun ad ha i u hu => ?_⟩⟩
  · rcases S _ hm with h5 | h5
    · exact (h3 a ha).1 h5
    · have := (h3 a ha).2
      omega
  · have hc := h.its.at_ ad ha i u hu
    rw [World.cell?_of_block (w := w) (a := ad.add i) (by rw [add_block]; exact F.block _ (h3 ad ha).2 (h3 ad ha).1)]
    exact hc
theorem YP.rput (h : YP w0 w q M m m2 A c) (x : It) (hn : m2.length = n) (hm : n ≤ 900) :
    Calls Try.prog 9 #[.slice A n c, .agg #[.int .u64 (x.1 : Int), .int .u64 (x.2 : Int)], .int .i64 (M : Int)] w fun e w' => ∃ B k d, e = .returned (.tuple #[.slice B k d, .int .u64 (yid m2 x M : Int), .bool (yis m2 x M)]) ∧ (yput m2 x M).length = k ∧ YP w0 w' q M m (yput m2 x M) B d := by
  refine (rput14_at x M h.its hn hm).mono ?_
  rintro e w' ⟨B, k, d, he, hk, hI, hB, hb⟩
  have h' := h.below hb
  obtain ⟨o, h1, h2, h3⟩ := h.ex
  exact ⟨B, k, d, he, hk, ⟨o, h1.below hb, h2, fun a ha => ⟨fun hm => by have := h1.qu.lt _ hm; have := (hB a ha).1; omega, (hB a ha).2⟩⟩, h'.bel, hI⟩
/-- where an id is, as Find tells it in whatever world comes later -/
theorem rfind_fix (x : Nat) (h : Its w A c m) (hnd : (m.map (·.1)).Nodup) (hn : m.length = n) : ∃ z : Int, isin m x = decide (0 ≤ z) ∧ ∀ W, Below w.heap.size w W →
    Calls Try.prog 12 #[.slice A n c, .int .u64 (x : Int)] W fun e w' => e = .returned (.int .i64 z) ∧ w' = W := by
  cases hb : isin m x with
  | true =>
    obtain ⟨y, hy, e⟩ := isin_true.1 hb
    obtain ⟨k, hk, rfl⟩ := List.getElem_of_mem hy
    refine ⟨(k : Int), (decide_eq_true (by omega)).symm, fun W hW => (rfind_at x (h.below hW) hn).mono ?_⟩
    rintro e' w' ⟨rfl, ⟨k2, hk2, rfl, e2⟩ | ⟨hno, rfl⟩⟩
    · have e3 := List.pairwise_iff_getElem.1 hnd
      simp only [List.length_map, List.getElem_map] at e3
      have e4 : k2 = k := by
        rcases Nat.lt_trichotomy k2 k with h1 | h1 | h1
        · exact absurd (e2.trans e.symm) (e3 k2 k hk2 hk h1)
        · exact h1
        · exact absurd (e.trans e2.symm) (e3 k k2 hk hk2 h1)
      subst e4
      exact ⟨rfl, rfl⟩
    · exact absurd e (hno _ (List.getElem_mem hk))
  | false =>
    refine ⟨-1, rfl, fun W hW => (rfind_at x (h.below hW) hn).mono ?_⟩
    rintro e' w' ⟨rfl, ⟨k2, hk2, rfl, e2⟩ | ⟨hno, rfl⟩⟩
    · exact absurd e2 (isin_false.1 hb _ (List.getElem_mem hk2))
    · exact ⟨rfl, rfl⟩
end
end Go.Proofs.Ytfpecjhgadijlaa.Y14
