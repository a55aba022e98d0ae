/-
  HeapPlays: the queue, the document's list and the act that is being looked at.
-/
import Derived.Test.YtephbjomplmkgaaU12Qr
import Derived.Test.YtephbjomplmkgaaU12RefPut
import Derived.Test.YtephbjomplmkgaaU12Open
set_option linter.unusedSimpArgs false
set_option linter.unusedVariables false
namespace Go.Proofs.Ytephbjomplmkgaa.U12
open Go.RowKit Go.Lib Go.Maps Go.Proofs.Ytephbjomplmkgaa.Wd

/-- the queue has m, the document's list m2 lies at A -/
structure PQ (w0 w : World) (q : Nat) (m m2 : List It) (A : Option Addr) (c : Nat) : Prop where
  ex : ∃ o, Qu w q o m ∧ (∀ x ∈ o, w0.heap.size ≤ x) ∧ (∀ a, A = some a → a.block ∉ o ∧ a.block < w.heap.size)
  bel : Below w0.heap.size w0 w
  its : Its w A c m2
/-- and an act lies at b -/
structure PA (w0 w : World) (q : Nat) (m m2 : List It) (A : Option Addr) (c b : Nat) (y : Ac) : Prop where
  ex : ∃ o, Qu w q o m ∧ (∀ x ∈ o, w0.heap.size ≤ x) ∧ (∀ a, A = some a → a.block ∉ o ∧ a.block < w.heap.size) ∧ b ∉ o
  bel : Below w0.heap.size w0 w
  its : Its w A c m2
  k0 : w.cell? ⟨b, 0, none⟩ = some (.int .i64 y.K)
  k1 : w.cell? ⟨b, 1, none⟩ = some (.int .u64 (y.I : Int))
  k2 : w.cell? ⟨b, 2, none⟩ = some (.int .u64 (y.T : Int))
section
variable {w0 w w' : World} {q c b : Nat} {m m2 : List It} {A : Option Addr} {y : Ac}
theorem PA.pq (h : PA w0 w q m m2 A c b y) : PQ w0 w q m m2 A c := by
  obtain ⟨o, h1, h2, h3, h4⟩ := h.ex
  exact ⟨⟨o, h1, h2, h3⟩, h.bel, h.its⟩
def abx (y : Ac) : Obj := .cells #[.int .i64 y.K, .int .u64 (y.I : Int), .int .u64 (y.T : Int)] 29
theorem PQ.act (h : PQ w0 w q m m2 A c) (y : Ac) : PA w0 (w.alloc (abx y)) q m m2 A c w.heap.size y := by
  obtain ⟨o, h1, h2, h3⟩ := h.ex
  have hb : Below w.heap.size w (w.alloc (abx y)) := (Below.refl _ _).alloc (Nat.le_refl _) _
  refine ⟨⟨o, h1.below hb, h2, fun a ha => ⟨(h3 a ha).1, Nat.lt_of_lt_of_le (h3 a ha).2 hb.size⟩, fun hm => by have := h1.lt _ hm; omega⟩, h.bel.trans (hb.mono h.bel.size), h.its.below hb, ?_, ?_, ?_⟩
  · unfold abx; go_cell
  · unfold abx; go_cell
  · unfold abx; go_cell
theorem PA.below (h : PA w0 w q m m2 A c b y) (hb : Below w.heap.size w w') : PA w0 w' q m m2 A c b y := by
  obtain ⟨o, h1, h2, h3, h4⟩ := h.ex
  have hlt := World.block_lt_of_cell? _ _ h.k0
  exact ⟨⟨o, h1.below hb, h2, fun a ha => ⟨(h3 a ha).1, Nat.lt_of_lt_of_le (h3 a ha).2 hb.size⟩, h4⟩, h.bel.trans (hb.mono h.bel.size), h.its.below hb, (hb.cell (p := ⟨b, 0, none⟩) hlt).trans h.k0, (hb.cell (p := ⟨b, 1, none⟩) hlt).trans h.k1, (hb.cell (p := ⟨b, 2, none⟩) hlt).trans h.k2⟩
theorem PA.qr (h : PA w0 w q m m2 A c b y) : QR w0 w q m := by
  obtain ⟨o, h1, h2, h3, h4⟩ := h.ex
  exact ⟨o, h1, h2, h.bel⟩
/-- behind a call that changes the queue -/
theorem PA.turn {o : List Nat} {m' : List It} (h : PA w0 w q m m2 A c b y) (h1 : Qu w q o m) (h2 : ∀ x ∈ o, w0.heap.size ≤ x) (h3 : ∀ a, A = some a → a.block ∉ o ∧ a.block < w.heap.size) (h4 : b ∉ o) {o' : List Nat} (k : Qu w' q o' m') (F : Fr o w w') (S : Wd.Sub w o' o) : PA w0 w' q m' m2 A c b y := by
  have hlt : b < w.heap.size := World.block_lt_of_cell? _ _ h.k0
  have kb := F.block b hlt h4
  have hin : ∀ x, x < w.heap.size → x ∉ o → x ∉ o' := fun x hx hn hm => by
    rcases S x hm with h5 | h5
    · exact hn h5
    · omega
  refine ⟨⟨o', k, S.above h.bel.size h2, fun a ha => ⟨hin _ (h3 a ha).2 (h3 a ha).1, Nat.lt_of_lt_of_le (h3 a ha).2 F.size⟩, hin b hlt h4⟩, h.bel.trans (F.below h.bel.size h2), ⟨h.its.len, h.its.none_, h.its.cap, h.its.max, fun ad ha i u hu => ?_⟩,
    (World.cell?_of_block (a := ⟨b, 0, none⟩) kb).trans h.k0, (World.cell?_of_block (a := ⟨b, 1, none⟩) kb).trans h.k1, (World.cell?_of_block (a := ⟨b, 2, none⟩) kb).trans h.k2⟩
  have hc := h.its.at_ ad ha i u hu
  rw [World.cell?_of_block (w := w) (a := ad.add i) (by rw [add_block]; exact F.block _ (h3 ad ha).2 (h3 ad ha).1)]
  exact hc
theorem PA.put (h : PA w0 w q m m2 A c b y) (x : It) (r : Bool) (hx : (x.1 : Int) ≤ 18446744073709551615 ∧ (x.2 : Int) ≤ 18446744073709551615) (hN : m.length + 1 ≤ 1000) (hr : isin m x.1 = !r) :
    Calls Try.prog 10 #[.pointer (some ⟨q, 0, none⟩), .int .u64 (x.1 : Int), .int .u64 (x.2 : Int)] w fun e w' => e = .returned (.bool r) ∧ PA w0 w' q (putm m x) m2 A c b y := by
  obtain ⟨o, h1, h2, h3, h4⟩ := h.ex
  exact (put_at x r h1 hx hN hr).mono fun _ _ ⟨e, o', k, F, S⟩ => ⟨e, h.turn h1 h2 h3 h4 k F S⟩
theorem PA.drop (h : PA w0 w q m m2 A c b y) (x : Nat) (r : Bool) (hx : (x : Int) ≤ 18446744073709551615) (hr : isin m x = r) :
    Calls Try.prog 12 #[.pointer (some ⟨q, 0, none⟩), .int .u64 (x : Int)] w fun e w' => e = .returned (.bool r) ∧ PA w0 w' q (dropm m x) m2 A c b y := by
  obtain ⟨o, h1, h2, h3, h4⟩ := h.ex
  exact (drop_at x r h1 hx hr).mono fun _ _ ⟨e, o', k, F, S⟩ => ⟨e, h.turn h1 h2 h3 h4 k F S⟩
theorem PA.first (h : PA w0 w q m m2 A c b y) (x : It) (m3 : List It) (hm : m = x :: m3) :
    Calls Try.prog 15 #[.pointer (some ⟨q, 0, none⟩)] w fun e w' => e = .returned (.tuple #[.int .u64 (x.1 : Int), .int .u64 (x.2 : Int), .bool true]) ∧ PA w0 w' q m m2 A c b y := by
  obtain ⟨o, h1, h2, h3, h4⟩ := h.ex
  subst hm
  exact (first_some x h1).mono fun _ _ ⟨e, hb⟩ => ⟨e, h.below hb⟩
/-- another list -/
theorem PA.list {m3 : List It} {B : Option Addr} {d : Nat} (h : PA w0 w q m m2 A c b y) (hi : Its w' B d m3) (hB : ∀ a, B = some a → w.heap.size ≤ a.block ∧ a.block < w'.heap.size) (hb : Below w.heap.size w w') : PA w0 w' q m m3 B d b y := by
  have h' := h.below hb
  obtain ⟨o, h1, h2, h3, h4⟩ := h.ex
  exact ⟨⟨o, h1.below hb, h2, fun a ha => ⟨fun hm => by have := h1.lt _ hm; have := (hB a ha).1; omega, (hB a ha).2⟩, h4⟩, h'.bel, hi, h'.k0, h'.k1, h'.k2⟩
theorem PA.rput (h : PA w0 w q m m2 A c b y) (x : It) (n : Nat) (hn : m2.length = n) (hm : n ≤ 900) :
    Calls Try.prog 11 #[.slice A n c, .agg #[.int .u64 (x.1 : Int), .int .u64 (x.2 : Int)]] w fun e w' => ∃ B n2 d, e = .returned (.slice B n2 d) ∧ (putm m2 x).length = n2 ∧ PA w0 w' q m (putm m2 x) B d b y :=
  (rput_at x h.its hn hm).mono fun _ _ ⟨B, n2, d, e, hl, hi, hB, hb⟩ => ⟨B, n2, d, e, hl, h.list hi hB hb⟩
theorem PA.rdrop (h : PA w0 w q m m2 A c b y) (x : Nat) (n : Nat) (hn : m2.length = n) (hm : n ≤ 900) :
    Calls Try.prog 13 #[.slice A n c, .int .u64 (x : Int)] w fun e w' => ∃ B n2 d, e = .returned (.slice B n2 d) ∧ (dropm m2 x).length = n2 ∧ PA w0 w' q m (dropm m2 x) B d b y :=
  (rdrop_at x h.its hn (by omega)).mono fun _ _ ⟨B, n2, d, e, hl, hi, hB, hb⟩ => ⟨B, n2, d, e, hl, h.list hi hB hb⟩
/-- 'm = m[1:]' -/
theorem PA.tail {x : It} {m3 : List It} (h : PA w0 w q m (x :: m3) A c b y) : PA w0 w q m m3 (cut2 A c 1) (c - 1) b y := by
  obtain ⟨o, h1, h2, h3, h4⟩ := h.ex
  refine ⟨⟨o, h1, h2, fun a ha => ?_, h4⟩, h.bel, ?_, h.k0, h.k1, h.k2⟩
  · unfold cut2 at ha
    split at ha
    · exact h3 a ha
    · cases hA : A with
      | none => rw [hA] at ha; cases ha
      | some a0 =>
        rw [hA] at ha
        simp only [Option.map_some, Option.some.injEq] at ha
        subst ha
        rw [add_block]
        exact h3 a0 hA
  · exact h.its.drop 1 (by simp)
theorem PA.until (h : PA w0 w q m m2 A c b y) (t n : Nat) (ids : List Nat) (ht : (t : Int) ≤ 18446744073709551615) (hi : (due m t).map (·.1) = ids) (hn : ids.length = n) :
    Calls Try.prog 14 #[.pointer (some ⟨q, 0, none⟩), .int .u64 (t : Int)] w fun e w' => ∃ U d, e = .returned (.slice U n d) ∧ Us w' U d ids ∧ PA w0 w' q m m2 A c b y := by
  obtain ⟨o, h1, h2, h3, h4⟩ := h.ex
  subst hi
  refine (qunt_at t n h1 ht hn).mono ?_
  rintro e w' ⟨U, d, rfl, hu, hb⟩
  exact ⟨U, d, by rw [hn], hu, h.below hb⟩
end
end Go.Proofs.Ytephbjomplmkgaa.U12
