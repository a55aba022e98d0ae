/-
  hist.New.
-/
import Derived.Test.YthggaoobbkflaaaH11Any
import Derived.Laws.MakeOwn
set_option linter.unusedSimpArgs false
set_option linter.unusedVariables false
namespace Go.Proofs.Ythggaoobbkflaaa.H11
open Go.RowKit Go.Lib Go.Proofs.Ythggaoobbkflaaa.Wd Go.Proofs.Ythggaoobbkflaaa.S10

/-- 'make' of m elements, the length spelled as the walk spells it -/
theorem make_n {t e : TypeId} {i : TypeInfo} {z : Value} (ht : Try.prog.underlying t = some (.slice e)) (hi : Try.prog.info? e = some i) (hz : i.zero = some z) (m : Nat) (hm : m ≤ 1000) (hb : i.bytes ≤ 1000) (X : Int) (hX : (m : Int) = X) (W : World) :
    (Instr.makeSlice t (.int .i64 X) (.int .i64 X)).run Try.prog W = .ok (.slice (some ⟨W.heap.size, 0, none⟩) m m) (W.alloc (.cells (madeCells z.cells (m * i.size)) e)) := by
  subst hX
  have few : i.bytes * m ≤ 1000 * 1000 := Nat.mul_le_mul hb hm
  have few2 : (i.bytes : Int) * (m : Int) ≤ 281474976710656 := by
    rw [← Int.natCast_mul]
    omega
  simpa using run_make (P := Try.prog) W t e i z ht hi hz .i64 .i64 m m (by omega) (by omega) few2 (by omega)
theorem cell_of {w : World} {g i : Nat} {cs : Array Value} {t : TypeId} {u : Value} (h : w.heap[g]? = some (.cells cs t (0, 0))) (hu : cs[i]? = some u) : w.cell? ⟨g, i, none⟩ = some u := by simp [World.cell?, h, hu]
theorem sn0 : sn 0 = 0 := rfl
theorem sf0 : sf 0 = false := rfl
/-- n counts of nothing -/
def zrow (n : Nat) : Obj := .cells (madeCells #[.int .u64 0, .bool false] (n * 2)) 37
theorem zrow_ct (w : World) (n i : Nat) (h : i < n) : Ct (w.alloc (zrow n)) w.heap.size (2 * i) 0 := by
  have e0 : (madeCells #[Value.int .u64 0, .bool false] (n * 2))[2 * i]? = some (.int .u64 0) := by
    unfold madeCells
    rw [Array.getElem?_map, Array.getElem?_range, if_pos (by omega)]
    simp
  have e1 : (madeCells #[Value.int .u64 0, .bool false] (n * 2))[2 * i + 1]? = some (.bool false) := by
    unfold madeCells
    rw [Array.getElem?_map, Array.getElem?_range, if_pos (by omega)]
    simp
  have hh := heap_alloc_new w (zrow n)
  exact ⟨cell_of hh e0, cell_of hh e1, frozen_of_row _ _ _ _ _ hh, frozen_of_row _ _ _ _ _ hh⟩
theorem Us.own {w : World} {B n c : Nat} {e : TypeId} {A : Option Addr} {l : List Nat} (h : w.ownsRow B e 1 (.slice A n c) n (l.map fun (x : Nat) => Value.int .u64 (x : Int))) (hl : l.length = n) (hb : ∀ x ∈ l, (x : Int) ≤ 18446744073709551615) :
    Us w A c l ∧ ∀ a, A = some a → B ≤ a.block ∧ a.block < w.heap.size := by
  subst hl
  refine ⟨⟨Rd.own h, hb⟩, fun a ha => ?_⟩
  subst ha
  exact h.lt _ rfl
/-- a new histogram -/
def box (A : Option Addr) (k g n : Nat) : Obj := .cells #[.slice A n k, .slice (some ⟨g, 0, none⟩) n n, .int .u64 0, .bool false, .int .u64 0, .bool false, .int .u64 0, .bool false] 44
theorem box_ct (W : World) (A : Option Addr) (k g n : Nat) : Ct (W.alloc (box A k g n)) W.heap.size 2 0 ∧ Ct (W.alloc (box A k g n)) W.heap.size 4 0 ∧ Ct (W.alloc (box A k g n)) W.heap.size 6 0 := by
  have hh := heap_alloc_new W (box A k g n)
  have f := fun j => frozen_of_row _ _ j _ _ hh
  exact ⟨⟨cell_of hh rfl, cell_of hh rfl, f _, f _⟩, ⟨cell_of hh rfl, cell_of hh rfl, f _, f _⟩, ⟨cell_of hh rfl, cell_of hh rfl, f _, f _⟩⟩
theorem box_hi {W : World} {A : Option Addr} {k g n B : Nat} {bs : List Nat} (hn : bs.length = n) (hr : Right bs) (hz : ∀ i, i < n → Ct W g (2 * i) 0) (hA : Us W A k bs) (ha : ∀ a, A = some a → B ≤ a.block ∧ a.block < W.heap.size ∧ a.block ≠ g)
    (hg1 : B ≤ g) (hg2 : g < W.heap.size) (hB : B ≤ W.heap.size) : Hi (W.alloc (box A k g n)) W.heap.size B (W.heap.size + 1) bs [] := by
  subst hn
  have bb := below_box W (box A k g bs.length)
  obtain ⟨k1, k2, k3⟩ := box_ct W A k g bs.length
  have hh := heap_alloc_new W (box A k g bs.length)
  have hsz : (W.alloc (box A k g bs.length)).heap.size = W.heap.size + 1 := by simp
  refine ⟨g, A, k, ⟨?_, ?_, hA.below bb, fun a h => ⟨by have := (ha a h).2.1; omega, (ha a h).2.2⟩, by omega, by rw [hsz]; omega, hr, fun i hi => (hz i hi).kept (bb.block g hg2), k1, k2, k3⟩, fun x hx => ?_⟩
  · exact cell_of hh rfl
  · exact cell_of hh rfl
  · rw [hsz]
    rcases mem_bl.1 hx with rfl | rfl | ⟨a, h, rfl⟩
    · omega
    · omega
    · have := ha a h; omega
/-- what New tells -/
def NwOut (bs : List Nat) (w : World) (e : Ending) (w' : World) : Prop :=
  ∃ p, e = .returned (.tuple #[.pointer (some ⟨p, 0, none⟩), .int .i64 0]) ∧ Hi w' p w.heap.size w'.heap.size bs [] ∧ Below w.heap.size w w'
theorem NwOut.of {bs : List Nat} {w W : World} {A : Option Addr} {k g n B q : Nat} (hq : W.heap.size = q) (hn : bs.length = n) (hr : Right bs) (hz : ∀ i, i < n → Ct W g (2 * i) 0) (hA : Us W A k bs) (ha : ∀ a, A = some a → B ≤ a.block ∧ a.block < W.heap.size ∧ a.block ≠ g)
    (hg1 : B ≤ g) (hg2 : g < W.heap.size) (hb : Below w.heap.size w W) (hB : w.heap.size ≤ B) :
    NwOut bs w (.returned (.tuple #[.pointer (some ⟨q, 0, none⟩), .int .i64 0])) (W.alloc (box A k g n)) := by
  subst hq
  refine ⟨W.heap.size, rfl, ?_, hb.alloc hb.size _⟩
  rw [World.size_alloc]
  exact box_hi hn hr hz hA (fun a h => ⟨Nat.le_trans hB (ha a h).1, (ha a h).2⟩) (Nat.le_trans hB hg1) hg2 hb.size
set_option maxRecDepth 20000 in
theorem new_wrong (A : Option Addr) (c N : Nat) (bs : List Nat) (w : World) (ha : Us w A c bs) (hN : bs.length = N) (hr : ¬ Right bs) :
    Calls Try.prog 7 #[.slice A N c] w fun e w' => e = .returned (.tuple #[.pointer none, .int .i64 1]) ∧ Below w.heap.size w w' := by
  have hM := may_at A c N bs false w ha hN ⟨fun h => (by cases h), fun h => absurd h hr⟩
  clear hN hr
  go_enter Try.func7, Try.ntmps7
  go_wp2_with fail
  refine hM.mono ?_
  rintro e w1 ⟨rfl, b1⟩
  go_wp2
  go_ret2
  exact ⟨rfl, b1⟩
set_option maxRecDepth 20000 in
set_option maxHeartbeats 2000000 in
theorem new_right (A : Option Addr) (c N : Nat) (bs : List Nat) (w : World) (ha : Us w A c bs) (hN : bs.length = N) (hr : Right bs) :
    Calls Try.prog 7 #[.slice A N c] w (NwOut bs w) := by
  obtain ⟨i0, hi, hz0, hz1, hz2⟩ := info_of ct_info
  have hM := may_at A c N bs true w ha hN ⟨fun h => hr, fun _ => rfl⟩
  have hf : N ≤ 32 := by have := hr.few; omega
  have hmk : ∀ W : World, (Instr.makeSlice 34 (.int .i64 (N : Int)) (.int .i64 (N : Int))).run Try.prog W = .ok (.slice (some ⟨W.heap.size, 0, none⟩) N N) (W.alloc (zrow N)) := fun W => by
    have := make_n (t := 34) (e := 37) Try.underlying34 hi hz0 N (by omega) (by omega) _ rfl W
    rw [hz1] at this
    exact this
  have HN := Lib.hid hN
  have HR := Lib.hid hr
  clear hN hr hz0 hz1 hz2 hi
  go_enter Try.func7, Try.ntmps7
  go_wp2_with fail
  refine hM.mono ?_
  rintro e w1 ⟨rfl, b1⟩
  have ha1 := ha.below b1
  clear hM ha
  have hC := fun W h => cloneu_at A c N bs W h HN.out (by omega)
  have R0 : Us w1.drew A c bs := ⟨Rd.drew ha1.1, ha1.2⟩
  have bz : Below w1.heap.size w1 (w1.alloc (zrow N)).drew := (below_box w1 (zrow N)).drew
  have R1 : Us (w1.alloc (zrow N)).drew A c bs := ha1.below bz
  go_wp2_with fail
  go_region_held3 (fun _ => True) (exact trivial)
    (first
      | (go_at_call 18; (with_reducible refine (hC _ R0).mono ?_); rintro e v1 ⟨A1, k1, rfl, own1, c1⟩)
      | (go_at_call 18; (with_reducible refine (hC _ R1).mono ?_); rintro e v1 ⟨A1, k1, rfl, own1, c1⟩))
  · have b2 : Below w.heap.size w v1 := b1.trans ((Below.refl w1.heap.size w1).drew.trans c1 |>.mono b1.size)
    obtain ⟨u1, u2⟩ := Us.own own1 HN.out ha1.2
    have b3 := below_box v1 (zrow N)
    have hout : NwOut bs w (.returned (.tuple #[.pointer (some ⟨v1.heap.size + 1, 0, none⟩), .int .i64 0])) ((v1.alloc (zrow N)).alloc (box A1 k1 v1.heap.size N)) :=
      NwOut.of (B := w1.heap.size) (by simp) HN.out HR.out (fun i hi => zrow_ct v1 N i hi) (u1.below b3) (fun a h => ⟨(u2 a h).1, by have := (u2 a h).2; simp; omega, by have := (u2 a h).2; omega⟩) c1.size (by simp) (b2.trans (b3.mono b2.size)) b1.size
    unfold box at hout
    clear own1 c1 u1 u2 b2 b3 hC R0 R1 hmk bz HN HR
    go_wp2
    go_ret2
    exact hout
  · have b2 : Below w.heap.size w v1 := b1.trans ((bz.trans (c1.mono bz.size)).mono b1.size)
    obtain ⟨u1, u2⟩ := Us.own own1 HN.out ha1.2
    have hz := fun i hi => (zrow_ct w1 N i hi)
    have hsz : (w1.alloc (zrow N)).drew.heap.size = w1.heap.size + 1 := by simp
    have hl := c1.size
    have hbk := c1.block w1.heap.size (by rw [hsz]; omega)
    rw [hsz] at hl u2
    have hout : NwOut bs w (.returned (.tuple #[.pointer (some ⟨v1.heap.size, 0, none⟩), .int .i64 0])) (v1.alloc (box A1 k1 w1.heap.size N)) :=
      NwOut.of (B := w1.heap.size) rfl HN.out HR.out (fun i hi => (hz i hi).kept hbk) u1 (fun a h => ⟨by have := (u2 a h).1; omega, (u2 a h).2, by have := (u2 a h).1; omega⟩) (Nat.le_refl _) (by omega) b2 b1.size
    unfold box at hout
    clear own1 c1 u1 u2 b2 hC R0 R1 hmk bz HN HR hz hsz hl hbk
    go_wp2
    go_ret2
    exact hout
end Go.Proofs.Ythggaoobbkflaaa.H11
