/-
  The document's histogram.
-/
import Derived.Test.YthggaoobbkflaaaH11Join
import Derived.Test.YthggaoobbkflaaaS10Ref
set_option linter.unusedSimpArgs false
set_option linter.unusedVariables false
namespace Go.Proofs.Ythggaoobbkflaaa.H11
open Go.RowKit Go.Lib Go.Proofs.Ythggaoobbkflaaa.Wd Go.Proofs.Ythggaoobbkflaaa.S10

/-- a row of numbers in a block -/
structure Nr (w : World) (g m : Nat) (F : Nat → Nat) : Prop where
  lt : g < w.heap.size
  c : ∀ i, i < m → w.cell? ⟨g, i, none⟩ = some (.int .u64 (F i : Int))
  f : ∀ i, i < m → w.frozen? ⟨g, i, none⟩ = false
theorem Nr.below {w w' : World} {g m : Nat} {F : Nat → Nat} (h : Nr w g m F) (hb : Below w.heap.size w w') : Nr w' g m F :=
  ⟨Nat.lt_of_lt_of_le h.lt hb.size, fun i hi => (hb.cell (p := ⟨g, i, none⟩) h.lt).trans (h.c i hi), fun i hi => (hb.frozen (p := ⟨g, i, none⟩) h.lt).trans (h.f i hi)⟩
theorem Nr.set {w : World} {g m : Nat} {F : Nat → Nat} (h : Nr w g m F) {k : Nat} (hk : k < m) (x : Int) (T : Nat) (hx : x = (T : Int)) : Nr (w.setCell ⟨g, k, none⟩ (.int .u64 x)) g m (upd F k T) := by
  subst hx
  refine ⟨by simpa using h.lt, fun i hi => ?_, fun i hi => by rw [World.frozen?_setCell]; exact h.f i hi⟩
  unfold upd
  by_cases e : i = k
  · subst e
    rw [if_pos rfl]
    exact World.cell?_setCell_same _ _ _ (h.c i hk)
  · rw [if_neg e]
    refine Eq.trans (World.cell?_setCell_other _ _ _ _ ?_) (h.c i hi)
    intro q
    injection q with _ q
    exact e q.symm
theorem Nr.eq {w : World} {g m : Nat} {F G : Nat → Nat} (h : Nr w g m F) (e : ∀ i, F i = G i) : Nr w g m G := by
  have : F = G := funext e
  exact this ▸ h
/-- n zeros -/
def nrow (m : Nat) : Obj := .cells (madeCells #[.int .u64 0] m) 30
theorem nrow_at (w : World) (m : Nat) : Nr (w.alloc (nrow m)) w.heap.size m (fun _ => 0) := by
  have hh := heap_alloc_new w (nrow m)
  refine ⟨by simp, fun i hi => cell_of hh ?_, fun i hi => frozen_of_row _ _ _ _ _ hh⟩
  unfold madeCells
  rw [Array.getElem?_map, Array.getElem?_range, if_pos hi]
  simp [Nat.mod_one]
theorem kk_take (bs l : List Nat) {i : Nat} (h : i < l.length) (j : Nat) : upd (kk bs (l.take i)) (bk bs l[i]) (kk bs (l.take i) (bk bs l[i]) + 1) j = kk bs (l.take (i + 1)) j := by
  rw [List.take_succ_eq_append_getElem h]
  exact upd_put bs (l.take i) l[i] j
/-- what it tells -/
def RhOut (bs l : List Nat) (m : Nat) (w : World) (e : Ending) (w' : World) : Prop :=
  ∃ g, e = .returned (.tuple #[.slice (some ⟨g, 0, none⟩) m m, .int .u64 (sn l.sum), .bool (sf l.sum)]) ∧ w.heap.size ≤ g ∧ Nr w' g m (kk bs l) ∧ Below w.heap.size w w'
set_option maxRecDepth 20000 in
set_option maxHeartbeats 2000000 in
theorem rhist_at (A B : Option Addr) (c d n N m : Nat) (bs l : List Nat) (w : World) (ha : Us w A c bs) (hb : Us w B d l) (hn : bs.length = n) (hN : l.length = N) (hm : n + 1 = m) (hf : n ≤ 60) (hl : N ≤ 200) :
    Calls Try.prog 21 #[.slice A n c, .slice B N d] w (RhOut bs l m w) := by
  obtain ⟨i0, hi, hz0, hz1, hz2⟩ := info_of u64_info
  have hmz : (n : Int) + 1 = (m : Int) := by omega
  have hmk : ∀ W : World, (Instr.makeSlice 22 (.int .i64 ((n : Int) + 1)) (.int .i64 ((n : Int) + 1))).run Try.prog W = .ok (.slice (some ⟨W.heap.size, 0, none⟩) m m) (W.alloc (nrow m)) := fun W => by
    have := make_n (t := 22) (e := 30) Try.underlying22 hi hz0 m (by omega) (by omega) _ hmz.symm W
    rw [hz1, Nat.mul_one] at this
    exact this
  have hB := fun x W h hx => rbucket_at A c n x _ bs W h hn hx rfl
  have hR := fun W h => rsum_at B d N l _ _ W h hN (is_tot l)
  have R0 := nrow_at w m
  have b0 := below_box w (nrow m)
  have HN := Lib.hid hN
  have hbk := fun x => bk_le bs x
  rw [hn] at hbk
  have hkl : ∀ i j, kk bs (l.take i) j ≤ 200 := fun i j => Nat.le_trans (kk_le bs _ _) (by rw [List.length_take]; omega)
  have HKL := Lib.hid hkl
  clear hN hz0 hz1 hz2 hi hmz hn hkl
  go_enter Try.func21, Try.ntmps21
  go_wp2
  clear hmk
  generalize w.alloc (nrow m) = w1 at *
  have hg0 : w.heap.size ≤ w.heap.size := Nat.le_refl _
  generalize hgg : w.heap.size = g at R0 ⊢
  have hg1 : w.heap.size ≤ g := by omega
  clear hgg hg0
  go_loopw [8] (fun v wr => ∃ i : Nat, v = .int .i64 (i : Int) ∧ i ≤ N ∧ Nr wr g m (kk bs (l.take i)) ∧ Below w.heap.size w wr) (fun v _ => N - (intOf v).toNat)
  case atStart => exact ⟨0, rfl, Nat.zero_le _, R0, b0⟩
  case round =>
    clear R0 b0
    obtain ⟨i, rfl, hi, R, b0⟩ := hrel
    by_cases hlt : i < N
    · have hil : i < l.length := by rw [HN.out]; exact hlt
      obtain ⟨ad, rfl, hcell, hx⟩ := (hb.below b0).get hil
      have hq := hB l[i] wr (ha.below b0) hx
      have hkm : bk bs l[i] < m := by have := hbk l[i]; omega
      have E := Lib.hid (kk_take bs l hil)
      generalize bk bs l[i] = k at *
      generalize l[i] = x at *
      have k0 := R.c k hkm
      have f0 := R.f k hkm
      have hs := HKL.out i k
      have R2 := R.set hkm ((kk bs (l.take i) k : Int) + 1) (kk bs (l.take i) k + 1) (by omega)
      have R3 := R2.eq E.out
      have b3 : Below w.heap.size w (wr.setCell ⟨g, k, none⟩ (.int .u64 ((kk bs (l.take i) k : Int) + 1))) := b0.setCell (p := ⟨g, k, none⟩) hg1 _
      generalize kk bs (l.take i) k = z at *
      have hw : IntKind.u64.wrap ((z : Int) + 1) = (z : Int) + 1 := IntWalk.u64_in _ (by omega)
      clear E R R2 hB hR hbk HKL b0
      go_wp2_with fail
      refine hq.mono ?_
      rintro e w2 ⟨rfl, rfl⟩
      clear hq
      go_wp2
      go_roundw
      case rel => exact ⟨i + 1, by go_num, by omega, R3, b3⟩
      case measure => first | go_num | (simp [intOf]; omega)
    · have hiN : i = N := by omega
      subst hiN
      have e : l.take i = l := List.take_of_length_le (by rw [HN.out]; exact Nat.le_refl _)
      rw [e] at R
      have hq := hR wr (hb.below b0)
      clear hR hB HKL hbk e
      go_wp2_with fail
      refine hq.mono ?_
      rintro e w2 ⟨rfl, rfl⟩
      clear hq
      go_wp2
      go_returns
      exact ⟨g, rfl, hg1, R, b0⟩
end Go.Proofs.Ythggaoobbkflaaa.H11
