/-
  May a span be? span.Check.
-/
import Derived.Test.YtpjldoahinocjaaP06Place
set_option linter.unusedSimpArgs false
set_option linter.unusedVariables false
namespace Go.Proofs.Ytpjldoahinocjaa.P06
open Go.Shelf Go.RowKit Go.Lib Go.Sort Go.Proofs.Ytpjldoahinocjaa.Wd Go.Proofs.Ytpjldoahinocjaa.V04

/-- one attribute may be where it stands -/
def okAt (l : List At) (i : Nat) (h : i < l.length) : Prop := T03.key (T03.ls l[i].key) = true ∧ right l[i].K l[i].N l[i].S = true ∧ ¬ plc l l[i].key < (i : Int)
/-- attributes that may be -/
def Amb (l : List At) : Prop := l.length ≤ 16 ∧ ∀ i (h : i < l.length), okAt l i h

/-- what is answered of attributes -/
def AtOut (w : World) (l : List At) (e : Ending) (w' : World) : Prop := ∃ b : Bool, e = .returned (.bool b) ∧ (b = true ↔ Amb l) ∧ Below w.heap.size w w'
theorem AtOut.of {w : World} {l : List At} {e : Ending} {w' : World} (b : Bool) (h1 : e = .returned (.bool b)) (h2 : b = true ↔ Amb l) (h3 : Below w.heap.size w w') : AtOut w l e w' := ⟨b, h1, h2, h3⟩
set_option maxRecDepth 20000 in
set_option maxHeartbeats 4000000 in
theorem attrs_any (A : Option Addr) (c n : Nat) (l : List At) (w : World) (h : Hd 0 w A c l) (hn : l.length = n) (hm : n ≤ 40) :
    Calls Try.prog 24 #[.slice A n c] w (AtOut w l) := by
  have HN := Lib.hid hn
  by_cases h16 : (16 : Int) < (n : Int)
  · go_enter Try.func24, Try.ntmps24
    go_wp2
    go_ret
    exact AtOut.of false rfl (by unfold Amb; simp; omega) (Below.refl _ _)
  clear hn
  go_enter Try.func24, Try.ntmps24
  go_wp2
  go_loopw [10] (fun v wr => ∃ k : Nat, v = .int .i64 k ∧ k ≤ n ∧ Below w.heap.size w wr ∧ Hid (∀ i (hi : i < l.length), i < k → okAt l i hi)) (fun v _ => n - (intOf v).toNat)
  case atStart => exact ⟨0, rfl, Nat.zero_le _, Below.refl _ _, fun i hi h => absurd h (by omega)⟩
  case round =>
    obtain ⟨k, rfl, hk, hb, HI⟩ := hrel
    by_cases hlt : k < n
    · have hltz : (k : Int) < (n : Int) := by omega
      have hkl : k < l.length := by rw [un HN]; exact hlt
      have hH := h.below hb
      obtain ⟨g1, rfl, _, hg1, F⟩ := hH.get hkl
      have f0 := F.c0
      have f1 := F.c1
      have f2 := F.c2
      have f3 := F.c3
      have HO : Hid (okAt l k hkl ↔ (T03.key (T03.ls l[k].key) = true ∧ right l[k].K l[k].N l[k].S = true ∧ ¬ plc l l[k].key < (k : Int))) := Iff.rfl
      have hcp := fun W (hb2 : Below wr.heap.size wr W) => place_any (some ⟨g1, 0, none⟩) c n l l[k].key W (hH.below hb2) (un HN) hm
      generalize plc l l[k].key = pk at *
      clear F
      generalize l[k] = x at *
      obtain ⟨b1, e1⟩ : ∃ b, T03.key (T03.ls x.key) = b := ⟨_, rfl⟩
      obtain ⟨b2, e2⟩ : ∃ b, right x.K x.N x.S = b := ⟨_, rfl⟩
      have hc1 := fun W => T03.key_at x.key b1 W e1
      have hc2 := fun W => right_any x.K x.N x.S b2 W e2
      have x0 : Bk (wr.alloc (abox 53 x)) wr.heap.size 53 #[.string x.key, .int .i64 x.K, .int .i64 x.N, .string x.S] := Bk.new wr _ _
      have bx := below_box wr (abox 53 x) (Nat.le_refl _)
      have HE1 := Lib.hid e1
      have HE2 := Lib.hid e2
      clear e1 e2
      cases b1 with
      | false =>
        go_wp2_with fail
        refine (hc1 _).mono ?_
        rintro e w2 ⟨rfl, hb2⟩
        go_wp2
        go_ret
        refine AtOut.of false rfl ?_ (hb.trans ((bx.trans (hb2.mono bx.size)).mono hb.size))
        simp only [Bool.false_eq_true, false_iff]
        intro hA
        have := (un HO).1 (hA.2 k hkl)
        rw [un HE1] at this
        exact absurd this.1 (by simp)
      | true =>
        go_wp2_with fail
        refine (hc1 _).mono ?_
        rintro e w2 ⟨rfl, hb2⟩
        have x2 := x0.below hb2
        have y1 : w2.cell? ⟨wr.heap.size, 1, none⟩ = some (.int .i64 x.K) := x2.cell 1
        have y2 : w2.cell? ⟨wr.heap.size, 2, none⟩ = some (.int .i64 x.N) := x2.cell 2
        have y3 : w2.cell? ⟨wr.heap.size, 3, none⟩ = some (.string x.S) := x2.cell 3
        have bx2 := bx.trans (hb2.mono bx.size)
        cases b2 with
        | false =>
          go_wp2_with fail
          refine (hc2 _).mono ?_
          rintro e w3 ⟨rfl, rfl⟩
          go_wp2
          go_ret
          refine AtOut.of false rfl ?_ (hb.trans ((bx2.alloc bx2.size _).mono hb.size))
          simp only [Bool.false_eq_true, false_iff]
          intro hA
          have := (un HO).1 (hA.2 k hkl)
          rw [un HE2] at this
          exact absurd this.2.1 (by simp)
        | true =>
          go_wp2_with fail
          refine (hc2 _).mono ?_
          rintro e w3 ⟨rfl, rfl⟩
          have bx3 := bx2.alloc bx2.size (box 41 x.K x.N x.S)
          have y0 : (w2.alloc (box 41 x.K x.N x.S)).cell? ⟨wr.heap.size, 0, none⟩ = some (.string x.key) := (x2.below (below_box _ _ (Nat.le_refl _))).cell 0
          generalize w2.alloc (box 41 x.K x.N x.S) = W3 at *
          go_wp2_with fail
          refine (hcp _ bx3).mono ?_
          rintro e w4 ⟨rfl, hb4⟩
          have b4 := hb.trans ((bx3.trans (hb4.mono bx3.size)).mono hb.size)
          by_cases hp : pk < (k : Int)
          · go_wp2
            go_ret
            refine AtOut.of false rfl ?_ (b4)
            simp only [Bool.false_eq_true, false_iff]
            intro hA
            have := ((un HO).1 (hA.2 k hkl)).2.2
            omega
          · go_wp2
            go_roundw
            case rel =>
              refine ⟨k + 1, by go_num, by omega, b4, fun i hi hik => ?_⟩
              by_cases e : i = k
              · subst e; exact (un HO).2 ⟨un HE1, un HE2, hp⟩
              · exact un HI i hi (by omega)
            case measure => simp [intOf]; omega
    · have hltz : ¬ ((k : Int) < (n : Int)) := by omega
      go_wp2
      go_ret
      refine AtOut.of true rfl ?_ hb
      simp only [true_iff]
      exact ⟨by have := un HN; omega, fun i hi => un HI i hi (by have := un HN; omega)⟩

/-- a name may be -/
def nmb (s : ByteArray) : Bool := decide (s.size ≠ 0 ∧ s.size ≤ 4096)
end Go.Proofs.Ytpjldoahinocjaa.P06
