/-
  The document's Check.
-/
import Derived.Test.YtdmibolbpgondaaGreatKP06Place
import Derived.Test.YtdmibolbpgondaaGreatKP06Of
import Derived.Deep.QuietTactic
import Derived.BigQuiet
set_option linter.unusedSimpArgs false
set_option linter.unusedVariables false
namespace Go.Proofs.YtdmibolbpgondaaGreat.P06
open Go.Shelf Go.RowKit Go.Lib Go.Sort Go.Proofs.YtdmibolbpgondaaGreat.Wd Go.Proofs.YtdmibolbpgondaaGreat.V04

/-- it stands behind one of its key -/
theorem plc_lt {l : List At} {i : Nat} (hi : i < l.length) : plc l l[i].key < (i : Int) ↔ ∃ j, ∃ hj : j < i, hasK l[i].key (l[j]'(by omega)) = true := by
  have hself : hasK l[i].key l[i] = true := by simp [hasK]
  constructor
  · intro h
    by_cases hex : ∃ j, ∃ hj : j < i, hasK l[i].key (l[j]'(by omega)) = true
    · exact hex
    · exfalso
      have := plc_hit hi hself (fun j hj => by
        cases hq : hasK l[i].key (l[j]'(by omega)) with
        | false => rfl
        | true => exact absurd ⟨j, hj, hq⟩ hex)
      omega
  · rintro ⟨j, hj, hq⟩
    unfold plc
    cases hf : l.findIdx? (hasK l[i].key) with
    | none =>
      rw [List.findIdx?_eq_none_iff] at hf
      have := hf _ (List.getElem_mem (show j < l.length by omega))
      rw [hq] at this
      cases this
    | some q =>
      rw [List.findIdx?_eq_some_iff_getElem] at hf
      obtain ⟨h1, h2, h3⟩ := hf
      show (q : Int) < (i : Int)
      rcases Nat.lt_or_ge j q with h | h
      · exact absurd hq (h3 j h)
      · omega
theorem okAt_iff {l : List At} {i : Nat} (hi : i < l.length) : okAt l i hi ↔ (T03.key (T03.ls l[i].key) = true ∧ right l[i].K l[i].N l[i].S = true ∧ ∀ j (hj : j < i), hasK l[i].key (l[j]'(by omega)) = false) := by
  unfold okAt
  rw [plc_lt hi]
  refine and_congr_right fun _ => and_congr_right fun _ => ?_
  constructor
  · intro h j hj
    cases hq : hasK l[i].key (l[j]'(by omega)) with
    | false => rfl
    | true => exact absurd ⟨j, hj, hq⟩ h
  · rintro h ⟨j, hj, hq⟩
    rw [h j hj] at hq
    cases hq

/-- what the document's Check answers of attributes -/
def RcOut (w : World) (l : List At) (e : Ending) (w' : World) : Prop := ∃ b : Bool, e = .returned (.int .i64 (if b = false then 55 else 0)) ∧ (b = true ↔ Amb l) ∧ Below w.heap.size w w'
theorem RcOut.no {w : World} {l : List At} {e : Ending} {w' : World} (h1 : e = .returned (.int .i64 55)) (h2 : ¬ Amb l) (h3 : Below w.heap.size w w') : RcOut w l e w' := ⟨false, h1, by simp [h2], h3⟩
theorem RcOut.yes {w : World} {l : List At} {e : Ending} {w' : World} (h1 : e = .returned (.int .i64 0)) (h2 : Amb l) (h3 : Below w.heap.size w w') : RcOut w l e w' := ⟨true, h1, by simp [h2], h3⟩

/-- the box, and what is below -/
def ChR (w : World) (s : Sp) (v : Value) (wr : World) : Prop := Bk wr w.heap.size 34 (spc s v) ∧ Below w.heap.size w wr
theorem ChR.below {w : World} {s : Sp} {v : Value} {wr w2 : World} (h : ChR w s v wr) (hb : Below wr.heap.size wr w2) : ChR w s v w2 := ⟨h.1.below hb, h.2.trans (hb.mono h.2.size)⟩

set_option maxRecDepth 20000 in
set_option maxHeartbeats 8000000 in
theorem refcheck_any (s : Sp) (A : Option Addr) (c n : Nat) (l : List At) (w : World) (h : Ats w A c l) (hn : l.length = n) (hm : n ≤ 40) (hz : ∀ x ∈ l, x.key.size ≤ 300) (b : Bool) (hb : b = true ↔ Amb l) :
    Calls Tryz.prog 12 #[spv s (.slice A n c)] w fun e w' => e = .returned (.int .i64 (chk s b)) ∧ Below w.heap.size w w' := by
  have b0 : Below w.heap.size w (w.alloc (.cells (spc s (.slice A n c)) 34)) := by go_grown
  have hst : ChR w s (.slice A n c) (w.alloc (.cells (spc s (.slice A n c)) 34)) := ⟨Bk.new w _ _, b0⟩
  have HN := Lib.hid hn
  have HB := Lib.hid hb
  have HZ := Lib.hid hz
  obtain ⟨r, hr⟩ : ∃ r, chk s b = r := ⟨_, rfl⟩
  rw [hr]
  unfold chk nmb at hr
  clear hn hb hz
  by_cases g1 : s.T = 0
  · have k1 : (s.T == 0) = true := by simp [g1]
    rw [if_pos (.inl g1)] at hr
    subst hr
    clear g1
    go_enter Tryz.func12, Tryz.ntmps12
    go_wp2
    go_ret
    exact ⟨rfl, b0⟩
  have k1 : (s.T == 0) = false := beq_false_of_ne g1
  by_cases g2 : s.I = 0
  · have k2 : (s.I == 0) = true := by simp [g2]
    rw [if_pos (.inr g2)] at hr
    subst hr
    clear g1 g2
    go_enter Tryz.func12, Tryz.ntmps12
    go_wp2
    go_ret
    exact ⟨rfl, b0⟩
  have k2 : (s.I == 0) = false := beq_false_of_ne g2
  rw [if_neg (fun h => h.elim g1 g2)] at hr
  clear g1 g2
  by_cases g3 : s.t1 < s.t0
  · rw [if_pos (.inl g3)] at hr
    subst hr
    skip
    go_enter Tryz.func12, Tryz.ntmps12
    go_wp2
    go_ret
    exact ⟨rfl, b0⟩
  by_cases g4 : 4611686018427387904 < s.t1
  · rw [if_pos (.inr g4)] at hr
    subst hr
    skip
    go_enter Tryz.func12, Tryz.ntmps12
    go_wp2
    go_ret
    exact ⟨rfl, b0⟩
  rw [if_neg (fun h => h.elim g3 g4)] at hr
  by_cases g5 : s.kd < 0
  · rw [if_pos (.inl g5)] at hr
    subst hr
    skip
    go_enter Tryz.func12, Tryz.ntmps12
    go_wp2
    go_ret
    exact ⟨rfl, b0⟩
  by_cases g6 : 4 < s.kd
  · rw [if_pos (.inr g6)] at hr
    subst hr
    skip
    go_enter Tryz.func12, Tryz.ntmps12
    go_wp2
    go_ret
    exact ⟨rfl, b0⟩
  rw [if_neg (fun h => h.elim g5 g6)] at hr
  by_cases g7 : s.st < 0
  · rw [if_pos (.inl g7)] at hr
    subst hr
    skip
    go_enter Tryz.func12, Tryz.ntmps12
    go_wp2
    go_ret
    exact ⟨rfl, b0⟩
  by_cases g8 : 2 < s.st
  · rw [if_pos (.inr g8)] at hr
    subst hr
    skip
    go_enter Tryz.func12, Tryz.ntmps12
    go_wp2
    go_ret
    exact ⟨rfl, b0⟩
  rw [if_neg (fun h => h.elim g7 g8)] at hr
  by_cases g9 : (decide (s.sv.size ≠ 0 ∧ s.sv.size ≤ 4096) = false ∨ decide (s.nm.size ≠ 0 ∧ s.nm.size ≤ 4096) = false)
  · rw [if_pos g9] at hr
    subst hr
    simp only [decide_eq_false_iff_not] at g9
    by_cases n1 : s.sv.size = 0
    · have j1 : ((s.sv.size : Int) == 0) = true := by simp [n1]
      clear n1 g9
      go_enter Tryz.func12, Tryz.ntmps12
      go_wp2
      go_ret
      exact ⟨rfl, b0⟩
    have j1 : ((s.sv.size : Int) == 0) = false := beq_false_of_ne (by omega)
    by_cases n2 : s.nm.size = 0
    · have j2 : ((s.nm.size : Int) == 0) = true := by simp [n2]
      clear n1 n2 g9
      go_enter Tryz.func12, Tryz.ntmps12
      go_wp2
      go_ret
      exact ⟨rfl, b0⟩
    have j2 : ((s.nm.size : Int) == 0) = false := beq_false_of_ne (by omega)
    by_cases n3 : (4096 : Int) < (s.sv.size : Int)
    · clear n1 n2 g9
      go_enter Tryz.func12, Tryz.ntmps12
      go_wp2
      go_ret
      exact ⟨rfl, b0⟩
    have n4 : (4096 : Int) < (s.nm.size : Int) := by omega
    clear n1 n2 g9
    go_enter Tryz.func12, Tryz.ntmps12
    go_wp2
    go_ret
    exact ⟨rfl, b0⟩
  rw [if_neg g9] at hr
  simp only [decide_eq_false_iff_not, not_or, Decidable.not_not] at g9
  obtain ⟨⟨g9, g10⟩, g11, g12⟩ := g9
  have j1 : ¬ ((4096 : Int) < (s.sv.size : Int)) := by omega
  have j2 : ¬ ((4096 : Int) < (s.nm.size : Int)) := by omega
  have j3 : ((s.sv.size : Int) == 0) = false := beq_false_of_ne (by omega)
  have j4 : ((s.nm.size : Int) == 0) = false := beq_false_of_ne (by omega)
  have H55 : Hid (¬ Amb l → r = 55) := fun hA => by
    have : b = false := by
      cases b with
      | false => rfl
      | true => exact absurd ((un HB).1 rfl) hA
    rw [← hr, if_pos this]
  have H0 : Hid (Amb l → r = 0) := fun hA => by
    rw [← hr, if_neg (by rw [(un HB).2 hA]; simp)]
  clear hr g10 g12
  by_cases h16 : (16 : Int) < (n : Int)
  · have e1 := un H55 (fun hA => by have := hA.1; have := un HN; omega)
    subst e1
    go_enter Tryz.func12, Tryz.ntmps12
    go_wp2
    go_ret
    exact ⟨rfl, b0⟩
  go_enter Tryz.func12, Tryz.ntmps12
  go_wp2
  clear k1 k2 g3 g4 g5 g6 g7 g8 g9 g11 j1 j2 j3 j4 b0
  go_loopw [3] (fun v wr => ∃ k : Nat, v = .int .i64 k ∧ k ≤ n ∧ ChR w s (.slice A n c) wr ∧ Hid (∀ i (hi : i < l.length), i < k → okAt l i hi)) (fun v _ => n - (intOf v).toNat)
  case atStart => exact ⟨0, rfl, Nat.zero_le _, hst, fun i hi h => absurd h (by omega)⟩
  case round =>
    clear hst
    obtain ⟨k, rfl, hk, R, HI⟩ := hrel
    have c9 : wr.cell? ⟨w.heap.size, 9, none⟩ = some (.slice A n c) := R.1.cell 9
    by_cases hlt : k < n
    · have hltz : (k : Int) < (n : Int) := by omega
      have hkl : k < l.length := by rw [un HN]; exact hlt
      obtain ⟨ad, p, rfl, hp, F⟩ := h.get hkl
      have pl := World.block_lt_of_cell? _ _ F.c0
      have f0 := (R.2.cell (p := p) pl).trans F.c0
      have f1 := (R.2.cell (p := ⟨p.block, p.off + 1, none⟩) pl).trans F.c1
      have f2 : wr.cell? ⟨p.block, p.off + 1 + 1, none⟩ = some (.int .i64 l[k].N) := (R.2.cell (p := ⟨p.block, p.off + 2, none⟩) pl).trans F.c2
      have f3 : wr.cell? ⟨p.block, p.off + 1 + 2, none⟩ = some (.string l[k].S) := (R.2.cell (p := ⟨p.block, p.off + 3, none⟩) pl).trans F.c3
      have F0 := Lib.hid F.c0
      have HO := Lib.hid (okAt_iff hkl)
      have hzk : l[k].key.size ≤ 65536 := by have := un HZ _ (List.getElem_mem hkl); omega
      clear F
      obtain ⟨x, hx⟩ : ∃ x, l[k] = x := ⟨_, rfl⟩
      have HX := Lib.hid hx
      rw [hx] at f0 f1 f2 f3 hzk
      clear hx
      obtain ⟨b1, e1⟩ : ∃ b, T03.key (T03.ls x.key) = b := ⟨_, rfl⟩
      obtain ⟨b2, e2⟩ : ∃ b, right x.K x.N x.S = b := ⟨_, rfl⟩
      have hc1 := fun W => T03.refkey_at x.key b1 W hzk e1
      have hc2 := fun W => refright_any x.K x.N x.S b2 W e2
      have HE1 := Lib.hid e1
      have HE2 := Lib.hid e2
      clear e1 e2 hzk
      cases b1 with
      | false =>
        have e1 := un H55 (fun hA => by
          have := ((un HO).1 (hA.2 k hkl)).1
          rw [un HX, un HE1] at this
          cases this)
        subst e1
        go_wp2_with fail
        refine (hc1 _).mono ?_
        rintro e w2 ⟨rfl, rfl⟩
        go_wp2
        go_ret
        exact ⟨rfl, R.2⟩
      | true =>
        cases b2 with
        | false =>
          have e1 := un H55 (fun hA => by
            have := ((un HO).1 (hA.2 k hkl)).2.1
            rw [un HX, un HE2] at this
            cases this)
          subst e1
          go_wp2_with fail
          refine (hc1 _).mono ?_
          rintro e w2 ⟨rfl, rfl⟩
          go_wp2_with fail
          refine (hc2 _).mono ?_
          rintro e w3 ⟨rfl, rfl⟩
          go_wp2
          go_ret
          exact ⟨rfl, R.2.alloc R.2.size _⟩
        | true =>
          go_wp2_with fail
          refine (hc1 _).mono ?_
          rintro e w2 ⟨rfl, rfl⟩
          go_wp2_with fail
          refine (hc2 _).mono ?_
          rintro e w3 ⟨rfl, rfl⟩
          have R3 := R.below (below_box w2 (box 79 x.K x.N x.S) (Nat.le_refl _))
          clear R c9 f0 f1 f2 f3 hc1 hc2
          generalize w2.alloc (box 79 x.K x.N x.S) = W3 at *
          go_wp2
          go_loopw [4] (fun v wr => ∃ j : Nat, v = .int .i64 j ∧ j ≤ k ∧ ChR w s (.slice (some ad) n c) wr ∧ Hid (∀ i (hi : i < l.length), i < j → hasK x.key l[i] = false)) (fun v _ => k - (intOf v).toNat)
          case atStart => exact ⟨0, rfl, Nat.zero_le _, R3, fun i hi h => absurd h (by omega)⟩
          case round =>
            clear R3
            obtain ⟨j, rfl, hj, R, HJ⟩ := hrel
            by_cases hlj : j < k
            · have hljz : (j : Int) < (k : Int) := by omega
              have hjl : j < l.length := by omega
              have hjn : (j : Int) < (n : Int) := by omega
              have c9 : wr.cell? ⟨w.heap.size, 9, none⟩ = some (.slice (some ad) n c) := R.1.cell 9
              obtain ⟨ad2, q, ha, hq, F⟩ := h.get hjl
              injection ha with ha
              subst ha
              have ql := World.block_lt_of_cell? _ _ F.c0
              have f0 := (R.2.cell (p := p) pl).trans (un F0)
              have f1 := (R.2.cell (p := q) ql).trans F.c0
              rw [un HX] at f0
              clear F
              obtain ⟨y, hy⟩ : ∃ y, l[j] = y := ⟨_, rfl⟩
              have HY := Lib.hid hy
              rw [hy] at f1
              clear hy
              obtain ⟨t, ht⟩ : ∃ t, (y.key.toList == x.key.toList) = t := ⟨_, rfl⟩
              have HT := Lib.hid ht
              have e0 : (0 : Int) ≤ (k : Int) := by omega
              have e1 : ((k : Int)).toNat = k := by omega
              have e2 : (0 : Int) ≤ (j : Int) := by omega
              have e3 : ((j : Int)).toNat = j := by omega
              cases t with
              | true =>
                have e1 := un H55 (fun hA => by
                  have := ((un HO).1 (hA.2 k hkl)).2.2 j hlj
                  rw [un HX, un HY] at this
                  unfold hasK at this
                  rw [un HT] at this
                  cases this)
                subst e1
                go_wp2_with (go_quiet (fail))
                go_wp2
                go_ret
                exact ⟨rfl, R.2.os, R.2.tape, R.2.output, R.2.size, R.2.block⟩
              | false =>
                go_wp2_with (go_quiet (fail))
                go_wp2
                go_roundw
                case rel =>
                  refine ⟨j + 1, by go_num, by omega, ⟨R.1, R.2.os, R.2.tape, R.2.output, R.2.size, R.2.block⟩, fun i hi hij => ?_⟩
                  by_cases e : i = j
                  · subst e
                    unfold hasK
                    rw [un HY]
                    exact un HT
                  · exact un HJ i hi (by omega)
                case measure => simp [intOf]; omega
            · have hljz : ¬ ((j : Int) < (k : Int)) := by omega
              have hjk : j = k := by omega
              subst hjk
              go_wp2
              go_roundw
              case rel =>
                refine ⟨j + 1, by go_num, by omega, R, fun i hi hik => ?_⟩
                by_cases e : i = j
                · subst e
                  refine (un HO).2 ⟨?_, ?_, fun q hq => ?_⟩
                  · rw [un HX]; exact un HE1
                  · rw [un HX]; exact un HE2
                  · rw [un HX]; exact un HJ q (by omega) hq
                · exact un HI i hi (by omega)
              case measure => simp [intOf]; omega
    · have hltz : ¬ ((k : Int) < (n : Int)) := by omega
      have e1 := un H0 ⟨by have := un HN; omega, fun i hi => un HI i hi (by have := un HN; omega)⟩
      subst e1
      go_wp2
      go_ret
      exact ⟨rfl, R.2⟩
end Go.Proofs.YtdmibolbpgondaaGreat.P06
