/-
  Where an attribute stands: slices.IndexFunc, place, Attr.
  May a span be? span.Check.
  span.Check.
-/
import Derived.Test.YtdmibolbpgondaaGreatKP06Cmp
section
set_option linter.unusedSimpArgs false
set_option linter.unusedVariables false
namespace Go.Proofs.YtdmibolbpgondaaGreat.P06
open Go.Shelf Go.RowKit Go.Lib Go.Sort Go.Proofs.YtdmibolbpgondaaGreat.Wd Go.Proofs.YtdmibolbpgondaaGreat.V04

/-- has it the key? -/
def hasK (key : ByteArray) (x : At) : Bool := x.key.toList == key.toList
theorem place1_any (x : At) (key : ByteArray) (g : Nat) (w : World) (h : w.cell? ⟨g, 0, none⟩ = some (.string key)) :
    Calls Tryz.prog 89 #[.agg #[.string x.key, .int .i64 x.K, .int .i64 x.N, .string x.S], .pointer (some ⟨g, 0, none⟩)] w fun e w' => e = .returned (.bool (hasK key x)) ∧ Below w.heap.size w w' := by
  have h2 : (w.alloc (abox 86 x)).cell? ⟨g, 0, none⟩ = some (.string key) := by rw [(below_box w (abox 86 x) (Nat.le_refl _)).cell (World.block_lt_of_cell? _ _ h)]; exact h
  go_enter Tryz.func89, Tryz.ntmps89
  go_wp2
  go_ret
  exact ⟨rfl, by go_grown⟩

/-- where the first with the key stands, -1 if there is none -/
def plc (l : List At) (key : ByteArray) : Int := match l.findIdx? (hasK key) with
  | some i => (i : Int)
  | none => -1
theorem plc_hit {l : List At} {key : ByteArray} {k : Nat} (hk : k < l.length) (h : hasK key l[k] = true) (hb : ∀ j (hj : j < k), hasK key (l[j]'(by omega)) = false) : plc l key = (k : Int) := by
  have : l.findIdx? (hasK key) = some k := by
    rw [List.findIdx?_eq_some_iff_getElem]
    exact ⟨hk, h, fun j hj => by simp [hb j hj]⟩
  unfold plc
  rw [this]
theorem plc_miss {l : List At} {key : ByteArray} (hb : ∀ j (hj : j < l.length), hasK key l[j] = false) : plc l key = -1 := by
  have : l.findIdx? (hasK key) = none := by
    rw [List.findIdx?_eq_none_iff]
    intro x hx
    obtain ⟨j, hj, rfl⟩ := List.mem_iff_getElem.1 hx
    exact hb j hj
  unfold plc
  rw [this]

set_option maxRecDepth 20000 in
set_option maxHeartbeats 2000000 in
theorem indexf_any (A : Option Addr) (c : Nat) (l : List At) (key : ByteArray) (g : Nat) (w : World) (h : Hd 0 w A c l) (hm : l.length ≤ 40) (hg : w.cell? ⟨g, 0, none⟩ = some (.string key)) :
    Calls Tryz.prog 88 #[.slice A l.length c, .func (.func 89) #[] #[.pointer (some ⟨g, 0, none⟩)]] w fun e w' => e = .returned (.int .i64 (plc l key)) ∧ Below w.heap.size w w' := by
  obtain ⟨n, hn⟩ : ∃ n, l.length = n := ⟨_, rfl⟩
  have HN := Lib.hid hn
  rw [hn] at hm ⊢
  clear hn
  have hgl := World.block_lt_of_cell? _ _ hg
  have HP : Hid (∀ k (hk : k < l.length), hasK key l[k] = true → (∀ j (hj : j < k), hasK key (l[j]'(by omega)) = false) → plc l key = (k : Int)) := fun k hk h hb => plc_hit hk h hb
  have HM : Hid ((∀ j (hj : j < l.length), hasK key l[j] = false) → plc l key = -1) := fun hb => plc_miss hb
  generalize plc l key = r at *
  go_enter Tryz.func88, Tryz.ntmps88
  go_wp2
  go_loopw [8] (fun v wr => ∃ k : Nat, v = .int .i64 k ∧ k ≤ n ∧ Below w.heap.size w wr ∧ Hid (∀ j (hj : j < l.length), j < k → hasK key l[j] = false)) (fun v _ => n - (intOf v).toNat)
  case atStart => exact ⟨0, rfl, Nat.zero_le _, Below.refl _ _, fun j hj h => absurd h (by omega)⟩
  case round =>
    obtain ⟨k, rfl, hk, hb, HI⟩ := hrel
    by_cases hlt : k < n
    · have hltz : (k : Int) < (n : Int) := by omega
      have hkl : k < l.length := by rw [un HN]; exact hlt
      obtain ⟨g1, rfl, _, hg1, F⟩ := (h.below hb).get hkl
      have f0 := F.c0
      have f1 := F.c1
      have f2 := F.c2
      have f3 := F.c3
      have hc := place1_any l[k] key g wr ((hb.cell (p := ⟨g, 0, none⟩) hgl).trans hg)
      have HX : Hid (l[k] = l[k]) := rfl
      obtain ⟨x, hx⟩ : ∃ x, l[k] = x := ⟨_, rfl⟩
      rw [hx] at f0 f1 f2 f3 hc
      have HE := Lib.hid hx
      clear F hx HX
      obtain ⟨b, hbb⟩ : ∃ b, hasK key x = b := ⟨_, rfl⟩
      rw [hbb] at hc
      have HB := Lib.hid hbb
      clear hbb
      cases b with
      | true =>
        go_wp2_with fail
        refine hc.mono ?_
        rintro e w2 ⟨rfl, hb2⟩
        go_wp2
        go_ret
        refine ⟨?_, hb.trans (hb2.mono hb.size)⟩
        rw [un HP k hkl (by rw [un HE]; exact un HB) (fun j hj => un HI j (by omega) hj)]
        rfl
      | false =>
        go_wp2_with fail
        refine hc.mono ?_
        rintro e w2 ⟨rfl, hb2⟩
        go_wp2
        go_roundw
        case rel =>
          refine ⟨k + 1, by go_num, by omega, hb.trans (hb2.mono hb.size), fun j hj hjk => ?_⟩
          by_cases e : j = k
          · subst e; rw [un HE]; exact un HB
          · exact un HI j hj (by omega)
        case measure => simp [intOf]; omega
    · have hltz : ¬ ((k : Int) < (n : Int)) := by omega
      go_wp2
      go_ret
      refine ⟨?_, hb⟩
      rw [un HM fun j hj => un HI j hj (by have := un HN; omega)]
      rfl
set_option maxRecDepth 20000 in
theorem place_any (A : Option Addr) (c n : Nat) (l : List At) (key : ByteArray) (w : World) (h : Hd 0 w A c l) (hn : l.length = n) (hm : n ≤ 40) :
    Calls Tryz.prog 71 #[.slice A n c, .string key] w fun e w' => e = .returned (.int .i64 (plc l key)) ∧ Below w.heap.size w w' := by
  have hc := indexf_any A c l key w.heap.size (w.alloc (.cells #[.string key] 9)) (h.below (below_box _ _ (Nat.le_refl _))) (by omega) (by simp)
  rw [hn] at hc
  have b0 := below_box w (.cells #[.string key] 9) (Nat.le_refl _)
  clear h hn
  go_enter Tryz.func71, Tryz.ntmps71
  go_wp2_with (go_at_call 88; refine hc.mono ?_; rintro e w2 ⟨rfl, hb2⟩)
  go_ret
  exact ⟨rfl, b0.trans (hb2.mono b0.size)⟩
end Go.Proofs.YtdmibolbpgondaaGreat.P06
end

section
set_option linter.unusedSimpArgs false
set_option linter.unusedVariables false
namespace Go.Proofs.YtdmibolbpgondaaGreat.P06
open Go.Shelf Go.RowKit Go.Lib Go.Sort Go.Proofs.YtdmibolbpgondaaGreat.Wd Go.Proofs.YtdmibolbpgondaaGreat.V04

/-- one attribute may be where it stands -/
def okAt (l : List At) (i : Nat) (h : i < l.length) : Prop := T03.key (T03.ls l[i].key) = true ∧ right l[i].K l[i].N l[i].S = true ∧ ¬ plc l l[i].key < (i : Int)
/-- attributes that may be -/
def Amb (l : List At) : Prop := l.length ≤ 16 ∧ ∀ i (h : i < l.length), okAt l i h

/-- what is answered of attributes -/
def AtOut (w : World) (l : List At) (e : Ending) (w' : World) : Prop := ∃ b : Bool, e = .returned (.bool b) ∧ (b = true ↔ Amb l) ∧ Below w.heap.size w w'
theorem AtOut.of {w : World} {l : List At} {e : Ending} {w' : World} (b : Bool) (h1 : e = .returned (.bool b)) (h2 : b = true ↔ Amb l) (h3 : Below w.heap.size w w') : AtOut w l e w' := ⟨b, h1, h2, h3⟩
set_option maxRecDepth 20000 in
set_option maxHeartbeats 4000000 in
theorem attrs_any (A : Option Addr) (c n : Nat) (l : List At) (w : World) (h : Hd 0 w A c l) (hn : l.length = n) (hm : n ≤ 40) :
    Calls Tryz.prog 51 #[.slice A n c] w (AtOut w l) := by
  have HN := Lib.hid hn
  by_cases h16 : (16 : Int) < (n : Int)
  · go_enter Tryz.func51, Tryz.ntmps51
    go_wp2
    go_ret
    exact AtOut.of false rfl (by unfold Amb; simp; omega) (Below.refl _ _)
  clear hn
  go_enter Tryz.func51, Tryz.ntmps51
  go_wp2
  go_loopw [10] (fun v wr => ∃ k : Nat, v = .int .i64 k ∧ k ≤ n ∧ Below w.heap.size w wr ∧ Hid (∀ i (hi : i < l.length), i < k → okAt l i hi)) (fun v _ => n - (intOf v).toNat)
  case atStart => exact ⟨0, rfl, Nat.zero_le _, Below.refl _ _, fun i hi h => absurd h (by omega)⟩
  case round =>
    obtain ⟨k, rfl, hk, hb, HI⟩ := hrel
    by_cases hlt : k < n
    · have hltz : (k : Int) < (n : Int) := by omega
      have hkl : k < l.length := by rw [un HN]; exact hlt
      have hH := h.below hb
      obtain ⟨g1, rfl, _, hg1, F⟩ := hH.get hkl
      have f0 := F.c0
      have f1 := F.c1
      have f2 := F.c2
      have f3 := F.c3
      have HO : Hid (okAt l k hkl ↔ (T03.key (T03.ls l[k].key) = true ∧ right l[k].K l[k].N l[k].S = true ∧ ¬ plc l l[k].key < (k : Int))) := Iff.rfl
      have hcp := fun W (hb2 : Below wr.heap.size wr W) => place_any (some ⟨g1, 0, none⟩) c n l l[k].key W (hH.below hb2) (un HN) hm
      generalize plc l l[k].key = pk at *
      clear F
      generalize l[k] = x at *
      obtain ⟨b1, e1⟩ : ∃ b, T03.key (T03.ls x.key) = b := ⟨_, rfl⟩
      obtain ⟨b2, e2⟩ : ∃ b, right x.K x.N x.S = b := ⟨_, rfl⟩
      have hc1 := fun W => T03.key_at x.key b1 W e1
      have hc2 := fun W => right_any x.K x.N x.S b2 W e2
      have x0 : Bk (wr.alloc (abox 86 x)) wr.heap.size 86 #[.string x.key, .int .i64 x.K, .int .i64 x.N, .string x.S] := Bk.new wr _ _
      have bx := below_box wr (abox 86 x) (Nat.le_refl _)
      have HE1 := Lib.hid e1
      have HE2 := Lib.hid e2
      clear e1 e2
      cases b1 with
      | false =>
        go_wp2_with fail
        refine (hc1 _).mono ?_
        rintro e w2 ⟨rfl, hb2⟩
        go_wp2
        go_ret
        refine AtOut.of false rfl ?_ (hb.trans ((bx.trans (hb2.mono bx.size)).mono hb.size))
        simp only [Bool.false_eq_true, false_iff]
        intro hA
        have := (un HO).1 (hA.2 k hkl)
        rw [un HE1] at this
        exact absurd this.1 (by simp)
      | true =>
        go_wp2_with fail
        refine (hc1 _).mono ?_
        rintro e w2 ⟨rfl, hb2⟩
        have x2 := x0.below hb2
        have y1 : w2.cell? ⟨wr.heap.size, 1, none⟩ = some (.int .i64 x.K) := x2.cell 1
        have y2 : w2.cell? ⟨wr.heap.size, 2, none⟩ = some (.int .i64 x.N) := x2.cell 2
        have y3 : w2.cell? ⟨wr.heap.size, 3, none⟩ = some (.string x.S) := x2.cell 3
        have bx2 := bx.trans (hb2.mono bx.size)
        cases b2 with
        | false =>
          go_wp2_with fail
          refine (hc2 _).mono ?_
          rintro e w3 ⟨rfl, rfl⟩
          go_wp2
          go_ret
          refine AtOut.of false rfl ?_ (hb.trans ((bx2.alloc bx2.size _).mono hb.size))
          simp only [Bool.false_eq_true, false_iff]
          intro hA
          have := (un HO).1 (hA.2 k hkl)
          rw [un HE2] at this
          exact absurd this.2.1 (by simp)
        | true =>
          go_wp2_with fail
          refine (hc2 _).mono ?_
          rintro e w3 ⟨rfl, rfl⟩
          have bx3 := bx2.alloc bx2.size (box 84 x.K x.N x.S)
          have y0 : (w2.alloc (box 84 x.K x.N x.S)).cell? ⟨wr.heap.size, 0, none⟩ = some (.string x.key) := (x2.below (below_box _ _ (Nat.le_refl _))).cell 0
          generalize w2.alloc (box 84 x.K x.N x.S) = W3 at *
          go_wp2_with fail
          refine (hcp _ bx3).mono ?_
          rintro e w4 ⟨rfl, hb4⟩
          have b4 := hb.trans ((bx3.trans (hb4.mono bx3.size)).mono hb.size)
          by_cases hp : pk < (k : Int)
          · go_wp2
            go_ret
            refine AtOut.of false rfl ?_ (b4)
            simp only [Bool.false_eq_true, false_iff]
            intro hA
            have := ((un HO).1 (hA.2 k hkl)).2.2
            omega
          · go_wp2
            go_roundw
            case rel =>
              refine ⟨k + 1, by go_num, by omega, b4, fun i hi hik => ?_⟩
              by_cases e : i = k
              · subst e; exact (un HO).2 ⟨un HE1, un HE2, hp⟩
              · exact un HI i hi (by omega)
            case measure => simp [intOf]; omega
    · have hltz : ¬ ((k : Int) < (n : Int)) := by omega
      go_wp2
      go_ret
      refine AtOut.of true rfl ?_ hb
      simp only [true_iff]
      exact ⟨by have := un HN; omega, fun i hi => un HI i hi (by have := un HN; omega)⟩

/-- a name may be -/
def nmb (s : ByteArray) : Bool := decide (s.size ≠ 0 ∧ s.size ≤ 4096)
end Go.Proofs.YtdmibolbpgondaaGreat.P06
end

section
set_option linter.unusedSimpArgs false
set_option linter.unusedVariables false
namespace Go.Proofs.YtdmibolbpgondaaGreat.P06
open Go.Shelf Go.RowKit Go.Lib Go.Sort Go.Proofs.YtdmibolbpgondaaGreat.Wd Go.Proofs.YtdmibolbpgondaaGreat.V04

set_option maxRecDepth 20000 in
theorem name_any (s : ByteArray) (w : World) : Calls Tryz.prog 50 #[.string s] w fun e w' => e = .returned (.bool (nmb s)) ∧ w' = w := by
  have he := empty_iff s
  by_cases hz : s.size = 0
  · have e1 : nmb s = false := by simp [nmb, hz]
    have e2 : s.toList.isEmpty = true := by rw [List.isEmpty_iff]; exact he.2 hz
    have e3 : s.toList = [] := he.2 hz
    rw [e1]
    clear he
    go_enter Tryz.func50, Tryz.ntmps50
    go_wp2
    all_goals go_ret
    all_goals exact ⟨by first | rfl | simp_all, rfl⟩
  · have e2 : s.toList.isEmpty = false := by rw [Bool.eq_false_iff, ne_eq, List.isEmpty_iff]; exact fun e => hz (he.1 e)
    clear he
    by_cases h4 : (s.size : Int) ≤ 4096
    · have e1 : nmb s = true := by simp only [nmb, decide_eq_true_eq]; omega
      rw [e1]
      go_enter Tryz.func50, Tryz.ntmps50
      go_wp2
      all_goals go_ret
      all_goals exact ⟨by first | rfl | simp_all, rfl⟩
    · have e1 : nmb s = false := by simp only [nmb, decide_eq_false_iff_not]; omega
      rw [e1]
      go_enter Tryz.func50, Tryz.ntmps50
      go_wp2
      all_goals go_ret
      all_goals exact ⟨by first | rfl | simp_all, rfl⟩

/-- the reason, where the attributes may be (b) or not -/
def chk (s : Sp) (b : Bool) : Int :=
  if s.T = 0 ∨ s.I = 0 then 50 else if s.t1 < s.t0 ∨ 4611686018427387904 < s.t1 then 51 else if s.kd < 0 ∨ 4 < s.kd then 52 else if s.st < 0 ∨ 2 < s.st then 53
  else if nmb s.sv = false ∨ nmb s.nm = false then 54 else if b = false then 55 else 0
set_option maxRecDepth 20000 in
set_option maxHeartbeats 4000000 in
theorem check_any (s : Sp) (A : Option Addr) (c n : Nat) (l : List At) (w : World) (h : Hd 0 w A c l) (hn : l.length = n) (hm : n ≤ 40) (b : Bool) (hb : b = true ↔ Amb l) :
    Calls Tryz.prog 29 #[spv s (.slice A n c)] w fun e w' => e = .returned (.int .i64 (chk s b)) ∧ Below w.heap.size w w' := by
  have b0 : Below w.heap.size w (w.alloc (.cells (spc s (.slice A n c)) 45)) := by go_grown
  have hca : ∀ W, Below w.heap.size w W → Calls Tryz.prog 51 #[.slice A n c] W fun e w' => e = .returned (.bool b) ∧ Below W.heap.size W w' := fun W hW => by
    refine (attrs_any A c n l W (h.below hW) hn hm).mono ?_
    rintro e w' ⟨b', rfl, hb', hB⟩
    refine ⟨?_, hB⟩
    rw [Bool.eq_iff_iff.2 (hb'.trans hb.symm)]
  clear h hn hb
  obtain ⟨n1, e1⟩ : ∃ q, nmb s.sv = q := ⟨_, rfl⟩
  obtain ⟨n2, e2⟩ : ∃ q, nmb s.nm = q := ⟨_, rfl⟩
  have hc1 := fun W => name_any s.sv W
  have hc2 := fun W => name_any s.nm W
  rw [e1] at hc1
  rw [e2] at hc2
  obtain ⟨r, hr⟩ : ∃ r, chk s b = r := ⟨_, rfl⟩
  rw [hr]
  unfold chk at hr
  rw [e1, e2] at hr
  clear e1 e2
  by_cases g1 : s.T = 0
  · have k1 : (s.T == 0) = true := by simp [g1]
    rw [if_pos (.inl g1)] at hr
    subst hr
    clear g1
    go_enter Tryz.func29, Tryz.ntmps29
    go_wp2
    go_ret
    exact ⟨rfl, b0⟩
  have k1 : (s.T == 0) = false := beq_false_of_ne g1
  by_cases g2 : s.I = 0
  · have k2 : (s.I == 0) = true := by simp [g2]
    rw [if_pos (.inr g2)] at hr
    subst hr
    clear g1 g2
    go_enter Tryz.func29, Tryz.ntmps29
    go_wp2
    go_ret
    exact ⟨rfl, b0⟩
  have k2 : (s.I == 0) = false := beq_false_of_ne g2
  rw [if_neg (fun h => h.elim g1 g2)] at hr
  clear g1 g2
  by_cases g3 : s.t1 < s.t0
  · rw [if_pos (.inl g3)] at hr
    subst hr
    go_enter Tryz.func29, Tryz.ntmps29
    go_wp2
    go_ret
    exact ⟨rfl, b0⟩
  by_cases g4 : 4611686018427387904 < s.t1
  · rw [if_pos (.inr g4)] at hr
    subst hr
    go_enter Tryz.func29, Tryz.ntmps29
    go_wp2
    go_ret
    exact ⟨rfl, b0⟩
  rw [if_neg (fun h => h.elim g3 g4)] at hr
  by_cases g5 : s.kd < 0
  · rw [if_pos (.inl g5)] at hr
    subst hr
    go_enter Tryz.func29, Tryz.ntmps29
    go_wp2
    go_ret
    exact ⟨rfl, b0⟩
  by_cases g6 : 4 < s.kd
  · rw [if_pos (.inr g6)] at hr
    subst hr
    go_enter Tryz.func29, Tryz.ntmps29
    go_wp2
    go_ret
    exact ⟨rfl, b0⟩
  rw [if_neg (fun h => h.elim g5 g6)] at hr
  by_cases g7 : s.st < 0
  · rw [if_pos (.inl g7)] at hr
    subst hr
    go_enter Tryz.func29, Tryz.ntmps29
    go_wp2
    go_ret
    exact ⟨rfl, b0⟩
  by_cases g8 : 2 < s.st
  · rw [if_pos (.inr g8)] at hr
    subst hr
    go_enter Tryz.func29, Tryz.ntmps29
    go_wp2
    go_ret
    exact ⟨rfl, b0⟩
  rw [if_neg (fun h => h.elim g7 g8)] at hr
  cases n1 with
  | false =>
    rw [if_pos (.inl rfl)] at hr
    subst hr
    go_enter Tryz.func29, Tryz.ntmps29
    go_wp2_with fail
    refine (hc1 _).mono ?_
    rintro e w' ⟨rfl, rfl⟩
    go_wp2
    go_ret
    exact ⟨rfl, b0⟩
  | true =>
    cases n2 with
    | false =>
      rw [if_pos (.inr rfl)] at hr
      subst hr
      go_enter Tryz.func29, Tryz.ntmps29
      go_wp2_with fail
      refine (hc1 _).mono ?_
      rintro e w' ⟨rfl, rfl⟩
      go_wp2_with fail
      refine (hc2 _).mono ?_
      rintro e w' ⟨rfl, rfl⟩
      go_wp2
      go_ret
      exact ⟨rfl, b0⟩
    | true =>
      rw [if_neg (by simp)] at hr
      cases b with
      | false =>
        rw [if_pos rfl] at hr
        subst hr
        go_enter Tryz.func29, Tryz.ntmps29
        go_wp2_with fail
        refine (hc1 _).mono ?_
        rintro e w' ⟨rfl, rfl⟩
        go_wp2_with fail
        refine (hc2 _).mono ?_
        rintro e w' ⟨rfl, rfl⟩
        go_wp2_with fail
        refine (hca _ b0).mono ?_
        rintro e w' ⟨rfl, hb2⟩
        go_wp2
        go_ret
        exact ⟨rfl, b0.trans (hb2.mono b0.size)⟩
      | true =>
        rw [if_neg (by simp)] at hr
        subst hr
        go_enter Tryz.func29, Tryz.ntmps29
        go_wp2_with fail
        refine (hc1 _).mono ?_
        rintro e w' ⟨rfl, rfl⟩
        go_wp2_with fail
        refine (hc2 _).mono ?_
        rintro e w' ⟨rfl, rfl⟩
        go_wp2_with fail
        refine (hca _ b0).mono ?_
        rintro e w' ⟨rfl, hb2⟩
        go_wp2
        go_ret
        exact ⟨rfl, b0.trans (hb2.mono b0.size)⟩
end Go.Proofs.YtdmibolbpgondaaGreat.P06
end
