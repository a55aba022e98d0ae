/-
  The document's shard: Take.
  The document's shard: a span put in its place.
  Traces taken one behind the other; who is due: in plain lists.
-/
import Derived.Test.YtdmibolbpgondaaGreatKX15Own
import Derived.Test.YtdmibolbpgondaaGreatKB7Ten
import Derived.Test.YtdmibolbpgondaaGreatKX15Put
import Derived.Lib.QuietBelow
import Derived.Test.YtdmibolbpgondaaGreatKX15SortS
section
set_option linter.unusedSimpArgs false
set_option linter.unusedVariables false
namespace Go.Proofs.YtdmibolbpgondaaGreat.X15
open Go.RowKit Go.Lib Go.Maps Go.Proofs.YtdmibolbpgondaaGreat.Wd Go.Proofs.YtdmibolbpgondaaGreat.P06
open Go.Proofs.YtdmibolbpgondaaGreat.B07 (Pn OkN OkA OkP Spn Sps pns tenA ten Ten ten_one rspan_info)
open Go.Proofs.YtdmibolbpgondaaGreat.D09 (TenW)
theorem rest_take {L : List Pn} {t k : Nat} (h : k < L.length) : rest (L.take (k + 1)) t = rest (L.take k) t ++ (if tn L[k] = t then [] else [L[k]]) := by
  rw [List.take_succ_eq_append_getElem h]
  unfold rest
  rw [List.filter_append]
  congr 1
  by_cases e : tn L[k] = t
  · simp [e]
  · simp [e]
/-- two rows of spans of the call's own -/
structure Tw (M0 : List Spn) (X : World) (L : List Pn) (t k : Nat) (A1 : Option Addr) (n1 c1 : Nat) (M1 : List Spn) (A2 : Option Addr) (n2 c2 : Nat) (M2 : List Spn) (W : World) : Prop where
  o1 : W.ownsRow X.heap.size 34 10 (.slice A1 n1 c1) n1 (M1.flatMap ten)
  o2 : W.ownsRow X.heap.size 34 10 (.slice A2 n2 c2) n2 (M2.flatMap ten)
  ap : Ap (.slice A1 n1 c1) (.slice A2 n2 c2)
  l1 : M1.length = n1
  l2 : M2.length = n2
  p1 : pns M1 = trace (L.take k) t
  p2 : pns M2 = rest (L.take k) t
  at1 : ∀ y ∈ M1, y ∈ M0
  at2 : ∀ y ∈ M2, y ∈ M0
  few : n1 + n2 ≤ k
  bel : Below X.heap.size X W
theorem own_high {w w' : World} {base n : Nat} {e : TypeId} {v : Value} {xs : List Value} {o : List Nat} (h : w.ownsRow base e 10 v n xs) (f : Wd.Fr o w w') (ho : ∀ x ∈ o, x < base) : w'.ownsRow base e 10 v n xs :=
  ⟨h.1, h.2.elim .inl fun ⟨g, cap, cur, hv, hb, hg, r⟩ => .inr ⟨g, cap, cur, hv, hb, by rw [f.block g (Array.getElem?_eq_some_iff.1 hg).1 (fun hm => by have := ho g hm; omega)]; exact hg, r⟩⟩
section
variable {X W W1 W3 : World} {M0 : List Spn} {L : List Pn} {t k : Nat} {A1 A2 A' : Option Addr} {n1 c1 n2 c2 c' : Nat} {M1 M2 : List Spn}
theorem Tw.grown {v : Value} (hb : Below X.heap.size X W1) (hv : ∀ q, v.ownBlock = some q → X.heap.size ≤ q) (hg : W1.grownBy W3 v.ownBlock) : Below X.heap.size X W3 :=
  ((Fr.of_below _ hb).then (Fr.of_grown (o := v.ownBlock.toList) hg fun q hq => by rw [hq]; simp)).below (Nat.le_refl _) fun x hx => hv x (by simpa [Option.mem_toList] using hx)
theorem Tw.mine (h : Tw M0 X L t k A1 n1 c1 M1 A2 n2 c2 M2 W) (hk : k < L.length) (ht : tn L[k] = t) {y : Spn} (hy : y.pn = L[k]) (ha : y ∈ M0) (b1 : Below W.heap.size W W1)
    (hrow : W3.ownsRow X.heap.size 34 10 (.slice A' (n1 + 1) c') (n1 + 1) (M1.flatMap ten ++ ten y)) (hg : W1.grownBy W3 (Value.slice A1 n1 c1).ownBlock)
    (hat : (Value.slice A' (n1 + 1) c').ownBlock = (Value.slice A1 n1 c1).ownBlock ∨ (Value.slice A' (n1 + 1) c').ownBlock = some W1.heap.size) : Tw M0 X L t (k + 1) A' (n1 + 1) c' (M1 ++ [y]) A2 n2 c2 M2 W3 := by
  obtain ⟨q1, q2⟩ := h.ap.keep (own_below h.o2 b1) hg hat
  refine ⟨by simpa using hrow, q1, q2, by simp [h.l1], h.l2, ?_, ?_, fun z hz => ?_, h.at2, by have := h.few; omega, Tw.grown (h.bel.trans (b1.mono h.bel.size)) (fun q hq => (h.o1.lt q hq).1) hg⟩
  · rw [trace_take hk, if_pos ht, ← h.p1, ← hy]; simp [pns]
  · rw [rest_take hk, if_pos ht, List.append_nil]; exact h.p2
  · rcases List.mem_append.1 hz with hz | hz
    · exact h.at1 z hz
    · rw [List.mem_singleton.1 hz]; exact ha
theorem Tw.other (h : Tw M0 X L t k A1 n1 c1 M1 A2 n2 c2 M2 W) (hk : k < L.length) (ht : ¬ tn L[k] = t) {y : Spn} (hy : y.pn = L[k]) (ha : y ∈ M0) (b1 : Below W.heap.size W W1)
    (hrow : W3.ownsRow X.heap.size 34 10 (.slice A' (n2 + 1) c') (n2 + 1) (M2.flatMap ten ++ ten y)) (hg : W1.grownBy W3 (Value.slice A2 n2 c2).ownBlock)
    (hat : (Value.slice A' (n2 + 1) c').ownBlock = (Value.slice A2 n2 c2).ownBlock ∨ (Value.slice A' (n2 + 1) c').ownBlock = some W1.heap.size) : Tw M0 X L t (k + 1) A1 n1 c1 M1 A' (n2 + 1) c' (M2 ++ [y]) W3 := by
  obtain ⟨q1, q2⟩ := h.ap.symm.keep (own_below h.o1 b1) hg hat
  refine ⟨q1, by simpa using hrow, q2.symm, h.l1, by simp [h.l2], ?_, ?_, h.at1, fun z hz => ?_, by have := h.few; omega, Tw.grown (h.bel.trans (b1.mono h.bel.size)) (fun q hq => (h.o2.lt q hq).1) hg⟩
  · rw [trace_take hk, if_neg ht, List.append_nil]; exact h.p1
  · rw [rest_take hk, if_neg ht, ← h.p2, ← hy]; simp [pns]
  · rcases List.mem_append.1 hz with hz | hz
    · exact h.at2 z hz
    · rw [List.mem_singleton.1 hz]; exact ha
end
/-- what Take tells -/
def RkOut (w : World) (M : List Spn) (G S B : Nat) (L : List Pn) (t : Nat) (e : Ending) (w' : World) : Prop :=
  ∃ A1 c1 M1 A2 c2 M2, e = .returned (.tuple #[.slice A1 (trace L t).length c1, sag G S B A2 (rest L t).length c2]) ∧ pns M1 = trace L t ∧ pns M2 = rest L t ∧ Sps w' A1 c1 M1 ∧ Sps w' A2 c2 M2 ∧ Below w.heap.size w w' ∧ (∀ y ∈ M1, y ∈ M) ∧ (∀ y ∈ M2, y ∈ M) ∧ ∀ a, A2 = some a → w.heap.size ≤ a.block
set_option maxRecDepth 20000 in
set_option maxHeartbeats 4000000 in
theorem rtake_at (G S B t : Nat) (A : Option Addr) (n c : Nat) (M : List Spn) (L : List Pn) (w : World) (h : Sps w A c M) (hn : M.length = n) (hL : pns M = L) (hok : ∀ x ∈ L, Okx x) (hfew : n ≤ 500) :
    Calls Tryz.prog 17 #[sag G S B A n c, .int .u64 (t : Int)] w (RkOut w M G S B L t) := by
  obtain ⟨i0, hi, hz0, hz1, hz2⟩ := info_parts rspan_info
  obtain ⟨g, hg⟩ : ∃ g, w.heap.size = g := ⟨_, rfl⟩
  obtain ⟨X, hX⟩ : ∃ X, (w.alloc (.cells (sac G S B A n c) 31)).alloc (.cells #[.int .u64 0, .int .i64 0, .int .i64 0, .slice none 0 0] 31) = X := ⟨_, rfl⟩
  have bx : Bk X g 31 (sac G S B A n c) := by rw [← hX, ← hg]; exact (Bk.new w _ _).below ((Below.refl _ _).alloc (Nat.le_refl _) _)
  have by' : Bk X (g + 1) 31 #[.int .u64 0, .int .i64 0, .int .i64 0, .slice none 0 0] := by rw [← hX, ← hg]; have := Bk.new (w.alloc (.cells (sac G S B A n c) 31)) 31 #[.int .u64 0, .int .i64 0, .int .i64 0, .slice none 0 0]; rw [World.size_alloc] at this; exact this
  have b0 : Below w.heap.size w X := by rw [← hX]; exact ((Below.refl _ _).alloc (Nat.le_refl _) _).alloc (by simp) _
  have HN := Lib.hid hn
  have HL := Lib.hid hL
  have hT0 : Tw M X L t 0 none 0 0 [] none 0 0 [] X := ⟨World.ownsRow_nil _ _ _ _, World.ownsRow_nil _ _ _ _, Ap.nil _, rfl, rfl, rfl, rfl, fun _ h => (by cases h), fun _ h => (by cases h), Nat.le_refl _, Below.refl _ _⟩
  clear hn hL
  go_enter Tryz.func17, Tryz.ntmps17
  go_wp2_with fail
  (try rw [hX])
  (try rw [hg])
  go_loopw [6, 7, 8] (fun u v i wr => ∃ k A1 n1 c1 M1 A2 n2 c2 M2, u = .slice A1 n1 c1 ∧ v = .slice A2 n2 c2 ∧ i = .int .i64 ((k : Nat) : Int) ∧ k ≤ n ∧ Tw M X L t k A1 n1 c1 M1 A2 n2 c2 M2 wr) (fun _ _ i _ => n - (intOf i).toNat)
  case atStart => exact ⟨0, none, 0, 0, [], none, 0, 0, [], rfl, rfl, rfl, Nat.zero_le _, hT0⟩
  case round =>
    clear hT0
    obtain ⟨k, A1, n1, c1, M1, A2, n2, c2, M2, rfl, rfl, rfl, hk, R⟩ := hrel
    have x3 : wr.cell? ⟨g, 3, none⟩ = some (.slice A n c) := (bx.below R.bel).cell 3
    by_cases hlt : k < n
    · have hltz : (k : Int) < (n : Int) := by omega
      have hkl : k < M.length := by rw [HN.out]; exact hlt
      have hkL : k < L.length := by rw [← HL.out]; simpa [pns] using hkl
      obtain ⟨ad, pp, rfl, hpp, F⟩ := ((h.below b0).below R.bel).get hkl
      have hA := List.getElem_mem hkl
      have hx : L[k]'hkL = (M[k].s, M[k].l) := by
        have : ∀ (T : List Pn) (e : pns M = T) (h : k < T.length), T[k] = (M[k].s, M[k].l) := fun T e h => by subst e; exact B07.pns_get M hkl
        exact this _ HL.out hkL
      have hT := (hok _ (List.getElem_mem hkL)).tn.1
      obtain ⟨a, ha⟩ : ∃ a, tn (L[k]'hkL) = a := ⟨_, rfl⟩
      rw [ha, hx] at hT
      obtain ⟨⟨s, A3, c3, l⟩, hMk⟩ : ∃ x, M[k] = x := ⟨_, rfl⟩
      rw [hMk] at F hA hT hx
      dsimp only at hT hx
      obtain ⟨m, hm1⟩ : ∃ m, l.length = m := ⟨_, rfl⟩
      have TE := TenW.of F hm1
      have e0 := TE.c0
      have e1 := TE.c1
      have e2 := TE.c2
      have e3 := TE.c3
      have e4 := TE.c4
      have e5 := TE.c5
      have e6 := TE.c6
      have e7 := TE.c7
      have e8 := TE.c8
      have e9 := TE.c9
      have hlit := B07.Rd.lit10 wr 34 ⟨s, A3, c3, l⟩
      have hx10 : tenA ⟨s, A3, c3, l⟩ = spc s (.slice A3 m c3) := by unfold B07.tenA; dsimp only; rw [hm1]
      rw [hx10] at hlit
      have bl : Below wr.heap.size wr (wr.alloc (.cells (spc s (.slice A3 m c3)) 34)) := (Below.refl _ _).alloc (Nat.le_refl _) _
      have hsz : X.heap.size ≤ (wr.alloc (.cells (spc s (.slice A3 m c3)) 34)).heap.size := Nat.le_trans R.bel.size bl.size
      have hfw := R.few
      have HY := Lib.hid (show B07.Spn.pn ⟨s, A3, c3, l⟩ = L[k]'hkL from hx.symm)
      have HA := Lib.hid hA
      have hb := R.bel
      have y2 : (0 : Int) ≤ (k : Int) := by omega
      have y3 : ((k : Int)).toNat = k := by omega
      have HTA := Lib.hid ha
      have x0' : (s.T : Int) = (a : Int) := hT.symm
      clear F hMk hx TE hm1 hx10 hA hT hkl ha
      obtain ⟨T, I, P, sv, nm, kd, st, t0, t1⟩ := s
      dsimp only at e0 e1 e2 e3 e4 e5 e6 e7 e8 x0'
      subst x0'
      by_cases ht : a = t
      · have htl : tn (L[k]'hkL) = t := by rw [HTA.out]; exact ht
        have htb : ((a : Int) == (t : Int)) = true := by rw [ht]; simp
        clear ht
        have o' := own_below R.o1 bl
        have HR := Lib.hid R
        clear R hb
        go_wp2_with (at_builtin; refine B07.wpList_append_ten _ rfl (.tmp 24) (.tmp 30) 29 rfl X.heap.size 34 i0 _ 112 Tryz.underlying29 hi hz0 hz1 hz2 rfl _ n1 (M1.flatMap ten) rfl o' _ ⟨⟨(a : Int), I, P, sv, nm, kd, st, t0, t1⟩, A3, c3, l⟩ rfl hlit ?d1 ?d2 ?d3 ?_)
        case d1 => unfold maxLen; omega
        case d2 => omega
        case d3 => exact hsz
        intro A6 c6 w6 hrow6 hg6 hat6
        have R6 := HR.out.mine hkL htl (y := ⟨⟨(a : Int), I, P, sv, nm, kd, st, t0, t1⟩, A3, c3, l⟩) HY.out HA.out bl hrow6 hg6 (by simpa using hat6)
        clear hrow6 hg6 hat6 o' hlit HR
        go_wp2
        go_roundw
        case rel => exact ⟨k + 1, A6, n1 + 1, c6, _, A2, n2, c2, M2, rfl, rfl, by go_num, by omega, R6⟩
        case measure => first | go_num | (simp [intOf]; omega)
      · have htl : ¬ tn (L[k]'hkL) = t := by rw [HTA.out]; exact ht
        have htb : ((a : Int) == (t : Int)) = false := by simpa using fun e => ht (by omega)
        clear ht
        have o' := own_below R.o2 bl
        have HR := Lib.hid R
        clear R hb
        go_wp2_with (at_builtin; refine B07.wpList_append_ten _ rfl (.tmp 32) (.tmp 38) 29 rfl X.heap.size 34 i0 _ 112 Tryz.underlying29 hi hz0 hz1 hz2 rfl _ n2 (M2.flatMap ten) rfl o' _ ⟨⟨(a : Int), I, P, sv, nm, kd, st, t0, t1⟩, A3, c3, l⟩ rfl hlit ?d1 ?d2 ?d3 ?_)
        case d1 => unfold maxLen; omega
        case d2 => omega
        case d3 => exact hsz
        intro A6 c6 w6 hrow6 hg6 hat6
        have R6 := HR.out.other hkL htl (y := ⟨⟨(a : Int), I, P, sv, nm, kd, st, t0, t1⟩, A3, c3, l⟩) HY.out HA.out bl hrow6 hg6 (by simpa using hat6)
        clear hrow6 hg6 hat6 o' hlit HR
        go_wp2
        go_roundw
        case rel => exact ⟨k + 1, A1, n1, c1, M1, A6, n2 + 1, c6, _, rfl, rfl, by go_num, by omega, R6⟩
        case measure => first | go_num | (simp [intOf]; omega)
    · have hltz : ¬ ((k : Int) < (n : Int)) := by omega
      have hkn : k = n := by omega
      have hfin : L.take k = L := List.take_of_length_le (by rw [hkn, ← HL.out, ← HN.out]; simp [pns])
      have p1 := R.p1
      have p2 := R.p2
      rw [hfin] at p1 p2
      have hn1 : (trace L t).length = n1 := by rw [← p1, ← R.l1]; simp [pns]
      have hn2 : (rest L t).length = n2 := by rw [← p2, ← R.l2]; simp [pns]
      have kg := bx.below R.bel
      have kh := by'.below R.bel
      have k1 : Bk (wr.setCell ⟨g, 3, none⟩ (.slice A2 n2 c2)) g 31 (sac G S B A2 n2 c2) := kg.set 3 _
      have f1 : Wd.Fr [g, g + 1] wr (wr.setCell ⟨g, 3, none⟩ (.slice A2 n2 c2)) := Fr.setCell wr ⟨g, 3, none⟩ _ (by simp)
      have k2 : Bk (wr.setCell ⟨g, 3, none⟩ (.slice A2 n2 c2)) (g + 1) 31 #[.int .u64 0, .int .i64 0, .int .i64 0, .slice none 0 0] := by
        unfold Bk
        rw [heap_setCell_other _ _ _ _ (by simp)]
        exact kh
      have f3 := kg.frozen 3
      have x3 := kg.cell 3
      simp only [List.getElem?_toArray, List.getElem?_cons_zero, List.getElem?_cons_succ] at x3
      obtain ⟨W1, hW1⟩ : ∃ W1, wr.setCell ⟨g, 3, none⟩ (.slice A2 n2 c2) = W1 := ⟨_, rfl⟩
      rw [hW1] at k1 k2 f1
      have a0 := k1.cell 0
      have a1 := k1.cell 1
      have a2 := k1.cell 2
      have a3 := k1.cell 3
      have b0' := k2.cell 0
      have b1' := k2.cell 1
      have b2' := k2.cell 2
      have b3' := k2.cell 3
      have c0' := k2.frozen 0
      have c1' := k2.frozen 1
      have c2' := k2.frozen 2
      have c3' := k2.frozen 3
      simp only [List.getElem?_toArray, List.getElem?_cons_zero, List.getElem?_cons_succ] at a0 a1 a2 a3 b0' b1' b2' b3'
      have HR := Lib.hid R
      have HP := Lib.hid (And.intro p1 (And.intro p2 (And.intro hn1 hn2)))
      clear R p1 p2 hn1 hn2 hfin
      go_wp2_with fail
      go_region
      obtain ⟨W8, hW8⟩ : ∃ W8, ((((W1.setCell ⟨g + 1, 0, none⟩ (.int .u64 (G : Int))).setCell ⟨g + 1, 1, none⟩ (.int .i64 (S : Int))).setCell ⟨g + 1, 2, none⟩ (.int .i64 (B : Int))).setCell ⟨g + 1, 3, none⟩ (.slice A2 n2 c2)).drew = W8 := ⟨_, rfl⟩
      have f8 : Wd.Fr [g, g + 1] W1 W8 := by
        rw [← hW8]
        exact (((((Fr.refl _ W1).then (Fr.setCell _ ⟨g + 1, 0, none⟩ _ (by simp))).then (Fr.setCell _ ⟨g + 1, 1, none⟩ _ (by simp))).then (Fr.setCell _ ⟨g + 1, 2, none⟩ _ (by simp))).then (Fr.setCell _ ⟨g + 1, 3, none⟩ _ (by simp))).then (Fr.of_below _ (U12.drew_below _))
      have k8 : Bk W8 (g + 1) 31 (sac G S B A2 n2 c2) := by rw [← hW8]; exact ((((k2.set 0 _).set 1 _).set 2 _).set 3 _).below (U12.drew_below _)
      have fA := f1.then f8
      have hgX : g + 1 < X.heap.size := (Array.getElem?_eq_some_iff.1 by').1
      have hho : ∀ x ∈ [g, g + 1], x < X.heap.size := fun x hx => by simp at hx; omega
      have R := HR.out
      have bw : Below w.heap.size w W8 := ((Fr.of_below [g, g + 1] (b0.trans (R.bel.mono b0.size))).then fA).below (Nat.le_refl _) fun x hx => by simp at hx; omega
      have o1 := own_high R.o1 fA hho
      have o2 := own_high R.o2 fA hho
      obtain ⟨p1, p2, hn1, hn2⟩ := HP.out
      have y0 := k8.cell 0
      have y1 := k8.cell 1
      have y2 := k8.cell 2
      have y3 := k8.cell 3
      simp only [List.getElem?_toArray, List.getElem?_cons_zero, List.getElem?_cons_succ] at y0 y1 y2 y3
      have HFin := Lib.hid (show RkOut w M G S B L t (.returned (.tuple #[.slice A1 n1 c1, sag G S B A2 n2 c2])) W8 from
        ⟨A1, c1, M1, A2, c2, M2, by rw [hn1, hn2], p1, p2, ⟨Rd.own (by rw [R.l1]; exact o1), fun y hy => (h.ats y (R.at1 y hy)).below bw⟩, ⟨Rd.own (by rw [R.l2]; exact o2), fun y hy => (h.ats y (R.at2 y hy)).below bw⟩, bw, R.at1, R.at2, fun a ha => Nat.le_trans b0.size (R.o2.lt a.block (by rw [ha]; rfl)).1⟩)
      rw [hW8]
      clear f8 k8 fA R o1 o2 p1 p2 hn1 hn2 a0 a1 a2 a3 b0' b1' b2' b3' c0' c1' c2' c3' hW8
      go_wp2
      refine bodyPost_ret (by simp [results, Tryz.results17, go_sem, y0, y1, y2, y3]; try rfl) rfl ?_
      exact HFin.out
end Go.Proofs.YtdmibolbpgondaaGreat.X15
end

section
set_option linter.unusedSimpArgs false
set_option linter.unusedVariables false
namespace Go.Proofs.YtdmibolbpgondaaGreat.X15
open Go.RowKit Go.Lib Go.Maps Go.Proofs.YtdmibolbpgondaaGreat.Wd Go.Proofs.YtdmibolbpgondaaGreat.P06
open Go.Proofs.YtdmibolbpgondaaGreat.B07 (Pn OkN OkA OkP Spn Sps pns tenA ten Ten ten_one rspan_info tm_len tm_one)
open Go.Proofs.YtdmibolbpgondaaGreat.D09 (TenW cp)
theorem sps_take {w : World} {A : Option Addr} {c : Nat} {L : List Spn} (h : Sps w A c L) (k : Nat) (hk : k ≤ L.length) : Sps w A c (L.take k) := by
  refine ⟨⟨tm_len _, fun e => ?_, ?_, h.rd.max, fun ad ha i u hu => ?_⟩, fun x hx => h.ats x (List.mem_of_mem_take hx)⟩
  · have := h.rd.none_ e
    exact ⟨by simp; omega, this.2⟩
  · have := h.rd.cap; simp; omega
  · refine h.rd.at_ ad ha i u ?_
    rw [← List.take_append_drop k L, List.flatMap_append]
    rw [List.getElem?_append_left (List.getElem?_eq_some_iff.1 hu).1]
    exact hu
/-- where 's[k:]' begins -/
def cutX (A : Option Addr) (c k : Nat) : Option Addr := if c = k then A else A.map (·.add (k * 10))
theorem sps_drop {w : World} {A : Option Addr} {c : Nat} {L : List Spn} (h : Sps w A c L) (k : Nat) (hk : k ≤ L.length) : Sps w (cutX A c k) (c - k) (L.drop k) := by
  have hc := h.rd.cap
  have hm := h.rd.max
  refine ⟨⟨tm_len _, fun ha => ?_, by simp; omega, by omega, fun ad ha i u hu => ?_⟩, fun x hx => h.ats x (List.mem_of_mem_drop hx)⟩
  · unfold cutX at ha
    split at ha
    · rename_i hck
      exact ⟨by simp; omega, by omega⟩
    · simp only [Option.map_eq_none_iff] at ha
      have := h.rd.none_ ha
      exact ⟨by simp; omega, by omega⟩
  · have hi := (List.getElem?_eq_some_iff.1 hu).1
    rw [tm_len, List.length_drop] at hi
    unfold cutX at ha
    rw [if_neg (by omega)] at ha
    cases hA : A with
    | none => rw [hA] at ha; cases ha
    | some a0 =>
      rw [hA] at ha
      simp only [Option.map_some, Option.some.injEq] at ha
      subst ha
      have ea : ∀ (a : Addr) (i j : Nat), (a.add i).add j = a.add (i + j) := fun a i j => by
        unfold Addr.add
        by_cases h1 : i = 0
        · subst h1; simp
        · by_cases h2 : j = 0
          · subst h2; simp [h1]
          · simp [h1, h2, Nat.add_assoc]
      rw [ea]
      refine h.rd.at_ a0 hA (k * 10 + i) _ ?_
      have e : L.flatMap ten = (L.take k).flatMap ten ++ (L.drop k).flatMap ten := by rw [← List.flatMap_append, List.take_append_drop]
      have e2 : ((L.take k).flatMap ten).length = k * 10 := by rw [tm_len]; simp; omega
      rw [e, List.getElem?_append_right (by omega), e2, show k * 10 + i - k * 10 = i by omega]
      exact hu
theorem tw_cut {α : Type} (p : α → Bool) : ∀ (l : List α) (k : Nat), k ≤ l.length → (∀ j (hj : j < l.length), j < k → p l[j] = true) → (∀ (h : k < l.length), p l[k] = false) → l.takeWhile p = l.take k ∧ l.dropWhile p = l.drop k
  | [], k, hk, _, _ => by simp
  | x :: l, 0, _, _, h2 => by
    have := h2 (by simp)
    simp only [List.getElem_cons_zero] at this
    simp [this]
  | x :: l, k + 1, hk, h1, h2 => by
    have hx := h1 0 (by simp) (by omega)
    simp only [List.getElem_cons_zero] at hx
    have ih := tw_cut p l k (by simpa using hk) (fun j hj hjk => by have := h1 (j + 1) (by simpa using hj) (by omega); simpa using this) (fun h => by have := h2 (by simpa using h); simpa using this)
    simp [hx, ih.1, ih.2]
theorem ins_cut (L : List Pn) (x : Pn) (k : Nat) (hk : k ≤ L.length) (h1 : ∀ j (hj : j < L.length), j < k → Kl L[j] x) (h2 : ∀ (h : k < L.length), ¬ Kl L[k] x) : ins L x = L.take k ++ [x] ++ L.drop k := by
  obtain ⟨e1, e2⟩ := tw_cut (fun y => decide (Kl y x)) L k hk (fun j hj hjk => decide_eq_true (h1 j hj hjk)) (fun h => decide_eq_false (h2 h))
  unfold ins
  rw [e1, e2]
  simp
/-- what put tells -/
def RpOut (w : World) (M : List Spn) (x : Spn) (R : List Pn) (e : Ending) (w' : World) : Prop := ∃ A' c' M', e = .returned (.slice A' R.length c') ∧ pns M' = R ∧ Sps w' A' c' M' ∧ Below w.heap.size w w' ∧ (∀ y ∈ M', y ∈ M ∨ y = x) ∧ ∀ a, A' = some a → w.heap.size ≤ a.block
theorem own_sps {w w0 : World} {B : Nat} {e : TypeId} {A : Option Addr} {n c : Nat} {M : List Spn} (h : w.ownsRow B e 10 (.slice A n c) n (M.flatMap ten)) (hn : M.length = n) (hb : Below w0.heap.size w0 w) (ha : ∀ y ∈ M, Ats w0 y.A y.c y.l) : Sps w A c M :=
  ⟨Rd.own (by rw [hn]; exact h), fun y hy => (ha y hy).below hb⟩
theorem pns_at {M : List Spn} {L : List Pn} (h : pns M = L) {k : Nat} (hk : k < M.length) (hkL : k < L.length) : L[k] = (M[k].s, M[k].l) := by
  subst h
  exact B07.pns_get M hk
theorem pns_cut {M : List Spn} {L : List Pn} (h : pns M = L) (y : Spn) (k : Nat) : pns (M.take k ++ [y] ++ M.drop k) = L.take k ++ [y.pn] ++ L.drop k := by
  subst h
  simp [pns, List.map_take, List.map_drop]
set_option maxRecDepth 20000 in
set_option maxHeartbeats 8000000 in
theorem rput15_at (A : Option Addr) (n c : Nat) (M : List Spn) (L : List Pn) (s : Sp) (A1 : Option Addr) (c1 m : Nat) (l : List At) (w : World) (h : Sps w A c M) (hn : M.length = n) (hL : pns M = L) (hA : Ats w A1 c1 l) (hm : l.length = m) (hr : ∀ x ∈ L, Okx x) (hm40 : m ≤ 40) (hno : ∀ x ∈ L, ¬ Ke x (s, l)) (hfew : n ≤ 400) :
    Calls Tryz.prog 37 #[.slice A n c, spv s (.slice A1 m c1)] w (RpOut w M ⟨s, A1, c1, l⟩ (ins L (s, l))) := by
  obtain ⟨i0, hi, hz0, hz1, hz2⟩ := info_parts rspan_info
  have bx : Bk (w.alloc (.cells (spc s (.slice A1 m c1)) 34)) w.heap.size 34 (spc s (.slice A1 m c1)) := Bk.new w _ _
  have b0 : Below w.heap.size w (w.alloc (.cells (spc s (.slice A1 m c1)) 34)) := (Below.refl _ _).alloc (Nat.le_refl _) _
  obtain ⟨X, hX⟩ : ∃ X, w.alloc (.cells (spc s (.slice A1 m c1)) 34) = X := ⟨_, rfl⟩
  obtain ⟨g, hg⟩ : ∃ g, w.heap.size = g := ⟨_, rfl⟩
  rw [hX] at bx b0
  rw [hg] at bx
  have HN := Lib.hid hn
  have HL := Lib.hid hL
  have HS := Lib.hid (h.below b0)
  have HA := Lib.hid (And.intro (hA.below b0) hm)
  have HO := Lib.hid (And.intro hr hno)
  have BX := Lib.hid bx
  have HB0 := Lib.hid b0
  have hLn : L.length = n := by rw [← hL, ← hn]; simp [pns]
  have HLn := Lib.hid hLn
  have hcap := h.rd.cap
  have hmax := h.rd.max
  rw [hn] at hcap
  clear h hn hL hA hm hr hno bx b0 hLn
  go_enter Tryz.func37, Tryz.ntmps37
  go_wp2_with fail
  (try rw [hX])
  (try rw [hg])
  go_loopw [5] (fun v wr => ∃ k : Nat, v = .int .i64 (k : Int) ∧ k ≤ n ∧ Hid (∀ j (hj : j < L.length), j < k → Kl L[j] (s, l)) ∧ Below X.heap.size X wr) (fun v _ => n - (intOf v).toNat)
  case atStart => exact ⟨0, rfl, Nat.zero_le _, Lib.hid (fun j hj h => by omega), Below.refl _ _⟩
  case round =>
    obtain ⟨k, rfl, hk, HK, hb⟩ := hrel
    obtain ⟨x0, x1, x2, x3, x4, x5, x6, x7, x8, x9⟩ := ten_cells (BX.out.below hb)
    have y2 : (0 : Int) ≤ (k : Int) := by omega
    have y3 : ((k : Int)).toNat = k := by omega
    have hdec : ∃ tb : Bool, (tb = true → ∃ h : k < L.length, Kl L[k] (s, l)) ∧ (tb = false → ∀ h : k < L.length, ¬ Kl L[k] (s, l)) ∧ (k < n → ∃ h : k < L.length, tb = decide (cp L[k] (s, l) < 0)) ∧ (¬ k < n → tb = false) := by
      by_cases hkn : k < n
      · have hkL : k < L.length := by rw [HLn.out]; exact hkn
        have hck := cp_key (HO.out.2 L[k] (List.getElem_mem hkL))
        refine ⟨decide (cp L[k] (s, l) < 0), fun e => ⟨hkL, hck.1 (of_decide_eq_true e)⟩, fun e _ hK => (of_decide_eq_false e) (hck.2 hK), fun _ => ⟨hkL, rfl⟩, fun e => absurd hkn e⟩
      · exact ⟨false, fun e => (by cases e), fun _ h => absurd h (by rw [HLn.out]; exact hkn), fun e => absurd e hkn, fun _ => rfl⟩
    obtain ⟨tb, ht1, ht2, ht3, ht4⟩ := hdec
    have HT1 := Lib.hid ht1
    have HT2 := Lib.hid ht2
    have HT3 := Lib.hid ht3
    have HT4 := Lib.hid ht4
    clear ht1 ht2 ht3 ht4
    go_wp2_with fail
    go_cut [19] from 7 to 21 (fun v wx => v = .bool tb ∧ Below wr.heap.size wr wx)
    case first =>
      by_cases hkn : k < n
      · have hkz : (k : Int) < (n : Int) := by omega
        obtain ⟨hkL, htb⟩ := HT3.out hkn
        have hkM : k < M.length := by rw [HN.out]; exact hkn
        obtain ⟨ad, pp, rfl, hpp, F⟩ := (HS.out.below hb).get hkM
        have hTs := (HS.out.below hb).ats _ (List.getElem_mem hkM)
        have hx := pns_at HL.out hkM hkL
        have h40 := (HO.out.1 _ (List.getElem_mem hkL)).r.few
        rw [hx] at htb h40
        generalize M[k] = y at *
        obtain ⟨s2, A2, c2, l2⟩ := y
        obtain ⟨m2, hm2⟩ : ∃ m2, l2.length = m2 := ⟨_, rfl⟩
        have TE := TenW.of F hm2
        have d0 := cell_regrown TE.c0
        have d1 := cell_regrown TE.c1
        have d2 := cell_regrown TE.c2
        have d3 := cell_regrown TE.c3
        have d4 := cell_regrown TE.c4
        have d5 := cell_regrown TE.c5
        have d6 := cell_regrown TE.c6
        have d7 := cell_regrown TE.c7
        have d8 := cell_regrown TE.c8
        have d9 := cell_regrown TE.c9
        have f0 := cell_regrown x0
        have f1 := cell_regrown x1
        have f2 := cell_regrown x2
        have f3 := cell_regrown x3
        have f4 := cell_regrown x4
        have f5 := cell_regrown x5
        have f6 := cell_regrown x6
        have f7 := cell_regrown x7
        have f8 := cell_regrown x8
        have f9 := cell_regrown x9
        obtain ⟨z, hz⟩ : ∃ z, cmpS s2 s l2 l = z := ⟨_, rfl⟩
        have htz : tb = decide (z < 0) := by rw [← hz]; exact htb
        have q1 : ∀ dd os, Calls Tryz.prog 36 #[spv s2 (.slice A2 m2 c2), spv s (.slice A1 m c1)] (Sort.grow (redrawn wr dd) os) fun e w'' => e = .returned (.int .i64 z) ∧ ∃ p : Regrown, w'' = Sort.grow (redrawn wr p.d) p.os := fun dd os => Calls.regrown_of (by
          have := refcmp_any s2 s A2 A1 c2 c1 l2 l m2 m (Sort.grow (redrawn wr dd) os) (hTs.below (below_regrown wr dd os)) ((HA.out.1.below hb).below (below_regrown wr dd os)) hm2 HA.out.2 (by rw [← hm2]; exact h40) hm40
          rw [hz] at this
          exact this)
        have HTZ := Lib.hid htz
        clear x0 x1 x2 x3 x4 x5 x6 x7 x8 x9 F hTs hx h40 htb TE hz hm2 htz
        refine wp_region_quiet_below (by kernel_rfl) (by kernel_rfl) ?_
        repeat (quiet_step (first | (with_reducible exact q1 _ _)))
        refine wpQuiet_nil ?_
        intro _ hw'
        obtain ⟨⟨dq, osq⟩, hw''⟩ := hw'
        subst hw''
        go_wp2_with fail
        go_meet
        exact ⟨by rw [HTZ.out], below_regrown wr dq osq⟩
      · have hkz : decide ((k : Int) < (n : Int)) = false := decide_eq_false (by omega)
        have htb := HT4.out hkn
        subst htb
        go_quiet (fail)
        go_wp2_with fail
        go_meet
        exact ⟨rfl, below_dn (Below.refl _ _) _⟩
    case rest =>
      obtain ⟨rfl, bw⟩ := hcut
      have hb2 := hb.trans (bw.mono hb.size)
      clear x0 x1 x2 x3 x4 x5 x6 x7 x8 x9 HT3 HT4 bw hb
      cases tb with
      | true =>
        obtain ⟨hkL, hKl⟩ := HT1.out rfl
        have hkn : k < n := by rw [← HLn.out]; exact hkL
        have HK2 := Lib.hid (show ∀ j (hj : j < L.length), j < k + 1 → Kl L[j] (s, l) from fun j hj h => by
          by_cases e : j = k
          · subst e; exact hKl
          · exact HK.out j hj (by omega))
        clear hKl HT1 HT2
        go_wp2
        go_roundw
        case rel => exact ⟨k + 1, by go_num, by omega, HK2, hb2⟩
        case measure => first | go_num | (simp [intOf]; omega)
      | false =>
        have hins := ins_cut L (s, l) k (by rw [HLn.out]; exact hk) HK.out (HT2.out rfl)
        have HI := Lib.hid hins
        have htk := sps_take (HS.out.below hb2) k (by rw [HN.out]; exact hk)
        have hdk := sps_drop (HS.out.below hb2) k (by rw [HN.out]; exact hk)
        have htl : (M.take k).length = k := by rw [List.length_take, HN.out]; omega
        have hdl : (M.drop k).length = n - k := by rw [List.length_drop, HN.out]
        have bE : Below wc.heap.size wc (wc.alloc (.cells #[] 34)) := (Below.refl _ _).alloc (Nat.le_refl _) _
        have own0 : (wc.alloc (.cells #[] 34)).ownsRow wc.heap.size 34 10 (.slice (some ⟨wc.heap.size, 0, none⟩) 0 0) 0 [] := World.ownsRow_lit (base := wc.heap.size) (size := 10) wc #[] 0 (Nat.le_refl _) (by unfold maxLen; omega) rfl
        have ht1 := (htk.below bE).rd
        rw [htl] at ht1
        have dA1 : 0 + k ≤ maxLen := by unfold maxLen; omega
        have dA2 : (0 + k) * 112 ≤ 140737488355328 := by omega
        have dA3 : wc.heap.size ≤ (wc.alloc (.cells #[] 34)).heap.size := bE.size
        have hio := tm_one (M.take k)
        have hkc : k ≤ c := by omega
        have HD := Lib.hid (And.intro hdk hdl)
        clear hins htk hdk hdl HT1 HT2 HK
        go_wp2_with (at_builtin; refine wpList_append_rd _ rfl (.tmp 22) (.tmp 25) 29 rfl wc.heap.size 34 i0 _ 10 112 Tryz.underlying29 hi hz0 hz1 hz2 rfl (by decide) (.slice (some ⟨wc.heap.size, 0, none⟩) 0 0) 0 [] rfl own0 A k c ((M.take k).flatMap ten) rfl ht1 hio dA1 dA2 dA3 ?_)
        intro B3 d3 w3 own3 hg3
        have b3 : Below wc.heap.size wc w3 := bE.grown hg3 dA3 (fun i hi => (own0.lt i hi).1)
        have hB3 := hb2.trans (b3.mono hb2.size)
        obtain ⟨x0, x1, x2, x3, x4, x5, x6, x7, x8, x9⟩ := ten_cells (BX.out.below hB3)
        have bL : Below w3.heap.size w3 (w3.alloc (.cells (spc s (.slice A1 m c1)) 34)) := (Below.refl _ _).alloc (Nat.le_refl _) _
        have own4 := own_below own3 bL
        have hlit := B07.Rd.lit10 w3 34 ⟨s, A1, c1, l⟩
        have hx10 : tenA ⟨s, A1, c1, l⟩ = spc s (.slice A1 m c1) := by unfold B07.tenA; dsimp only; rw [HA.out.2]
        rw [hx10] at hlit
        have hbx : Below wc.heap.size wc (w3.alloc (.cells (spc s (.slice A1 m c1)) 34)) := b3.trans (bL.mono b3.size)
        have dB1 : 0 + k + 1 ≤ maxLen := by unfold maxLen; omega
        have dB2 : (0 + k + 1) * 112 ≤ 140737488355328 := by omega
        have dB3 := hbx.size
        have hic := ten_one ⟨s, A1, c1, l⟩
        have HBX := Lib.hid hbx
        clear own0 ht1 dA1 dA2 dA3 hio hg3 bE own3 hx10
        clear b3
        simp only [Nat.zero_add] at own4 dB1 dB2
        go_wp2_with (at_builtin; refine wpList_append_rd _ rfl (.tmp 27) (.tmp 29) 29 rfl wc.heap.size 34 i0 _ 10 112 Tryz.underlying29 hi hz0 hz1 hz2 rfl (by decide) (.slice B3 k d3) k ([] ++ (M.take k).flatMap ten) rfl own4 (some ⟨w3.heap.size, 0, none⟩) 1 1 (ten ⟨s, A1, c1, l⟩) rfl hlit hic dB1 dB2 dB3 ?_)
        intro B5 d5 w5 own5 hg5
        have b5 : Below wc.heap.size wc w5 := HBX.out.grown hg5 dB3 (fun i hi => (own4.lt i hi).1)
        have hr5 := (HD.out.1.below b5).rd
        rw [HD.out.2] at hr5
        have dC1 : k + 1 + (n - k) ≤ maxLen := by unfold maxLen; omega
        have dC2 : (k + 1 + (n - k)) * 112 ≤ 140737488355328 := by omega
        have dC3 := b5.size
        have hio := tm_one (M.drop k)
        have HFin := Lib.hid (show ∀ A' c' w', w'.ownsRow wc.heap.size 34 10 (.slice A' (k + 1 + (n - k)) c') (k + 1 + (n - k)) ((M.take k).flatMap ten ++ (ten ⟨s, A1, c1, l⟩ ++ (M.drop k).flatMap ten)) → Below wc.heap.size wc w' → RpOut w M ⟨s, A1, c1, l⟩ (ins L (s, l)) (.returned (.slice A' (k + 1 + (n - k)) c')) w' from fun A' c' w' hrow hbw => by
          have hMl : (M.take k ++ [(⟨s, A1, c1, l⟩ : Spn)] ++ M.drop k).length = k + 1 + (n - k) := by
            simp only [List.length_append, List.length_take, List.length_drop, List.length_singleton, HN.out]
            omega
          have hBw : Below X.heap.size X w' := hb2.trans (hbw.mono hb2.size)
          refine ⟨A', c', M.take k ++ [⟨s, A1, c1, l⟩] ++ M.drop k, ?_, by rw [pns_cut HL.out, HI.out]; rfl, ⟨Rd.own (by rw [hMl]; simpa using hrow), fun y hy => ?_⟩, HB0.out.trans (hBw.mono HB0.out.size), fun y hy => ?_, fun a ha => Nat.le_trans (Nat.le_trans HB0.out.size hb2.size) (hrow.lt a.block (by rw [ha]; rfl)).1⟩
          · rw [HI.out]
            simp only [List.length_append, List.length_take, List.length_drop, List.length_singleton, HLn.out]
            rw [show min k n = k by omega]
          · rcases List.mem_append.1 hy with hy | hy
            · rcases List.mem_append.1 hy with hy | hy
              · exact (HS.out.ats y (List.mem_of_mem_take hy)).below hBw
              · rw [List.mem_singleton.1 hy]; exact HA.out.1.below hBw
            · exact (HS.out.ats y (List.mem_of_mem_drop hy)).below hBw
          · rcases List.mem_append.1 hy with hy | hy
            · rcases List.mem_append.1 hy with hy | hy
              · exact .inl (List.mem_of_mem_take hy)
              · exact .inr (List.mem_singleton.1 hy)
            · exact .inl (List.mem_of_mem_drop hy))
        clear hlit hic dB1 dB2 dB3 bL hbx own4 hg5 HBX x0 x1 x2 x3 x4 x5 x6 x7 x8 x9 hB3
        by_cases hck : c = k
        · have hr6 : Rd 10 w5 A (n - k) (c - k) ((M.drop k).flatMap ten) := by
            have h := hr5
            unfold cutX at h
            rw [if_pos hck] at h
            exact h
          have hnk : n - k = 0 := by omega
          have hck0 : c - k = 0 := by omega
          rw [hnk, hck0] at hr6
          rw [hnk] at HFin dC1 dC2
          clear hr5
          go_wp2_with (at_builtin; refine wpList_append_rd _ rfl (.tmp 31) (.tmp 34) 29 rfl wc.heap.size 34 i0 _ 10 112 Tryz.underlying29 hi hz0 hz1 hz2 rfl (by decide) (.slice B5 (k + 1) d5) (k + 1) _ rfl own5 A 0 0 ((M.drop k).flatMap ten) rfl hr6 hio dC1 dC2 dC3 ?_)
          intro B7 d7 w7 own7 hg7
          have b7 : Below wc.heap.size wc w7 := b5.grown hg7 dC3 (fun i hi => (own5.lt i hi).1)
          have F := Lib.hid (HFin.out B7 d7 w7 own7 b7)
          clear own5 own7 hg7 b7 b5 HFin
          go_wp2
          go_ret
          exact F.out
        · have hr6 : Rd 10 w5 (A.map (·.add (k * 10))) (n - k) (c - k) ((M.drop k).flatMap ten) := by
            have h := hr5
            unfold cutX at h
            rw [if_neg hck] at h
            exact h
          have hckz : ¬ (c : Int) = (k : Int) := by omega
          clear hr5
          go_wp2_with (at_builtin; refine wpList_append_rd _ rfl (.tmp 31) (.tmp 34) 29 rfl wc.heap.size 34 i0 _ 10 112 Tryz.underlying29 hi hz0 hz1 hz2 rfl (by decide) (.slice B5 (k + 1) d5) (k + 1) _ rfl own5 (A.map (·.add (k * 10))) (n - k) (c - k) ((M.drop k).flatMap ten) rfl hr6 hio dC1 dC2 dC3 ?_)
          intro B7 d7 w7 own7 hg7
          have b7 : Below wc.heap.size wc w7 := b5.grown hg7 dC3 (fun i hi => (own5.lt i hi).1)
          have F := Lib.hid (HFin.out B7 d7 w7 own7 b7)
          clear own5 own7 hg7 b7 b5 HFin
          go_wp2
          go_ret
          exact F.out
end Go.Proofs.YtdmibolbpgondaaGreat.X15
end

section
set_option linter.unusedSimpArgs false
set_option linter.unusedVariables false
namespace Go.Proofs.YtdmibolbpgondaaGreat.X15
open Go.Proofs.YtdmibolbpgondaaGreat.P06
open Go.Proofs.YtdmibolbpgondaaGreat.B07 (Pn OkN OkA OkP)
open Go.Proofs.YtdmibolbpgondaaGreat.U12 (It Lt)
theorem mem_tk {α : Type} {L : List α} {k : Nat} {x : α} (h : x ∈ L.take k) : ∃ i, ∃ hi : i < L.length, i < k ∧ L[i] = x := by
  obtain ⟨i, hi, he⟩ := List.mem_iff_getElem.1 h
  rw [List.length_take] at hi
  rw [List.getElem_take] at he
  exact ⟨i, by omega, by omega, he⟩
/-- without these traces -/
def rems (L : List Pn) : List Nat → List Pn
  | [] => L
  | t :: ts => rems (rest L t) ts
theorem rems_app (L : List Pn) (ts us : List Nat) : rems L (ts ++ us) = rems (rems L ts) us := by
  induction ts generalizing L with
  | nil => rfl
  | cons t ts ih => exact ih _
theorem mem_rems {L : List Pn} {ts : List Nat} {x : Pn} : x ∈ rems L ts ↔ x ∈ L ∧ tn x ∉ ts := by
  induction ts generalizing L with
  | nil => simp [rems]
  | cons t ts ih =>
    rw [rems, ih, mem_rest]
    simp only [List.mem_cons, not_or]
    constructor
    · rintro ⟨⟨a, b⟩, c⟩; exact ⟨a, b, c⟩
    · rintro ⟨a, b, c⟩; exact ⟨⟨a, b⟩, c⟩
theorem rems_trace {L : List Pn} {ts : List Nat} {t : Nat} (h : t ∉ ts) : trace (rems L ts) t = trace L t := by
  induction ts generalizing L with
  | nil => rfl
  | cons u ts ih =>
    simp only [List.mem_cons, not_or] at h
    rw [rems, ih h.2, trace_rest_other h.1]
theorem rems_so {L : List Pn} (h : So L) (ts : List Nat) : So (rems L ts) := by
  induction ts generalizing L with
  | nil => exact h
  | cons t ts ih => exact ih (rest_so h t)
theorem rems_len (L : List Pn) (ts : List Nat) : (rems L ts).length ≤ L.length := by
  induction ts generalizing L with
  | nil => exact Nat.le_refl _
  | cons t ts ih =>
    have := ih (rest L t)
    have := part_len L t
    rw [rems]
    omega
theorem rems_step {L : List Pn} {ts : List Nat} {k : Nat} (h : k < ts.length) : rems L (ts.take (k + 1)) = rest (rems L (ts.take k)) ts[k] := by
  rw [List.take_succ_eq_append_getElem h, rems_app]
  rfl
theorem rems_all {L : List Pn} {ts : List Nat} (h : ∀ t, t ∈ trs L → t ∈ ts) : rems L ts = [] := by
  refine List.eq_nil_iff_forall_not_mem.2 fun x hx => ?_
  obtain ⟨h1, h2⟩ := mem_rems.1 hx
  exact h2 (h _ (mem_trs.2 ⟨x, h1, rfl⟩))
theorem rems_in {L : List Pn} {ts : List Nat} {t : Nat} (h : t ∈ trs L) (hn : t ∉ ts) : t ∈ trs (rems L ts) := by
  rw [trs_trace, rems_trace hn]
  exact trs_trace.1 h
/-- all of a list's traces, by their deadlines -/
abbrev als (G : Nat) (L : List Pn) : List Nat := (dqs G L).map (·.1)
theorem als_len (G : Nat) (L : List Pn) : (als G L).length = (trs L).length := by rw [List.length_map, dqs_len]
theorem als_nodup (G : Nat) (L : List Pn) : (als G L).Nodup := dqs_nodup G L
theorem mem_als {G : Nat} {L : List Pn} {t : Nat} : t ∈ als G L ↔ t ∈ trs L := by
  rw [List.mem_map]
  constructor
  · rintro ⟨y, hy, rfl⟩
    obtain ⟨u, hu, rfl⟩ := mem_dqs.1 hy
    exact hu
  · intro h
    exact ⟨_, mem_dqs.2 ⟨t, h, rfl⟩, rfl⟩
theorem due_als {G : Nat} {L : List Pn} {m : Nat} (h : ∀ t ∈ trs L, dl G L t ≤ m) : due G L m = als G L := by
  unfold due U12.due
  rw [List.filter_eq_self.2]
  intro x hx
  obtain ⟨t, ht, rfl⟩ := mem_dqs.1 hx
  simpa using h t ht
theorem due_len (G : Nat) (L : List Pn) (m : Nat) : (due G L m).length ≤ (als G L).length := by
  unfold due U12.due
  rw [List.length_map, List.length_map]
  exact List.length_filter_le _ _
theorem tw_len {α : Type} (p : α → Bool) : ∀ (l : List α) (i : Nat) (h : i < l.length) , (l.Pairwise fun a b => p b = true → p a = true) → (i < (l.takeWhile p).length ↔ p l[i] = true)
  | [], _, h, _ => by simp at h
  | x :: l, i, h, hs => by
    have h1 := List.pairwise_cons.1 hs
    by_cases hx : p x = true
    · rw [List.takeWhile_cons_of_pos hx]
      cases i with
      | zero => simp [hx]
      | succ i =>
        have := tw_len p l i (by simpa using h) h1.2
        simpa using this
    · rw [List.takeWhile_cons_of_neg hx]
      cases i with
      | zero => simp [hx]
      | succ i =>
        have hi : i < l.length := by simpa using h
        have : ¬ p l[i] = true := fun e => hx (h1.1 _ (List.getElem_mem hi) e)
        simp [this]
theorem due_iff (G : Nat) (L : List Pn) (m : Nat) {i : Nat} (h : i < (als G L).length) : i < (due G L m).length ↔ dl G L (als G L)[i] ≤ m := by
  have hd : i < (dqs G L).length := by simpa using h
  have hs := dqs_sorted G L
  have hx := mem_dqs.1 (List.getElem_mem hd)
  obtain ⟨t, ht, e⟩ := hx
  have e1 : (als G L)[i] = t := by rw [List.getElem_map, e]
  have := tw_len (fun x : It => decide (x.2 ≤ m)) (dqs G L) i hd (hs.imp fun {a b} hl => by
    intro h
    have h := of_decide_eq_true h
    unfold Lt at hl
    exact decide_eq_true (by omega))
  unfold due
  rw [List.length_map, U12.due_take hs, this, e1, e]
  simp
theorem due_get (G : Nat) (L : List Pn) (m : Nat) {i : Nat} (h : i < (due G L m).length) : (due G L m)[i] = (als G L)[i]'(Nat.lt_of_lt_of_le h (due_len G L m)) := by
  have hs := dqs_sorted G L
  have key : ∀ (l : List It) (p : It → Bool) (i : Nat) (h : i < (l.takeWhile p).length), (l.takeWhile p)[i] = l[i]'(Nat.lt_of_lt_of_le h (List.takeWhile_prefix p).length_le) := fun l p i h => by
    have := List.takeWhile_prefix (l := l) p
    exact this.getElem h
  unfold due at h ⊢
  simp only [U12.due_take hs] at h ⊢
  rw [List.length_map] at h
  simp only [List.getElem_map, key (dqs G L) _ i h]
theorem dl_le {L : List Pn} (hok : ∀ x ∈ L, Okx x) (t : Nat) : mx (trace L t) ≤ MT := by
  by_cases e : trace L t = []
  · rw [e]; exact Nat.zero_le _
  · obtain ⟨x, h1, h2⟩ := mx_in e
    rw [← h2]
    exact (hok x (mem_trace.1 h1).1).en.2
/-- the spans of a trace: their IDs rise -/
theorem trace_ids {L : List Pn} (h : So L) (hok : ∀ x ∈ L, Okx x) (t : Nat) {i j : Nat} (hij : i < j) (hj : j < (trace L t).length) : idn ((trace L t)[i]'(by omega)) < idn (trace L t)[j] := by
  have h1 := List.pairwise_iff_getElem.1 (trace_so h t) i j (by omega) hj hij
  have a := mem_trace.1 (List.getElem_mem (show i < (trace L t).length by omega))
  have b := mem_trace.1 (List.getElem_mem hj)
  have ka := (hok _ a.1).tn.1
  have kb := (hok _ b.1).tn.1
  have ia := (hok _ a.1).idn.1
  have ib := (hok _ b.1).idn.1
  rw [a.2] at ka
  rw [b.2] at kb
  unfold Kl at h1
  omega
theorem mx_take {X : List Pn} {k : Nat} (h : k < X.length) : mx (X.take (k + 1)) = max (mx (X.take k)) (en X[k]) := by
  rw [List.take_succ_eq_append_getElem h, mx_app]
  simp [mx]
end Go.Proofs.YtdmibolbpgondaaGreat.X15
end
