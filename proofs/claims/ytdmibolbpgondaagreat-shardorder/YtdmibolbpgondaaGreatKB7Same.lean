/-
  Lists of spans: as the program's, as the document's; whether two are the same.
-/
import Derived.Test.YtdmibolbpgondaaGreatKB7Ten
import Derived.Test.YtdmibolbpgondaaGreatKQ7Base
set_option linter.unusedSimpArgs false
set_option linter.unusedVariables false
namespace Go.Proofs.YtdmibolbpgondaaGreat.B07
open Go.RowKit Go.Lib Go.Maps Go.Proofs.YtdmibolbpgondaaGreat.Wd Go.Proofs.YtdmibolbpgondaaGreat.V04 Go.Proofs.YtdmibolbpgondaaGreat.P06 Go.Proofs.YtdmibolbpgondaaGreat.Q07

/-- where the loop is -/
structure ofsR (w : World) (L : List Spn) (k : Nat) (A' : Option Addr) (c' : Nat) (M : List Spn) (wr : World) : Prop where
  own : OwnS w.heap.size 45 wr A' c' M
  len : M.length = k
  pn : pns M = pns (L.take k)
  bel : Below w.heap.size w wr
/-- what it leaves -/
def ofsOut (w : World) (L : List Spn) (n : Nat) (e : Ending) (w' : World) : Prop := ∃ A' c' M, e = .returned (.slice A' n c') ∧ M.length = n ∧ pns M = pns L ∧ OwnS w.heap.size 45 w' A' c' M ∧ Below w.heap.size w w'

/-- where the loop is -/
structure tosR (w : World) (L : List Spn) (k : Nat) (A' : Option Addr) (c' : Nat) (M : List Spn) (wr : World) : Prop where
  own : OwnS w.heap.size 34 wr A' c' M
  len : M.length = k
  pn : pns M = pns (L.take k)
  bel : Below w.heap.size w wr
/-- what it leaves -/
def tosOut (w : World) (L : List Spn) (n : Nat) (e : Ending) (w' : World) : Prop := ∃ A' c' M, e = .returned (.slice A' n c') ∧ M.length = n ∧ pns M = pns L ∧ OwnS w.heap.size 34 w' A' c' M ∧ Below w.heap.size w w'

set_option maxRecDepth 20000 in
set_option maxHeartbeats 2000000 in
theorem tos_any (w : World) (A : Option Addr) (c n : Nat) (L : List Spn) (h : Sps w A c L) (hn : L.length = n) (hm : n ≤ 1100) (h40 : ∀ x ∈ L, x.l.length ≤ 40) : Calls Tryz.prog 15 #[.slice A n c] w (tosOut w L n) := by
  obtain ⟨i0, hi, hz0, hz1, hz2⟩ := info_parts rspan_info
  have HN := Lib.hid hn
  have hR0 : tosR w L 0 none 0 [] w := ⟨OwnS.nil _ _ _, rfl, rfl, Below.refl _ _⟩
  clear hn
  go_enter Tryz.func15, Tryz.ntmps15
  go_wp2_with fail
  go_loopw [3, 4] (fun v i wr => ∃ (k : Nat) (A' : Option Addr) (c' : Nat) (M : List Spn), v = .slice A' k c' ∧ i = .int .i64 (k : Nat) ∧ k ≤ n ∧ tosR w L k A' c' M wr) (fun _ i _ => n - (intOf i).toNat)
  case atStart => exact ⟨0, none, 0, [], rfl, rfl, Nat.zero_le _, hR0⟩
  case round =>
    clear hR0
    obtain ⟨k, A', c', M, rfl, rfl, hk, R⟩ := hrel
    by_cases hlt : k < n
    · have hltz : (k : Int) < (n : Int) := by omega
      have hkl : k < L.length := by rw [un HN]; exact hlt
      obtain ⟨ad, p, rfl, hp, F⟩ := (h.below R.bel).get hkl
      have hA := (h.below R.bel).ats _ (List.getElem_mem hkl)
      have h4 := h40 _ (List.getElem_mem hkl)
      have htk : pns (L.take (k + 1)) = pns (L.take k) ++ [L[k].pn] := by unfold pns; rw [← List.take_append_getElem hkl, List.map_append]; rfl
      obtain ⟨⟨s, A1, c1, l⟩, hL⟩ : ∃ x, L[k] = x := ⟨_, rfl⟩
      rw [hL] at F hA h4 htk
      dsimp only at hA h4
      have e0 := F.c0
      have e1 := F.c1
      have e2 := F.c2
      have e3 := F.c3
      have e4 := F.c4
      have e5 := F.c5
      have e6 := F.c6
      have e7 := F.c7
      have e8 := F.c8
      have e9 := F.c9
      dsimp only at e0 e1 e2 e3 e4 e5 e6 e7 e8 e9
      obtain ⟨m, hml⟩ : ∃ m, l.length = m := ⟨_, rfl⟩
      rw [hml] at e9 h4
      have hof := Q07.to_at s A1 c1 m l wr hA hml h4
      have HR := Lib.hid R
      have HM := Lib.hid hml
      have HT := Lib.hid htk
      have hwr := R.bel.size
      clear R F hA hL hml htk
      go_wp2_with fail
      refine hof.mono ?_
      rintro x w3 ⟨A2, c2, rfl, hd, b3⟩
      have own3 := HR.out.own.below b3
      have hrow3 : w3.ownsRow w.heap.size 34 10 (.slice A' k c') k (M.flatMap ten) := by have := own3.row; rw [HR.out.len] at this; exact this
      have hx10 : spc s (.slice A2 m c2) = tenA ⟨s, A2, c2, l⟩ := by unfold tenA; rw [HM.out]
      have bx := below_box w3 (.cells (spc s (.slice A2 m c2)) 34) (Nat.le_refl _)
      have hrow4 := own_below hrow3 bx
      have bb3 := HR.out.bel.trans (b3.mono HR.out.bel.size)
      have bb4 := bb3.trans (bx.mono bb3.size)
      have hlit := Rd.lit10 w3 34 ⟨s, A2, c2, l⟩
      rw [← hx10] at hlit
      have hxa : ∀ a, A' = some a → ∀ a', A2 = some a' → a'.block ≠ a.block := fun a e a' e' hc => by
        have h1 := (B07.Hd.lt hd a' e').1
        have h2 := (HR.out.own.row.lt a.block (by rw [e]; rfl)).2
        omega
      have hd' := hd.low (B' := w.heap.size) hwr
      have hsz := bb4.size
      have O3 := Lib.hid own3
      have BX := Lib.hid bx
      have HD := Lib.hid hd'
      have HX := Lib.hid hxa
      have B4 := Lib.hid bb4
      clear hof b3 own3 hrow3 bx bb3 bb4 hd hd' hxa hx10 e0 e1 e2 e3 e4 e5 e6 e7 e8 e9
      go_wp2_with (at_builtin; refine wpList_append_ten _ rfl (.tmp 11) (.tmp 17) 29 rfl w.heap.size 34 i0 _ 112 Tryz.underlying29 hi hz0 hz1 hz2 rfl _ k (M.flatMap ten) rfl hrow4 _ ⟨s, A2, c2, l⟩ rfl hlit ?d1 ?d2 ?d3 ?_)
      case d1 => unfold maxLen; omega
      case d2 => omega
      case d3 => exact hsz
      intro A6 c6 w6 hrow6 hg6 hat6
      have hR6 : tosR w L (k + 1) A6 c6 (M ++ [⟨s, A2, c2, l⟩]) w6 := by
        have hne : ∀ q, (Value.slice A' k c').ownBlock = some q → w.heap.size ≤ q := fun q hq => (hrow4.lt q hq).1
        refine ⟨?_, by simp [HR.out.len], ?_, B4.out.grown hg6 B4.out.size hne⟩
        · exact O3.out.app (x := ⟨s, A2, c2, l⟩) HD.out HX.out BX.out (by rw [HR.out.len]; exact hrow6) (by rw [HR.out.len]; exact hg6) (by rw [HR.out.len]; simpa using hat6)
        · rw [HT.out, ← HR.out.pn]
          simp [pns, Spn.pn]
      clear hrow6 hg6 hat6 HR hrow4 hlit O3 BX HD HX B4 HM HT
      go_wp2
      go_roundw
      case rel => exact ⟨k + 1, A6, c6, _, rfl, by go_num, by omega, hR6⟩
      case measure => first | go_num | (simp [intOf]; omega)
    · have hltz : ¬ ((k : Int) < (n : Int)) := by omega
      have hkn : k = n := by omega
      subst hkn
      have HR := Lib.hid R
      clear R
      go_wp2
      go_ret
      refine ⟨A', c', M, rfl, HR.out.len, ?_, HR.out.own, HR.out.bel⟩
      rw [HR.out.pn, List.take_of_length_le (by rw [un HN]; exact Nat.le_refl _)]

theorem orL_zero : ∀ (l : List Int), orL l = 0 → ∀ x ∈ l, x = 0
  | [], _, _, h => by cases h
  | y :: l, h, x, hx => by
    unfold orL at h
    by_cases hy : y = 0
    · rw [hy] at h
      simp only [ne_eq, not_true_eq_false, if_false] at h
      rcases List.mem_cons.1 hx with rfl | hx
      · exact hy
      · exact orL_zero l h x hx
    · rw [if_pos hy] at h
      exact absurd h hy
theorem cmpL_zero : ∀ (l m : List At), P06.cmpL l m = 0 → l = m
  | [], [], _ => rfl
  | [], y :: m, h => by simp [P06.cmpL] at h
  | x :: l, [], h => by simp [P06.cmpL] at h
  | x :: l, y :: m, h => by
    have e : P06.cmpL (x :: l) (y :: m) = if cmpA x y ≠ 0 then cmpA x y else P06.cmpL l m := rfl
    rw [e] at h
    by_cases h0 : cmpA x y = 0
    · rw [h0] at h
      simp only [ne_eq, not_true_eq_false, if_false] at h
      have hz := orL_zero _ h0
      simp only [List.mem_cons, List.not_mem_nil, or_false, forall_eq_or_imp, forall_eq] at hz
      obtain ⟨h1, h2⟩ := hz
      obtain ⟨e1, e2, e3⟩ := cmpV_zero h2
      have hk : x.key = y.key := ByteArray.ext (Array.toList_inj.1 (cb_zero _ _ h1))
      obtain ⟨k1, K1, N1, S1⟩ := x
      obtain ⟨k2, K2, N2, S2⟩ := y
      dsimp only at e1 e2 e3 hk
      subst e1 e2 e3 hk
      rw [cmpL_zero l m h]
    · rw [if_pos h0] at h
      exact absurd h h0
theorem cmp_same {s s2 : Sp} {l m : List At} : cmpS s s2 l m = 0 ↔ s = s2 ∧ l = m := by
  constructor
  · intro h
    unfold cmpS at h
    have hf : orL (fieldsL s s2) = 0 := by
      by_cases h0 : orL (fieldsL s s2) = 0
      · exact h0
      · rw [if_pos h0] at h; exact absurd h h0
    rw [hf] at h
    simp only [ne_eq, not_true_eq_false, if_false] at h
    have hz := orL_zero _ hf
    have hb : ∀ a b : ByteArray, compareBytes a.data.toList b.data.toList = 0 → a = b := fun a b hab => ByteArray.ext (Array.toList_inj.1 (cb_zero _ _ hab))
    refine ⟨?_, cmpL_zero l m h⟩
    obtain ⟨T, I, P, sv, nm, kd, st, t0, t1⟩ := s
    obtain ⟨T', I', P', sv', nm', kd', st', t0', t1'⟩ := s2
    simp only [fieldsL, List.mem_cons, List.not_mem_nil, or_false, forall_eq_or_imp, forall_eq] at hz
    obtain ⟨h1, h2, h3, h4, h5, h6, h7, h8, h9⟩ := hz
    rw [V04.ci_zero h1, V04.ci_zero h2, V04.ci_zero h3, hb _ _ h4, hb _ _ h5, V04.ci_zero h6, V04.ci_zero h7, V04.ci_zero h8, V04.ci_zero h9]
  · rintro ⟨rfl, rfl⟩
    exact Q07.cmpS_self s l
set_option maxRecDepth 20000 in
set_option maxHeartbeats 4000000 in
theorem sames_any (w : World) (A B : Option Addr) (c d n k2 : Nat) (L M : List Spn) (r : Bool) (h : Sps w A c L) (h2 : Sps w B d M) (hn : L.length = n) (hn2 : M.length = k2) (hm : n ≤ 1100) (hm2 : k2 ≤ 9223372036854775807) (h40 : ∀ x ∈ L, x.l.length ≤ 40) (h402 : ∀ x ∈ M, x.l.length ≤ 40) (hr : r = true ↔ pns L = pns M) :
    Calls Tryz.prog 14 #[.slice A n c, .slice B k2 d] w fun e w' => e = .returned (.bool r) ∧ Below w.heap.size w w' := by
  by_cases hne : n = k2
  · subst hne
    have HN := Lib.hid hn
    have HN2 := Lib.hid hn2
    have HR := Lib.hid hr
    clear hn hn2 hr
    go_enter Tryz.func14, Tryz.ntmps14
    go_wp2_with fail
    go_loopw [5] (fun v wr => ∃ k : Nat, v = .int .i64 k ∧ k ≤ n ∧ Below w.heap.size w wr ∧ Hid (pns (L.take k) = pns (M.take k))) (fun v _ => n - (intOf v).toNat)
    case atStart => exact ⟨0, rfl, Nat.zero_le _, Below.refl _ _, Lib.hid rfl⟩
    case round =>
      obtain ⟨k, rfl, hk, bw, HI⟩ := hrel
      by_cases hlt : k < n
      · have hltz : (k : Int) < (n : Int) := by omega
        have hkl : k < L.length := by rw [un HN]; exact hlt
        have hkm : k < M.length := by rw [un HN2]; exact hlt
        obtain ⟨ad, p, rfl, hp, F⟩ := (h.below bw).get hkl
        obtain ⟨bd, q, rfl, hq, G⟩ := (h2.below bw).get hkm
        have hA := (h.below bw).ats _ (List.getElem_mem hkl)
        have hB := (h2.below bw).ats _ (List.getElem_mem hkm)
        have h4 := h40 _ (List.getElem_mem hkl)
        have h42 := h402 _ (List.getElem_mem hkm)
        have ht1 : pns (L.take (k + 1)) = pns (L.take k) ++ [L[k].pn] := by unfold pns; rw [← List.take_append_getElem hkl, List.map_append]; rfl
        have ht2 : pns (M.take (k + 1)) = pns (M.take k) ++ [M[k].pn] := by unfold pns; rw [← List.take_append_getElem hkm, List.map_append]; rfl
        have hdf : L[k].pn ≠ M[k].pn → pns L ≠ pns M := fun hne he => hne (by
          have := congrArg (fun z => z[k]?) he
          simpa [pns, hkl, hkm] using this)
        obtain ⟨⟨s, A1, c1, l⟩, hL⟩ : ∃ x, L[k] = x := ⟨_, rfl⟩
        obtain ⟨⟨s2, A2, c2, l2⟩, hL2⟩ : ∃ x, M[k] = x := ⟨_, rfl⟩
        rw [hL] at F hA h4 ht1 hdf
        rw [hL2] at G hB h42 ht2 hdf
        dsimp only at hA h4 hB h42
        obtain ⟨m, hml⟩ : ∃ m, l.length = m := ⟨_, rfl⟩
        obtain ⟨m2, hml2⟩ : ∃ m, l2.length = m := ⟨_, rfl⟩
        obtain ⟨b, hb⟩ : ∃ b, b = decide (cmpS s s2 l l2 = 0) := ⟨_, rfl⟩
        have hS := fun (W : World) (hW : Below wr.heap.size wr W) => Q07.same_any s s2 A1 A2 c1 c2 l l2 m m2 b W (hA.below hW) (hB.below hW) hml hml2 (by omega) (by omega) hb
        have hcells : wr.drew.cell? p = some (.int .u64 s.T) ∧ wr.drew.cell? ⟨p.block, p.off + 1, none⟩ = some (.int .u64 s.I) ∧ wr.drew.cell? ⟨p.block, p.off + 2, none⟩ = some (.int .u64 s.P) ∧ wr.drew.cell? ⟨p.block, p.off + 3, none⟩ = some (.string s.sv) ∧ wr.drew.cell? ⟨p.block, p.off + 4, none⟩ = some (.string s.nm) ∧ wr.drew.cell? ⟨p.block, p.off + 5, none⟩ = some (.int .i64 s.kd) ∧ wr.drew.cell? ⟨p.block, p.off + 6, none⟩ = some (.int .i64 s.st) ∧ wr.drew.cell? ⟨p.block, p.off + 7, none⟩ = some (.int .u64 s.t0) ∧ wr.drew.cell? ⟨p.block, p.off + 8, none⟩ = some (.int .u64 s.t1) ∧ wr.drew.cell? ⟨p.block, p.off + 9, none⟩ = some (.slice A1 m c1) ∧ wr.drew.cell? q = some (.int .u64 s2.T) ∧ wr.drew.cell? ⟨q.block, q.off + 1, none⟩ = some (.int .u64 s2.I) ∧ wr.drew.cell? ⟨q.block, q.off + 2, none⟩ = some (.int .u64 s2.P) ∧ wr.drew.cell? ⟨q.block, q.off + 3, none⟩ = some (.string s2.sv) ∧ wr.drew.cell? ⟨q.block, q.off + 4, none⟩ = some (.string s2.nm) ∧ wr.drew.cell? ⟨q.block, q.off + 5, none⟩ = some (.int .i64 s2.kd) ∧ wr.drew.cell? ⟨q.block, q.off + 6, none⟩ = some (.int .i64 s2.st) ∧ wr.drew.cell? ⟨q.block, q.off + 7, none⟩ = some (.int .u64 s2.t0) ∧ wr.drew.cell? ⟨q.block, q.off + 8, none⟩ = some (.int .u64 s2.t1) ∧ wr.drew.cell? ⟨q.block, q.off + 9, none⟩ = some (.slice A2 m2 c2) := by
          have F' := F
          have G' := G
          rw [← hml, ← hml2]
          exact ⟨F'.c0, F'.c1, F'.c2, F'.c3, F'.c4, F'.c5, F'.c6, F'.c7, F'.c8, F'.c9, G'.c0, G'.c1, G'.c2, G'.c3, G'.c4, G'.c5, G'.c6, G'.c7, G'.c8, G'.c9⟩
        have hd := hS wr.drew ⟨rfl, rfl, rfl, Nat.le_refl _, fun _ _ => rfl⟩
        have hpl := World.block_lt_of_cell? _ _ F.c0
        have hql := World.block_lt_of_cell? _ _ G.c0
        clear F G hA hB hL hL2 hml hml2 h4 h42 hS
        obtain ⟨a0, a1, a2, a3, a4, a5, a6, a7, a8, a9, a10, a11, a12, a13, a14, a15, a16, a17, a18, a19⟩ := hcells
        have kf := fun (W : World) (hb : Below wr.drew.heap.size wr.drew W) => (show W.cell? p = some (.int .u64 s.T) ∧ W.cell? ⟨p.block, p.off + 1, none⟩ = some (.int .u64 s.I) ∧ W.cell? ⟨p.block, p.off + 2, none⟩ = some (.int .u64 s.P) ∧ W.cell? ⟨p.block, p.off + 3, none⟩ = some (.string s.sv) ∧ W.cell? ⟨p.block, p.off + 4, none⟩ = some (.string s.nm) ∧ W.cell? ⟨p.block, p.off + 5, none⟩ = some (.int .i64 s.kd) ∧ W.cell? ⟨p.block, p.off + 6, none⟩ = some (.int .i64 s.st) ∧ W.cell? ⟨p.block, p.off + 7, none⟩ = some (.int .u64 s.t0) ∧ W.cell? ⟨p.block, p.off + 8, none⟩ = some (.int .u64 s.t1) ∧ W.cell? ⟨p.block, p.off + 9, none⟩ = some (.slice A1 m c1) ∧ W.cell? q = some (.int .u64 s2.T) ∧ W.cell? ⟨q.block, q.off + 1, none⟩ = some (.int .u64 s2.I) ∧ W.cell? ⟨q.block, q.off + 2, none⟩ = some (.int .u64 s2.P) ∧ W.cell? ⟨q.block, q.off + 3, none⟩ = some (.string s2.sv) ∧ W.cell? ⟨q.block, q.off + 4, none⟩ = some (.string s2.nm) ∧ W.cell? ⟨q.block, q.off + 5, none⟩ = some (.int .i64 s2.kd) ∧ W.cell? ⟨q.block, q.off + 6, none⟩ = some (.int .i64 s2.st) ∧ W.cell? ⟨q.block, q.off + 7, none⟩ = some (.int .u64 s2.t0) ∧ W.cell? ⟨q.block, q.off + 8, none⟩ = some (.int .u64 s2.t1) ∧ W.cell? ⟨q.block, q.off + 9, none⟩ = some (.slice A2 m2 c2) from ⟨(hb.cell (p := p) hpl).trans a0, (hb.cell (p := ⟨p.block, p.off + 1, none⟩) hpl).trans a1, (hb.cell (p := ⟨p.block, p.off + 2, none⟩) hpl).trans a2, (hb.cell (p := ⟨p.block, p.off + 3, none⟩) hpl).trans a3, (hb.cell (p := ⟨p.block, p.off + 4, none⟩) hpl).trans a4, (hb.cell (p := ⟨p.block, p.off + 5, none⟩) hpl).trans a5, (hb.cell (p := ⟨p.block, p.off + 6, none⟩) hpl).trans a6, (hb.cell (p := ⟨p.block, p.off + 7, none⟩) hpl).trans a7, (hb.cell (p := ⟨p.block, p.off + 8, none⟩) hpl).trans a8, (hb.cell (p := ⟨p.block, p.off + 9, none⟩) hpl).trans a9, (hb.cell (p := q) hql).trans a10, (hb.cell (p := ⟨q.block, q.off + 1, none⟩) hql).trans a11, (hb.cell (p := ⟨q.block, q.off + 2, none⟩) hql).trans a12, (hb.cell (p := ⟨q.block, q.off + 3, none⟩) hql).trans a13, (hb.cell (p := ⟨q.block, q.off + 4, none⟩) hql).trans a14, (hb.cell (p := ⟨q.block, q.off + 5, none⟩) hql).trans a15, (hb.cell (p := ⟨q.block, q.off + 6, none⟩) hql).trans a16, (hb.cell (p := ⟨q.block, q.off + 7, none⟩) hql).trans a17, (hb.cell (p := ⟨q.block, q.off + 8, none⟩) hql).trans a18, (hb.cell (p := ⟨q.block, q.off + 9, none⟩) hql).trans a19⟩)
        have y0 : (0 : Int) ≤ (k : Int) := by omega
        have y1 : ((k : Int)).toNat = k := by omega
        have hcmp : b = true ↔ (⟨s, A1, c1, l⟩ : Spn).pn = (⟨s2, A2, c2, l2⟩ : Spn).pn := by
          rw [hb, decide_eq_true_eq, cmp_same]
          simp [Spn.pn]
        have HC := Lib.hid hcmp
        have H1 := Lib.hid ht1
        have H2 := Lib.hid ht2
        have HD := Lib.hid hdf
        clear hcmp ht1 ht2 hdf hb h h2
        go_wp2_with fail
        go_region_held3 (fun w' => w'.cell? p = some (.int .u64 s.T) ∧ w'.cell? ⟨p.block, p.off + 1, none⟩ = some (.int .u64 s.I) ∧ w'.cell? ⟨p.block, p.off + 2, none⟩ = some (.int .u64 s.P) ∧ w'.cell? ⟨p.block, p.off + 3, none⟩ = some (.string s.sv) ∧ w'.cell? ⟨p.block, p.off + 4, none⟩ = some (.string s.nm) ∧ w'.cell? ⟨p.block, p.off + 5, none⟩ = some (.int .i64 s.kd) ∧ w'.cell? ⟨p.block, p.off + 6, none⟩ = some (.int .i64 s.st) ∧ w'.cell? ⟨p.block, p.off + 7, none⟩ = some (.int .u64 s.t0) ∧ w'.cell? ⟨p.block, p.off + 8, none⟩ = some (.int .u64 s.t1) ∧ w'.cell? ⟨p.block, p.off + 9, none⟩ = some (.slice A1 m c1) ∧ w'.cell? q = some (.int .u64 s2.T) ∧ w'.cell? ⟨q.block, q.off + 1, none⟩ = some (.int .u64 s2.I) ∧ w'.cell? ⟨q.block, q.off + 2, none⟩ = some (.int .u64 s2.P) ∧ w'.cell? ⟨q.block, q.off + 3, none⟩ = some (.string s2.sv) ∧ w'.cell? ⟨q.block, q.off + 4, none⟩ = some (.string s2.nm) ∧ w'.cell? ⟨q.block, q.off + 5, none⟩ = some (.int .i64 s2.kd) ∧ w'.cell? ⟨q.block, q.off + 6, none⟩ = some (.int .i64 s2.st) ∧ w'.cell? ⟨q.block, q.off + 7, none⟩ = some (.int .u64 s2.t0) ∧ w'.cell? ⟨q.block, q.off + 8, none⟩ = some (.int .u64 s2.t1) ∧ w'.cell? ⟨q.block, q.off + 9, none⟩ = some (.slice A2 m2 c2))
          (first | exact q4 | go_keep)
          (first | (go_at_call 40; (with_reducible refine hd.mono ?_); rintro e w3 ⟨rfl, b3⟩; have q4 := kf w3 b3))
        have b4 : Below w.heap.size w w3 := bw.trans ((⟨b3.os, b3.tape, b3.output, b3.size, b3.block⟩ : Below wr.heap.size wr w3).mono bw.size)
        clear q4 kf a0 a1 a2 a3 a4 a5 a6 a7 a8 a9 a10 a11 a12 a13 a14 a15 a16 a17 a18 a19 hd b3
        cases b with
        | true =>
          have hI2 : pns (L.take (k + 1)) = pns (M.take (k + 1)) := by rw [H1.out, H2.out, HI.out, HC.out.1 rfl]
          go_wp2
          go_roundw
          case rel => exact ⟨k + 1, by go_num, by omega, b4, Lib.hid hI2⟩
          case measure => first | go_num | (simp [intOf]; omega)
        | false =>
          have hrf : r = false := by
            cases r
            · rfl
            · exact absurd (HR.out.1 rfl) (HD.out fun he => by have := HC.out.2 he; cases this)
          have HRf := Lib.hid hrf
          clear hrf
          go_wp2
          go_ret
          exact ⟨ret_bool (HRf.out.symm), b4⟩
      · have hltz : ¬ ((k : Int) < (n : Int)) := by omega
        have hkn : k = n := by omega
        subst hkn
        have hrt : r = true := HR.out.2 (by
          have := HI.out
          rw [List.take_of_length_le (by rw [un HN]; exact Nat.le_refl _), List.take_of_length_le (by rw [un HN2]; exact Nat.le_refl _)] at this
          exact this)
        have HRt := Lib.hid hrt
        clear hrt
        go_wp2
        go_ret
        exact ⟨ret_bool (HRt.out.symm), bw⟩
  · have hz : ¬ ((n : Int) = (k2 : Int)) := by omega
    have hrf : r = false := by
      cases r
      · rfl
      · have := congrArg List.length (hr.1 rfl)
        rw [pns_len, pns_len] at this
        omega
    have HRf := Lib.hid hrf
    clear hrf hr h h2
    go_enter Tryz.func14, Tryz.ntmps14
    go_wp2
    go_ret
    exact ⟨ret_bool (HRf.out.symm), Below.refl _ _⟩

end Go.Proofs.YtdmibolbpgondaaGreat.B07
