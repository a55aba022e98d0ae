/-
  The document's shard: Add. (Written by gen15/radd.py.)
-/
import Derived.Test.YtdmibolbpgondaaGreatKX15RefF
import Derived.Test.YtdmibolbpgondaaGreatKP06Span
import Derived.Deep.CutBlock
import Derived.Lib.QuietBelow
import Derived.Handy
set_option linter.unusedSimpArgs false
set_option linter.unusedVariables false
namespace Go.Proofs.YtdmibolbpgondaaGreat.X15
open Go.RowKit Go.Lib Go.Maps Go.Proofs.YtdmibolbpgondaaGreat.Wd Go.Proofs.YtdmibolbpgondaaGreat.P06
open Go.Proofs.YtdmibolbpgondaaGreat.B07 (Pn OkN OkA OkP Spn Sps pns tenA ten Ten ten_one rspan_info tm_len tm_one)
open Go.Proofs.YtdmibolbpgondaaGreat.D09 (TenW cp cp_neg)
set_option maxRecDepth 100000 in
set_option maxHeartbeats 16000000 in
theorem radd_at (G S B : Nat) (A : Option Addr) (n c : Nat) (M : List Spn) (L : List Pn) (s : Sp) (A1 : Option Addr) (c1 m : Nat) (l : List At) (w : World) (h : Sps w A c M) (hn : M.length = n) (hL : pns M = L) (hso : So L) (hok : ∀ x ∈ L, Okx x) (hA : Ats w A1 c1 l) (hm : l.length = m) (hx : Okx (s, l)) (hfew : n ≤ 300) (hG : G ≤ MT) :
    Calls Tryz.prog 13 #[sag G S B A n c, spv s (.slice A1 m c1)] w (RaOut w A M ⟨s, A1, c1, l⟩ G S B L (s, l)) := by
  have mixed : Tryz.prog.follows .mixedOrders = true := by kernel_rfl
  obtain ⟨i0, hi, hz0, hz1, hz2⟩ := info_parts rspan_info
  obtain ⟨g, hg⟩ : ∃ g, w.heap.size = g := ⟨_, rfl⟩
  obtain ⟨X, hX⟩ : ∃ X, ((w.alloc (.cells (sac G S B A n c) 31)).alloc (.cells (spc s (.slice A1 m c1)) 34)).alloc (.cells #[.int .u64 0, .int .i64 0, .int .i64 0, .slice none 0 0] 31) = X := ⟨_, rfl⟩
  have bel : Below w.heap.size w X := by rw [← hX]; exact (((Below.refl _ _).alloc (Nat.le_refl _) _).alloc (by simp) _).alloc (by simp; omega) _
  have hHs : Hs w g G S B s A1 m c1 A n c M X := by
    refine ⟨?_, ?_, ?_, h.below bel, hn, bel⟩
    · rw [← hX, ← hg]; exact ((Bk.new w _ _).below ((Below.refl _ _).alloc (Nat.le_refl _) _)).below ((Below.refl _ _).alloc (Nat.le_refl _) _)
    · rw [← hX, ← hg]
      have := Bk.new (w.alloc (.cells (sac G S B A n c) 31)) 34 (spc s (.slice A1 m c1))
      rw [World.size_alloc] at this
      exact this.below ((Below.refl _ _).alloc (Nat.le_refl _) _)
    · rw [← hX, ← hg]
      have := Bk.new ((w.alloc (.cells (sac G S B A n c) 31)).alloc (.cells (spc s (.slice A1 m c1)) 34)) 31 #[.int .u64 0, .int .i64 0, .int .i64 0, .slice none 0 0]
      rw [World.size_alloc, World.size_alloc] at this
      exact this
  have HH := Lib.hid hHs
  have HN := Lib.hid hn
  have HL := Lib.hid hL
  have HLn := Lib.hid (show L.length = n from by rw [← hL, ← hn]; simp [pns])
  have HM := Lib.hid hm
  have HO := Lib.hid (And.intro hok hx)
  have HSo := Lib.hid hso
  have HA0 := Lib.hid (And.intro h.ats hA)
  have hm40 : m ≤ 40 := by rw [← hm]; exact hx.r.few
  have hcap := h.rd.cap
  have hmax := h.rd.max
  rw [hn] at hcap
  clear h hn hL hso hok hA hm hx bel hHs
  go_enter Tryz.func13, Tryz.ntmps13
  go_upto_block 0 with fail
  (try rw [hX])
  (try rw [hg])
  go_cut [7] from 9 to 68 (fun v7 wx => ∃ T tl tc TM A' n' c' M', v7 = .slice T tl tc ∧ Ha w g G S B s A1 m c1 L (s, l) M T tl tc TM A' n' c' M' wx)
  case first =>
    go_wp2_with fail
    go_loopw [7, 9] (fun u v wr => ∃ k : Nat, u = .slice none 0 0 ∧ v = .int .i64 (k : Int) ∧ k ≤ n ∧ Hid (∀ j (hj : j < L.length), j < k → ¬ Ke L[j] (s, l)) ∧ Below X.heap.size X wr) (fun _ v _ => n - (intOf v).toNat)
    case atStart => exact ⟨0, rfl, rfl, Nat.zero_le _, Lib.hid (fun j hj h => by omega), Below.refl _ _⟩
    case round =>
      obtain ⟨k, rfl, rfl, hk, HK, hb⟩ := hrel
      obtain ⟨z0, z1, z2, z3⟩ := (HH.out.below hb).cells
      obtain ⟨x0, x1, x2, x3, x4, x5, x6, x7, x8, x9⟩ := ten_cells (HH.out.below hb).ks
      by_cases hkn : k < n
      · have hkz : (k : Int) < (n : Int) := by omega
        have hkL : k < L.length := by rw [HLn.out]; exact hkn
        have hkM : k < M.length := by rw [HN.out]; exact hkn
        have hmem := List.getElem_mem hkM
        obtain ⟨ad, pp, rfl, hpp, F⟩ := (HH.out.below hb).sp.get hkM
        have hTs := ((HH.out.below hb).sp).ats _ hmem
        have hx := pns_at HL.out hkM hkL
        have h40 := (HO.out.1 _ (List.getElem_mem hkL)).r.few
        rw [hx] at h40
        obtain ⟨⟨s2, A2, c2, l2⟩, hMk⟩ : ∃ y, M[k] = y := ⟨_, rfl⟩
        rw [hMk] at F hTs hx h40 hmem
        dsimp only at F hTs hx h40
        obtain ⟨m2, hm2⟩ : ∃ m2, l2.length = m2 := ⟨_, rfl⟩
        have TE := TenW.of F hm2
        have d0 := TE.c0
        have d1 := TE.c1
        have y2 : (0 : Int) ≤ (k : Int) := by omega
        have y3 : ((k : Int)).toNat = k := by omega
        have HX := Lib.hid hx
        by_cases hke : Ke L[k] (s, l)
        · have e1 : s2.T = s.T := by have := hke.1; rw [hx] at this; exact this
          have e2 : s2.I = s.I := by have := hke.2; rw [hx] at this; exact this
          obtain ⟨z, hz⟩ : ∃ z, cmpS s2 s l2 l = z := ⟨_, rfl⟩
          have hcz : cp L[k] (s, l) = z := by rw [hx]; exact hz
          have d2 := TE.c2
          have d3 := TE.c3
          have d4 := TE.c4
          have d5 := TE.c5
          have d6 := TE.c6
          have d7 := TE.c7
          have d8 := TE.c8
          have d9 := TE.c9
          have HC := Lib.hid (And.intro hke hcz)
          have HE := Lib.hid hmem
          have HMk := Lib.hid hMk
          have hTs := Lib.hid hTs
          clear F TE hke hcz hmem hx hMk HK
          go_wp2_with fail
          go_quiet (fail)
          have hb2 := below_dn hb nq
          have D : ∀ a v, wr.cell? a = some v → (wr.drewN nq).cell? a = some v := fun _ _ h => h
          replace d0 := D _ _ d0
          replace d1 := D _ _ d1
          replace d2 := D _ _ d2
          replace d3 := D _ _ d3
          replace d4 := D _ _ d4
          replace d5 := D _ _ d5
          replace d6 := D _ _ d6
          replace d7 := D _ _ d7
          replace d8 := D _ _ d8
          replace d9 := D _ _ d9
          replace x0 := D _ _ x0
          replace x1 := D _ _ x1
          replace x2 := D _ _ x2
          replace x3 := D _ _ x3
          replace x4 := D _ _ x4
          replace x5 := D _ _ x5
          replace x6 := D _ _ x6
          replace x7 := D _ _ x7
          replace x8 := D _ _ x8
          replace x9 := D _ _ x9
          replace z0 := D _ _ z0
          replace z1 := D _ _ z1
          replace z2 := D _ _ z2
          replace z3 := D _ _ z3
          clear D hb e1 e2
          generalize wr.drewN nq = wp at *
          go_wp2_with fail
          have cd0 := cell_regrown d0
          have cd1 := cell_regrown d1
          have cd2 := cell_regrown d2
          have cd3 := cell_regrown d3
          have cd4 := cell_regrown d4
          have cd5 := cell_regrown d5
          have cd6 := cell_regrown d6
          have cd7 := cell_regrown d7
          have cd8 := cell_regrown d8
          have cd9 := cell_regrown d9
          have cx0 := cell_regrown x0
          have cx1 := cell_regrown x1
          have cx2 := cell_regrown x2
          have cx3 := cell_regrown x3
          have cx4 := cell_regrown x4
          have cx5 := cell_regrown x5
          have cx6 := cell_regrown x6
          have cx7 := cell_regrown x7
          have cx8 := cell_regrown x8
          have cx9 := cell_regrown x9
          have cz0 := cell_regrown z0
          have cz1 := cell_regrown z1
          have cz2 := cell_regrown z2
          have cz3 := cell_regrown z3
          have q1 : ∀ dd os, Calls Tryz.prog 36 #[spv s2 (.slice A2 m2 c2), spv s (.slice A1 m c1)] (Sort.grow (redrawn wp dd) os) fun e w'' => e = .returned (.int .i64 z) ∧ ∃ p : Regrown, w'' = Sort.grow (redrawn wp p.d) p.os := fun dd os => Calls.regrown_of (by
            have hW : Below X.heap.size X (Sort.grow (redrawn wp dd) os) := hb2.trans ((below_regrown wp dd os).mono hb2.size)
            have := refcmp_any s2 s A2 A1 c2 c1 l2 l m2 m (Sort.grow (redrawn wp dd) os) ((HA0.out.1 _ HE.out).below (HH.out.below hW).bel) (HA0.out.2.below (HH.out.below hW).bel) hm2 HM.out (by rw [← hm2]; exact h40) hm40
            rw [hz] at this
            exact this)
          refine wp_region_quiet_below (by kernel_rfl) (by kernel_rfl) ?_
          repeat (quiet_step (first | (with_reducible exact q1 _ _)))
          refine wpQuiet_nil ?_
          intro _ hw'
          obtain ⟨⟨dq, osq⟩, hw''⟩ := hw'
          subst hw''
          have hb3 : Below X.heap.size X (Sort.grow (redrawn wp dq) osq) := hb2.trans ((below_regrown wp dq osq).mono hb2.size)
          replace d0 := cd0 dq osq
          replace d1 := cd1 dq osq
          replace d2 := cd2 dq osq
          replace d3 := cd3 dq osq
          replace d4 := cd4 dq osq
          replace d5 := cd5 dq osq
          replace d6 := cd6 dq osq
          replace d7 := cd7 dq osq
          replace d8 := cd8 dq osq
          replace d9 := cd9 dq osq
          replace x0 := cx0 dq osq
          replace x1 := cx1 dq osq
          replace x2 := cx2 dq osq
          replace x3 := cx3 dq osq
          replace x4 := cx4 dq osq
          replace x5 := cx5 dq osq
          replace x6 := cx6 dq osq
          replace x7 := cx7 dq osq
          replace x8 := cx8 dq osq
          replace x9 := cx9 dq osq
          replace z0 := cz0 dq osq
          replace z1 := cz1 dq osq
          replace z2 := cz2 dq osq
          replace z3 := cz3 dq osq
          have HM2 := Lib.hid hm2
          clear q1 hb2 h40 hm2 hz cd0 cd1 cd2 cd3 cd4 cd5 cd6 cd7 cd8 cd9 cx0 cx1 cx2 cx3 cx4 cx5 cx6 cx7 cx8 cx9 cz0 cz1 cz2 cz3
          generalize Sort.grow (redrawn wp dq) osq = wz at *
          by_cases hzl : z ≤ 0
          · have kr : Bk wz (g + 1 + 1) 31 #[.int .u64 0, .int .i64 0, .int .i64 0, .slice none 0 0] := (HH.out.below hb3).kr
            have r0 : wz.cell? ⟨g + 1 + 1, 0, none⟩ = some (.int .u64 0) := kr.cell 0
            have r1 : wz.cell? ⟨g + 1 + 1, 1, none⟩ = some (.int .i64 0) := kr.cell 1
            have r2 : wz.cell? ⟨g + 1 + 1, 2, none⟩ = some (.int .i64 0) := kr.cell 2
            have r3 : wz.cell? ⟨g + 1 + 1, 3, none⟩ = some (.slice none 0 0) := kr.cell 3
            have v0 := kr.frozen 0
            have v1 := kr.frozen 1
            have v2 := kr.frozen 2
            have v3 := kr.frozen 3
            have hV : Below wz.heap.size wz (wz.alloc (.cells #[.int .u64 s.T, .int .u64 s.I, .int .u64 s.P, .string s.sv, .string s.nm, .int .i64 s.kd, .int .i64 s.st, .int .u64 s.t0, .int .u64 s.t1, .slice A1 m c1] 34)) := (Below.refl _ _).alloc (Nat.le_refl _) _
            have Vz0 : (wz.alloc (.cells #[.int .u64 s.T, .int .u64 s.I, .int .u64 s.P, .string s.sv, .string s.nm, .int .i64 s.kd, .int .i64 s.st, .int .u64 s.t0, .int .u64 s.t1, .slice A1 m c1] 34)).cell? ⟨g, 0, none⟩ = some (.int .u64 (G : Int)) := (hV.cell (World.block_lt_of_cell? _ _ z0)).trans z0
            have Vz1 : (wz.alloc (.cells #[.int .u64 s.T, .int .u64 s.I, .int .u64 s.P, .string s.sv, .string s.nm, .int .i64 s.kd, .int .i64 s.st, .int .u64 s.t0, .int .u64 s.t1, .slice A1 m c1] 34)).cell? ⟨g, 1, none⟩ = some (.int .i64 (S : Int)) := (hV.cell (World.block_lt_of_cell? _ _ z1)).trans z1
            have Vz2 : (wz.alloc (.cells #[.int .u64 s.T, .int .u64 s.I, .int .u64 s.P, .string s.sv, .string s.nm, .int .i64 s.kd, .int .i64 s.st, .int .u64 s.t0, .int .u64 s.t1, .slice A1 m c1] 34)).cell? ⟨g, 2, none⟩ = some (.int .i64 (B : Int)) := (hV.cell (World.block_lt_of_cell? _ _ z2)).trans z2
            have Vz3 : (wz.alloc (.cells #[.int .u64 s.T, .int .u64 s.I, .int .u64 s.P, .string s.sv, .string s.nm, .int .i64 s.kd, .int .i64 s.st, .int .u64 s.t0, .int .u64 s.t1, .slice A1 m c1] 34)).cell? ⟨g, 3, none⟩ = some (.slice (some ad) n c) := (hV.cell (World.block_lt_of_cell? _ _ z3)).trans z3
            have Vr0 : (wz.alloc (.cells #[.int .u64 s.T, .int .u64 s.I, .int .u64 s.P, .string s.sv, .string s.nm, .int .i64 s.kd, .int .i64 s.st, .int .u64 s.t0, .int .u64 s.t1, .slice A1 m c1] 34)).cell? ⟨g + 1 + 1, 0, none⟩ = some (.int .u64 0) := (hV.cell (World.block_lt_of_cell? _ _ r0)).trans r0
            have Vr1 : (wz.alloc (.cells #[.int .u64 s.T, .int .u64 s.I, .int .u64 s.P, .string s.sv, .string s.nm, .int .i64 s.kd, .int .i64 s.st, .int .u64 s.t0, .int .u64 s.t1, .slice A1 m c1] 34)).cell? ⟨g + 1 + 1, 1, none⟩ = some (.int .i64 0) := (hV.cell (World.block_lt_of_cell? _ _ r1)).trans r1
            have Vr2 : (wz.alloc (.cells #[.int .u64 s.T, .int .u64 s.I, .int .u64 s.P, .string s.sv, .string s.nm, .int .i64 s.kd, .int .i64 s.st, .int .u64 s.t0, .int .u64 s.t1, .slice A1 m c1] 34)).cell? ⟨g + 1 + 1, 2, none⟩ = some (.int .i64 0) := (hV.cell (World.block_lt_of_cell? _ _ r2)).trans r2
            have Vr3 : (wz.alloc (.cells #[.int .u64 s.T, .int .u64 s.I, .int .u64 s.P, .string s.sv, .string s.nm, .int .i64 s.kd, .int .i64 s.st, .int .u64 s.t0, .int .u64 s.t1, .slice A1 m c1] 34)).cell? ⟨g + 1 + 1, 3, none⟩ = some (.slice none 0 0) := (hV.cell (World.block_lt_of_cell? _ _ r3)).trans r3
            have kV := kr.below hV
            have Vv0 : (wz.alloc (.cells #[.int .u64 s.T, .int .u64 s.I, .int .u64 s.P, .string s.sv, .string s.nm, .int .i64 s.kd, .int .i64 s.st, .int .u64 s.t0, .int .u64 s.t1, .slice A1 m c1] 34)).frozen? ⟨g + 1 + 1, 0, none⟩ = false := kV.frozen 0
            have Vv1 : (wz.alloc (.cells #[.int .u64 s.T, .int .u64 s.I, .int .u64 s.P, .string s.sv, .string s.nm, .int .i64 s.kd, .int .i64 s.st, .int .u64 s.t0, .int .u64 s.t1, .slice A1 m c1] 34)).frozen? ⟨g + 1 + 1, 1, none⟩ = false := kV.frozen 1
            have Vv2 : (wz.alloc (.cells #[.int .u64 s.T, .int .u64 s.I, .int .u64 s.P, .string s.sv, .string s.nm, .int .i64 s.kd, .int .i64 s.st, .int .u64 s.t0, .int .u64 s.t1, .slice A1 m c1] 34)).frozen? ⟨g + 1 + 1, 2, none⟩ = false := kV.frozen 2
            have Vv3 : (wz.alloc (.cells #[.int .u64 s.T, .int .u64 s.I, .int .u64 s.P, .string s.sv, .string s.nm, .int .i64 s.kd, .int .i64 s.st, .int .u64 s.t0, .int .u64 s.t1, .slice A1 m c1] 34)).frozen? ⟨g + 1 + 1, 3, none⟩ = false := kV.frozen 3
            clear kV hV
            clear d0 d1 d2 d3 d4 d5 d6 d7 d8 d9
            have FIN := Lib.hid (fun (Y : World) (R : Rt wz (g + 1 + 1) (sac G S B (some ad) n c) (spc s (.slice A1 m c1)) Y) => show RaOut w (some ad) M ⟨s, A1, c1, l⟩ G S B L (s, l) (.returned (.tuple #[sag G S B (some ad) n c, .slice (some ⟨wz.heap.size, 0, none⟩) 1 1, .slice none 0 0])) Y from Rt.out hg (HH.out.below hb3) HL.out HM.out HA0.out.2 HA0.out.1 HSo.out (List.getElem_mem hkL) HC.out.1 (by rw [HC.out.2]; exact hzl) R)
            obtain ⟨Y1, hY1⟩ : ∃ Y1, (((((wz.alloc (.cells #[.int .u64 s.T, .int .u64 s.I, .int .u64 s.P, .string s.sv, .string s.nm, .int .i64 s.kd, .int .i64 s.st, .int .u64 s.t0, .int .u64 s.t1, .slice A1 m c1] 34)).setCell ⟨g + 1 + 1, 0, none⟩ (.int .u64 (G : Int))).setCell ⟨g + 1 + 1, 1, none⟩ (.int .i64 (S : Int))).setCell ⟨g + 1 + 1, 2, none⟩ (.int .i64 (B : Int))).setCell ⟨g + 1 + 1, 3, none⟩ (.slice (some ad) n c)).drew = Y1 := ⟨_, rfl⟩
            obtain ⟨Y2, hY2⟩ : ∃ Y2, (((((wz.setCell ⟨g + 1 + 1, 0, none⟩ (.int .u64 (G : Int))).setCell ⟨g + 1 + 1, 1, none⟩ (.int .i64 (S : Int))).setCell ⟨g + 1 + 1, 2, none⟩ (.int .i64 (B : Int))).setCell ⟨g + 1 + 1, 3, none⟩ (.slice (some ad) n c)).alloc (.cells #[.int .u64 s.T, .int .u64 s.I, .int .u64 s.P, .string s.sv, .string s.nm, .int .i64 s.kd, .int .i64 s.st, .int .u64 s.t0, .int .u64 s.t1, .slice A1 m c1] 34)).drew = Y2 := ⟨_, rfl⟩
            have RT1 := Lib.hid (show Rt wz (g + 1 + 1) (sac G S B (some ad) n c) (spc s (.slice A1 m c1)) Y1 from by rw [← hY1]; exact Rt.one kr)
            have RT2 := Lib.hid (show Rt wz (g + 1 + 1) (sac G S B (some ad) n c) (spc s (.slice A1 m c1)) Y2 from by rw [← hY2]; exact Rt.two kr)
            have HY1 := Lib.hid hY1
            have HY2 := Lib.hid hY2
            clear hY1 hY2
            go_wp2_with fail
            go_region
            · rw [HY2.out]
              have RT := RT2.out
              have y0 := RT.sh.cell 0
              have y1 := RT.sh.cell 1
              have y2 := RT.sh.cell 2
              have y3 := RT.sh.cell 3
              simp only [sac, List.getElem?_toArray, List.getElem?_cons_zero, List.getElem?_cons_succ] at y0 y1 y2 y3
              have FF := Lib.hid (FIN.out _ RT)
              clear RT
              go_wp2
              refine bodyPost_ret (by simp [results, Tryz.results13, go_sem, y0, y1, y2, y3]; try rfl) rfl ?_
              exact FF.out
            · rw [HY1.out]
              have RT := RT1.out
              have y0 := RT.sh.cell 0
              have y1 := RT.sh.cell 1
              have y2 := RT.sh.cell 2
              have y3 := RT.sh.cell 3
              simp only [sac, List.getElem?_toArray, List.getElem?_cons_zero, List.getElem?_cons_succ] at y0 y1 y2 y3
              have FF := Lib.hid (FIN.out _ RT)
              clear RT
              go_wp2
              refine bodyPost_ret (by simp [results, Tryz.results13, go_sem, y0, y1, y2, y3]; try rfl) rfl ?_
              exact FF.out
          · have HZ := Lib.hid hzl
            have hzn : ¬ z ≤ 0 := hzl
            go_wp2_with fail
            obtain ⟨zb, hzb⟩ : ∃ zb, wz.heap.size = zb := ⟨_, rfl⟩
            obtain ⟨wq, hwq⟩ : ∃ wq, wz.alloc (.cells #[.int .u64 s2.T, .int .u64 s2.I, .int .u64 s2.P, .string s2.sv, .string s2.nm, .int .i64 s2.kd, .int .i64 s2.st, .int .u64 s2.t0, .int .u64 s2.t1, .slice A2 m2 c2] 34) = wq := ⟨_, rfl⟩
            have bq : Below wz.heap.size wz wq := by rw [← hwq]; exact (Below.refl _ _).alloc (Nat.le_refl _) _
            have lq : Rd 10 wq (some ⟨wz.heap.size, 0, none⟩) 1 1 (ten ⟨s2, A2, c2, l2⟩) := by
              rw [← hwq]
              have e10 : tenA ⟨s2, A2, c2, l2⟩ = #[.int .u64 s2.T, .int .u64 s2.I, .int .u64 s2.P, .string s2.sv, .string s2.nm, .int .i64 s2.kd, .int .i64 s2.st, .int .u64 s2.t0, .int .u64 s2.t1, .slice A2 m2 c2] := by unfold B07.tenA; dsimp only; rw [HM2.out]
              rw [← e10]
              exact B07.Rd.lit10 wz 34 ⟨s2, A2, c2, l2⟩
            rw [hwq]
            rw [hzb] at lq ⊢
            have hbq := hb3.trans (bq.mono hb3.size)
            have hHq := HH.out.below hbq
            replace z3 := hHq.cells.2.2.2
            clear hwq bq z0 z1 z2 x0 x1 x2 x3 x4 x5 x6 x7 x8 x9 d0 d1 d2 d3 d4 d5 d6 d7 d8 d9 hzb
            obtain ⟨k1, hk1⟩ : ∃ k1, k + 1 = k1 := ⟨_, rfl⟩
            have hk1n : k1 ≤ n := by omega
            have hdl : (M.drop k1).length = n - k1 := by rw [List.length_drop, HN.out]
            have htl : (M.take k).length = k := by rw [List.length_take, HN.out]; omega
            have bE : Below wq.heap.size wq (wq.alloc (.cells #[] 34)).drew := (((Below.refl _ _).alloc (Nat.le_refl _) _ : Below wq.heap.size wq (wq.alloc (.cells #[] 34)))).drew
            have own0 : (wq.alloc (.cells #[] 34)).drew.ownsRow wq.heap.size 34 10 (.slice (some ⟨wq.heap.size, 0, none⟩) 0 0) 0 [] := World.ownsRow_lit (base := wq.heap.size) (size := 10) wq.drew #[] 0 (Nat.le_refl _) (by unfold maxLen; omega) rfl
            have ht1 := ((sps_take hHq.sp k (by rw [HN.out]; omega)).below bE).rd
            rw [htl] at ht1
            have HE0 := Lib.hid (And.intro (show (wq.alloc (.cells #[] 34)).drew.cell? ⟨g, 3, none⟩ = some (.slice (some ad) n c) from (bE.cell (World.block_lt_of_cell? _ _ z3)).trans z3) (And.intro own0 (And.intro ht1 (And.intro (tm_one (M.take k)) bE.size))))
            have HBE := Lib.hid bE
            have dA1 : 0 + k ≤ maxLen := by unfold maxLen; omega
            have dA2 : (0 + k) * 112 ≤ 140737488355328 := by omega
            have HFin := Lib.hid (fun (tot : Nat) (htot : tot = n - 1) (B5 : Option Addr) (d5 : Nat) (w5 : World) (hrow : w5.ownsRow wq.heap.size 34 10 (.slice B5 tot d5) tot ([] ++ (M.take k).flatMap ten ++ (M.drop k1).flatMap ten)) (hb : Below wq.heap.size wq w5) => show Hs w g G S B s A1 m c1 (some ad) n c M w5 ∧ ∃ T tl tc TM A' n' c' M', Value.slice (some ⟨zb, 0, none⟩) 1 1 = .slice T tl tc ∧ Ha w g G S B s A1 m c1 L (s, l) M T tl tc TM A' n' c' M' (w5.setCell ⟨g, 3, none⟩ (.slice B5 tot d5)) from by
              have h5 := hHq.below hb
              have hcut := era_cut HSo.out hkL HC.out.1
              have hMl : (M.take k ++ M.drop (k + 1)).length = tot := by rw [hk1, List.length_append, htl, hdl]; omega
              have hin : ∀ y ∈ M.take k ++ M.drop (k + 1), y ∈ M := fun y hy => by
                rcases List.mem_append.1 hy with hy | hy
                · exact List.mem_of_mem_take hy
                · exact List.mem_of_mem_drop hy
              have sp5 : Sps w5 B5 d5 (M.take k ++ M.drop (k + 1)) := ⟨Rd.own (by rw [hMl]; rw [← hk1] at hrow; simpa using hrow), fun y hy => h5.sp.ats y (hin y hy)⟩
              have one5 : Sps w5 (some ⟨zb, 0, none⟩) 1 [⟨s2, A2, c2, l2⟩] := ⟨by have := lq.below hb; simpa using this, fun y hy => by rw [List.mem_singleton.1 hy]; exact h5.sp.ats _ HE.out⟩
              have f5 : Wd.Fr [g] w5 (w5.setCell ⟨g, 3, none⟩ (.slice B5 tot d5)) := Fr.setCell w5 ⟨g, 3, none⟩ _ (by simp)
              refine ⟨h5, some ⟨zb, 0, none⟩, 1, 1, [⟨s2, A2, c2, l2⟩], B5, tot, d5, M.take k ++ M.drop (k + 1), rfl, h5.put hg sp5 hMl, by rw [pns_drop HL.out, hcut.1], rfl, sps_fr one5 (sac_nt h5.kh) f5, fun y hy => by rw [List.mem_singleton.1 hy]; exact HE.out, hin, ?_⟩
              unfold add
              rw [hcut.2]
              dsimp only
              rw [if_neg (by rw [HC.out.2]; have := HZ.out; omega)]
              have e1 := pns_at HL.out hkM hkL
              rw [HMk.out] at e1
              rw [e1]
              rfl)
            have hk1z : (k : Int) + 1 = (k1 : Int) := by omega
            have yk1 : (0 : Int) ≤ (k1 : Int) := by omega
            have yk2 : ((k1 : Int)).toNat = k1 := by omega
            have yk3 : (k1 : Int) ≤ (n : Int) := by omega
            have yk4 : (n : Int) ≤ (c : Int) := by omega
            have yk5 : (k : Int) ≤ (c : Int) := by omega
            have hkc : k ≤ c := by omega
            have hkw : IntKind.i64.wrap (k1 : Int) = (k1 : Int) := IntWalk.i64_in _ (by omega)
            have HDL := Lib.hid hdl
            have HHq := Lib.hid hHq
            by_cases hck : c = k1
            · have hn1 : n = k1 := by omega
              have HD := Lib.hid (fun (w3 : World) (hb : Below wq.heap.size wq w3) => show Rd 10 w3 (some ad) 0 0 ((M.drop k1).flatMap ten) from by
                have h := (sps_drop (HHq.out.sp.below hb) k1 (by rw [HN.out]; exact hk1n)).rd
                rw [HDL.out] at h
                unfold cutX at h
                rw [if_pos hck, hn1, hck, Nat.sub_self] at h
                exact h)
              have dC1 : k + 0 ≤ maxLen := by unfold maxLen; omega
              have dC2 : (k + 0) * 112 ≤ 140737488355328 := by omega
              replace HFin := Lib.hid (HFin.out (k + 0) (by omega))
              clear lq hbq hHq own0 ht1 bE hk1 hdl htl
              obtain rfl : k1 = n := hn1.symm
              obtain rfl : k1 = c := hck.symm
              refine wp_zed (S := fun W => W.cell? ⟨g, 3, none⟩ = some (.slice (some ad) k1 k1)) (z := 13) mixed ?_
              refine Zed.take (i := 1) (v := .pointer (some ⟨g, 3, none⟩)) rfl (by kernel_rfl) rfl (by kernel_rfl) (by kernel_rfl) (by kernel_rfl) (fun _ _ _ h => h) ?_ z3 ?_
              · refine .inl ⟨rfl, fun W hW => ?_⟩
                go_simp
              (try simp only [Act.put, List.setIfInBounds_toArray, List.set_cons_zero, List.set_cons_succ])
              refine Zed.take (i := 2) (v := .slice (some ad) k1 k1) rfl (by kernel_rfl) rfl (by kernel_rfl) (by kernel_rfl) (by kernel_rfl) (fun _ _ _ h => h) ?_ z3 ?_
              · refine .inl ⟨rfl, fun W hW => ?_⟩
                go_simp
              (try simp only [Act.put, List.setIfInBounds_toArray, List.set_cons_zero, List.set_cons_succ])
              refine Zed.take (i := 3) (v := .int .i64 (k : Int)) rfl (by kernel_rfl) rfl (by kernel_rfl) (by kernel_rfl) (by kernel_rfl) (fun _ _ _ h => h) ?_ z3 ?_
              · refine .inl ⟨rfl, fun W hW => ?_⟩
                go_simp
              (try simp only [Act.put, List.setIfInBounds_toArray, List.set_cons_zero, List.set_cons_succ])
              refine Zed.take (i := 4) (v := .slice (some ad) k k1) rfl (by kernel_rfl) rfl (by kernel_rfl) (by kernel_rfl) (by kernel_rfl) (fun _ _ _ h => h) ?_ z3 ?_
              · refine .inl ⟨rfl, fun W hW => ?_⟩
                go_simp
              (try simp only [Act.put, List.setIfInBounds_toArray, List.set_cons_zero, List.set_cons_succ])
              refine Zed.take (i := 6) (v := .pointer (some ⟨g, 3, none⟩)) rfl (by kernel_rfl) rfl (by kernel_rfl) (by kernel_rfl) (by kernel_rfl) (fun _ _ _ h => h) ?_ z3 ?_
              · refine .inl ⟨rfl, fun W hW => ?_⟩
                go_simp
              (try simp only [Act.put, List.setIfInBounds_toArray, List.set_cons_zero, List.set_cons_succ])
              refine Zed.take (i := 7) (v := .slice (some ad) k1 k1) rfl (by kernel_rfl) rfl (by kernel_rfl) (by kernel_rfl) (by kernel_rfl) (fun _ _ _ h => h) ?_ z3 ?_
              · refine .inl ⟨rfl, fun W hW => ?_⟩
                go_simp
              (try simp only [Act.put, List.setIfInBounds_toArray, List.set_cons_zero, List.set_cons_succ])
              refine Zed.take (i := 8) (v := .int .i64 (k : Int)) rfl (by kernel_rfl) rfl (by kernel_rfl) (by kernel_rfl) (by kernel_rfl) (fun _ _ _ h => h) ?_ z3 ?_
              · refine .inl ⟨rfl, fun W hW => ?_⟩
                go_simp
              (try simp only [Act.put, List.setIfInBounds_toArray, List.set_cons_zero, List.set_cons_succ])
              refine Zed.take (i := 9) (v := .int .i64 (k1 : Int)) rfl (by kernel_rfl) rfl (by kernel_rfl) (by kernel_rfl) (by kernel_rfl) (fun _ _ _ h => h) ?_ z3 ?_
              · refine .inl ⟨rfl, fun W hW => ?_⟩
                go_simp
              (try simp only [Act.put, List.setIfInBounds_toArray, List.set_cons_zero, List.set_cons_succ])
              refine Zed.take (i := 10) (v := .slice (some ad) 0 0) rfl (by kernel_rfl) rfl (by kernel_rfl) (by kernel_rfl) (by kernel_rfl) (fun _ _ _ h => h) ?_ z3 ?_
              · refine .inl ⟨rfl, fun W hW => ?_⟩
                go_simp
              (try simp only [Act.put, List.setIfInBounds_toArray, List.set_cons_zero, List.set_cons_succ])
              refine Zed.step (i := 0) (by kernel_rfl) rfl rfl (fun K hK => ?_)
              go_simp
              refine hK _ _ ⟨.inr HE0.out.1, ?_⟩
              clear hK K
              (try simp only [Act.put, List.setIfInBounds_toArray, List.set_cons_zero, List.set_cons_succ])
              refine Zed.step (i := 5) (by kernel_rfl) rfl rfl (fun K hK => ?_)
              refine wp_append_rd (.tmp 56) (.tmp 60) 29 rfl wq.heap.size 34 i0 _ 10 112 Tryz.underlying29 hi hz0 hz1 hz2 rfl (by decide) (.slice (some ⟨wq.heap.size, 0, none⟩) 0 0) 0 [] rfl HE0.out.2.1 (some ad) k k1 ((M.take k).flatMap ten) rfl HE0.out.2.2.1 HE0.out.2.2.2.1 dA1 dA2 HE0.out.2.2.2.2 ?_
              intro B3 d3 w3 own3 hg3
              have b3 : Below wq.heap.size wq w3 := HBE.out.grown hg3 HE0.out.2.2.2.2 (fun i hi => (HE0.out.2.1.lt i hi).1)
              have z3' : w3.cell? ⟨g, 3, none⟩ = some (.slice (some ad) k1 k1) := (b3.cell (World.block_lt_of_cell? _ _ z3)).trans z3
              refine hK _ _ ⟨.inr z3', ?_⟩
              clear hK K hg3
              simp only [Nat.zero_add] at own3
              have hr6 := HD.out w3 b3
              (try simp only [Act.put, List.setIfInBounds_toArray, List.set_cons_zero, List.set_cons_succ])
              simp only [Nat.zero_add]
              refine Zed.step (i := 11) (by kernel_rfl) rfl rfl (fun K hK => ?_)
              refine wp_append_rd (.tmp 61) (.tmp 66) 29 rfl wq.heap.size 34 i0 _ 10 112 Tryz.underlying29 hi hz0 hz1 hz2 rfl (by decide) (.slice B3 k d3) k ([] ++ (M.take k).flatMap ten) rfl own3 (some ad) 0 0 ((M.drop k1).flatMap ten) rfl hr6 (tm_one (M.drop k1)) dC1 dC2 b3.size ?_
              intro B5 d5 w5 own5 hg5
              have b5 : Below wq.heap.size wq w5 := b3.grown hg5 b3.size (fun i hi => (own3.lt i hi).1)
              have z5' : w5.cell? ⟨g, 3, none⟩ = some (.slice (some ad) k1 k1) := (b5.cell (World.block_lt_of_cell? _ _ z3)).trans z3
              refine hK _ _ ⟨.inr z5', ?_⟩
              clear hK K hg5 own3 hr6 z3' b3
              have F := HFin.out B5 d5 w5 own5 b5
              have f3 := F.1.kh.frozen 3
              (try simp only [Act.put, List.setIfInBounds_toArray, List.set_cons_zero, List.set_cons_succ])
              refine Zed.step (i := 12) (by kernel_rfl) rfl rfl (fun K hK => ?_)
              go_simp
              refine hK _ _ ⟨.inr z5', ?_⟩
              clear hK K
              (try simp only [Act.put, List.setIfInBounds_toArray, List.set_cons_zero, List.set_cons_succ])
              refine Zed.step (i := 13) (by kernel_rfl) rfl rfl (fun K hK => ?_)
              go_simp
              refine hK _ _ ⟨.inl rfl, Zed.done (by kernel_rfl) ?_ _⟩
              clear hK K f3 z5'
              (try simp only [Act.put, List.setIfInBounds_toArray, List.set_cons_zero, List.set_cons_succ])
              have F2 := Lib.hid F.2
              clear F own5 b5 HFin
              go_wp2_with fail
              go_meet
              exact F2.out
            · have hckz : ¬ (c : Int) = (k1 : Int) := by omega
              have HD := Lib.hid (fun (w3 : World) (hb : Below wq.heap.size wq w3) => show Rd 10 w3 (some (ad.add (k1 * 10))) (n - k1) (c - k1) ((M.drop k1).flatMap ten) from by
                have h := (sps_drop (HHq.out.sp.below hb) k1 (by rw [HN.out]; exact hk1n)).rd
                rw [HDL.out] at h
                unfold cutX at h
                rw [if_neg hck] at h
                exact h)
              have dC1 : k + (n - k1) ≤ maxLen := by unfold maxLen; omega
              have dC2 : (k + (n - k1)) * 112 ≤ 140737488355328 := by omega
              replace HFin := Lib.hid (HFin.out (k + (n - k1)) (by omega))
              clear lq hbq hHq own0 ht1 bE hk1 hdl htl
              refine wp_zed (S := fun W => W.cell? ⟨g, 3, none⟩ = some (.slice (some ad) n c)) (z := 13) mixed ?_
              refine Zed.take (i := 1) (v := .pointer (some ⟨g, 3, none⟩)) rfl (by kernel_rfl) rfl (by kernel_rfl) (by kernel_rfl) (by kernel_rfl) (fun _ _ _ h => h) ?_ z3 ?_
              · refine .inl ⟨rfl, fun W hW => ?_⟩
                go_simp
              (try simp only [Act.put, List.setIfInBounds_toArray, List.set_cons_zero, List.set_cons_succ])
              refine Zed.take (i := 2) (v := .slice (some ad) n c) rfl (by kernel_rfl) rfl (by kernel_rfl) (by kernel_rfl) (by kernel_rfl) (fun _ _ _ h => h) ?_ z3 ?_
              · refine .inl ⟨rfl, fun W hW => ?_⟩
                go_simp
              (try simp only [Act.put, List.setIfInBounds_toArray, List.set_cons_zero, List.set_cons_succ])
              refine Zed.take (i := 3) (v := .int .i64 (k : Int)) rfl (by kernel_rfl) rfl (by kernel_rfl) (by kernel_rfl) (by kernel_rfl) (fun _ _ _ h => h) ?_ z3 ?_
              · refine .inl ⟨rfl, fun W hW => ?_⟩
                go_simp
              (try simp only [Act.put, List.setIfInBounds_toArray, List.set_cons_zero, List.set_cons_succ])
              refine Zed.take (i := 4) (v := .slice (some ad) k c) rfl (by kernel_rfl) rfl (by kernel_rfl) (by kernel_rfl) (by kernel_rfl) (fun _ _ _ h => h) ?_ z3 ?_
              · refine .inl ⟨rfl, fun W hW => ?_⟩
                go_simp
              (try simp only [Act.put, List.setIfInBounds_toArray, List.set_cons_zero, List.set_cons_succ])
              refine Zed.take (i := 6) (v := .pointer (some ⟨g, 3, none⟩)) rfl (by kernel_rfl) rfl (by kernel_rfl) (by kernel_rfl) (by kernel_rfl) (fun _ _ _ h => h) ?_ z3 ?_
              · refine .inl ⟨rfl, fun W hW => ?_⟩
                go_simp
              (try simp only [Act.put, List.setIfInBounds_toArray, List.set_cons_zero, List.set_cons_succ])
              refine Zed.take (i := 7) (v := .slice (some ad) n c) rfl (by kernel_rfl) rfl (by kernel_rfl) (by kernel_rfl) (by kernel_rfl) (fun _ _ _ h => h) ?_ z3 ?_
              · refine .inl ⟨rfl, fun W hW => ?_⟩
                go_simp
              (try simp only [Act.put, List.setIfInBounds_toArray, List.set_cons_zero, List.set_cons_succ])
              refine Zed.take (i := 8) (v := .int .i64 (k : Int)) rfl (by kernel_rfl) rfl (by kernel_rfl) (by kernel_rfl) (by kernel_rfl) (fun _ _ _ h => h) ?_ z3 ?_
              · refine .inl ⟨rfl, fun W hW => ?_⟩
                go_simp
              (try simp only [Act.put, List.setIfInBounds_toArray, List.set_cons_zero, List.set_cons_succ])
              refine Zed.take (i := 9) (v := .int .i64 (k1 : Int)) rfl (by kernel_rfl) rfl (by kernel_rfl) (by kernel_rfl) (by kernel_rfl) (fun _ _ _ h => h) ?_ z3 ?_
              · refine .inl ⟨rfl, fun W hW => ?_⟩
                go_simp
              (try simp only [Act.put, List.setIfInBounds_toArray, List.set_cons_zero, List.set_cons_succ])
              refine Zed.take (i := 10) (v := .slice (some (ad.add (k1 * 10))) (n - k1) (c - k1)) rfl (by kernel_rfl) rfl (by kernel_rfl) (by kernel_rfl) (by kernel_rfl) (fun _ _ _ h => h) ?_ z3 ?_
              · refine .inl ⟨rfl, fun W hW => ?_⟩
                go_simp
              (try simp only [Act.put, List.setIfInBounds_toArray, List.set_cons_zero, List.set_cons_succ])
              refine Zed.step (i := 0) (by kernel_rfl) rfl rfl (fun K hK => ?_)
              go_simp
              refine hK _ _ ⟨.inr HE0.out.1, ?_⟩
              clear hK K
              (try simp only [Act.put, List.setIfInBounds_toArray, List.set_cons_zero, List.set_cons_succ])
              refine Zed.step (i := 5) (by kernel_rfl) rfl rfl (fun K hK => ?_)
              refine wp_append_rd (.tmp 56) (.tmp 60) 29 rfl wq.heap.size 34 i0 _ 10 112 Tryz.underlying29 hi hz0 hz1 hz2 rfl (by decide) (.slice (some ⟨wq.heap.size, 0, none⟩) 0 0) 0 [] rfl HE0.out.2.1 (some ad) k c ((M.take k).flatMap ten) rfl HE0.out.2.2.1 HE0.out.2.2.2.1 dA1 dA2 HE0.out.2.2.2.2 ?_
              intro B3 d3 w3 own3 hg3
              have b3 : Below wq.heap.size wq w3 := HBE.out.grown hg3 HE0.out.2.2.2.2 (fun i hi => (HE0.out.2.1.lt i hi).1)
              have z3' : w3.cell? ⟨g, 3, none⟩ = some (.slice (some ad) n c) := (b3.cell (World.block_lt_of_cell? _ _ z3)).trans z3
              refine hK _ _ ⟨.inr z3', ?_⟩
              clear hK K hg3
              simp only [Nat.zero_add] at own3
              have hr6 := HD.out w3 b3
              (try simp only [Act.put, List.setIfInBounds_toArray, List.set_cons_zero, List.set_cons_succ])
              simp only [Nat.zero_add]
              refine Zed.step (i := 11) (by kernel_rfl) rfl rfl (fun K hK => ?_)
              refine wp_append_rd (.tmp 61) (.tmp 66) 29 rfl wq.heap.size 34 i0 _ 10 112 Tryz.underlying29 hi hz0 hz1 hz2 rfl (by decide) (.slice B3 k d3) k ([] ++ (M.take k).flatMap ten) rfl own3 (some (ad.add (k1 * 10))) (n - k1) (c - k1) ((M.drop k1).flatMap ten) rfl hr6 (tm_one (M.drop k1)) dC1 dC2 b3.size ?_
              intro B5 d5 w5 own5 hg5
              have b5 : Below wq.heap.size wq w5 := b3.grown hg5 b3.size (fun i hi => (own3.lt i hi).1)
              have z5' : w5.cell? ⟨g, 3, none⟩ = some (.slice (some ad) n c) := (b5.cell (World.block_lt_of_cell? _ _ z3)).trans z3
              refine hK _ _ ⟨.inr z5', ?_⟩
              clear hK K hg5 own3 hr6 z3' b3
              have F := HFin.out B5 d5 w5 own5 b5
              have f3 := F.1.kh.frozen 3
              (try simp only [Act.put, List.setIfInBounds_toArray, List.set_cons_zero, List.set_cons_succ])
              refine Zed.step (i := 12) (by kernel_rfl) rfl rfl (fun K hK => ?_)
              go_simp
              refine hK _ _ ⟨.inr z5', ?_⟩
              clear hK K
              (try simp only [Act.put, List.setIfInBounds_toArray, List.set_cons_zero, List.set_cons_succ])
              refine Zed.step (i := 13) (by kernel_rfl) rfl rfl (fun K hK => ?_)
              go_simp
              refine hK _ _ ⟨.inl rfl, Zed.done (by kernel_rfl) ?_ _⟩
              clear hK K f3 z5'
              (try simp only [Act.put, List.setIfInBounds_toArray, List.set_cons_zero, List.set_cons_succ])
              have F2 := Lib.hid F.2
              clear F own5 b5 HFin
              go_wp2_with fail
              go_meet
              exact F2.out
        · have HK2 := Lib.hid (show ∀ j (hj : j < L.length), j < k + 1 → ¬ Ke L[j] (s, l) from fun j hj h => by
            by_cases e : j = k
            · subst e; exact hke
            · exact HK.out j hj (by omega))
          have hne : ¬ (s2.T = s.T ∧ s2.I = s.I) := fun e => hke (by rw [hx]; exact e)
          clear hke hMk hmem hx h40 TE hTs HK F
          by_cases hT : s2.T = s.T
          · have hI : ¬ s2.I = s.I := fun e => hne ⟨hT, e⟩
            clear hne
            go_wp2_with fail
            go_quiet (fail)
            go_wp2
            go_roundw
            case rel => exact ⟨k + 1, rfl, by go_num, by omega, HK2, below_dn hb _⟩
            case measure => first | go_num | (simp [intOf]; omega)
          · clear hne
            go_wp2_with fail
            go_quiet (fail)
            go_wp2
            go_roundw
            case rel => exact ⟨k + 1, rfl, by go_num, by omega, HK2, below_dn hb _⟩
            case measure => first | go_num | (simp [intOf]; omega)
      · obtain rfl : k = n := by omega
        have hkz : ¬ (k : Int) < (k : Int) := by omega
        have hno : ∀ y ∈ L, ¬ Ke y (s, l) := fun y hy => by
          obtain ⟨j, hj, e⟩ := List.mem_iff_getElem.1 hy
          rw [← e]
          exact HK.out j hj (by rw [← HLn.out]; exact hj)
        have H9 := Lib.hid (show Ha w g G S B s A1 m c1 L (s, l) M none 0 0 [] A k c M wr from ⟨HH.out.below hb, by rw [era_out hno]; exact HL.out, rfl, Sps.nil wr, fun _ h => (by cases h), fun _ h => h, by unfold add; rw [fnd_out hno]; rfl⟩)
        clear hno HK z0 z1 z2 x0 x1 x2 x3 x4 x5 x6 x7 x8 x9
        go_wp2_with fail
        go_meet
        exact ⟨none, 0, 0, [], A, k, c, M, rfl, H9.out⟩
  case rest =>
    obtain ⟨T, tl, tc, TM, A2, n2, c2, M2, rfl, R⟩ := hcut
    obtain ⟨z0, z1, z2, z3⟩ := R.hs.cells
    obtain ⟨x0, x1, x2, x3, x4, x5, x6, x7, x8, x9⟩ := ten_cells R.hs.ks
    have hn2 : n2 ≤ 300 := by
      have h1 := R.hs.ln
      have h2 : (era L (s, l)).length = M2.length := by rw [← R.er, B07.pns_len]
      have h3 : (era L (s, l)).length ≤ L.length := List.length_filter_le _ _
      have h4 := HLn.out
      omega
    have hput := rput15_at A2 n2 c2 M2 (era L (s, l)) s A1 c1 m l wc R.hs.sp R.hs.ln R.er (HA0.out.2.below R.hs.bel) HM.out (fun y hy => HO.out.1 y (mem_era.1 hy).1) hm40 (fun y hy => (mem_era.1 hy).2) (by omega)
    have HR := Lib.hid R
    clear R
    go_wp2_with fail
    refine hput.mono ?_
    rintro e w2 ⟨A3, c3, M3, rfl, hM3, hS3, b3, hin3, hfr3⟩
    have hputd : ins (era L (s, l)) (s, l) = put L (s, l) := rfl
    rw [hputd] at hM3 ⊢
    obtain ⟨n3, hn3⟩ : ∃ n3, (put L (s, l)).length = n3 := ⟨_, rfl⟩
    have hn3l : n3 ≤ 301 := by
      rw [← hn3, (put_perm L (s, l)).length_eq, List.length_cons]
      have h1 := HR.out.hs.ln
      have h2 : (era L (s, l)).length = M2.length := by rw [← HR.out.er, B07.pns_len]
      omega
    have hs2 := HR.out.hs.below b3
    have z3' := hs2.cells.2.2.2
    have f3 := hs2.kh.frozen 3
    obtain ⟨M0, hM0⟩ : ∃ M0, M ++ [(⟨s, A1, c1, l⟩ : Spn)] = M0 := ⟨_, rfl⟩
    have hA0 : ∀ y ∈ M0, Ats w y.A y.c y.l := fun y hy => by
      rw [← hM0] at hy
      rcases List.mem_append.1 hy with hy | hy
      · exact HA0.out.1 y hy
      · rw [List.mem_singleton.1 hy]; exact HA0.out.2
    have HL0 := Lib.hid (show Hl w g G S B s A1 m c1 M0 (put L (s, l)) T tc TM A3 n3 c3 M3 none 0 0 [] (put L (s, l)) (w2.setCell ⟨g, 3, none⟩ (.slice A3 n3 c3)) from by
      have f5 : Wd.Fr [g] w2 (w2.setCell ⟨g, 3, none⟩ (.slice A3 n3 c3)) := Fr.setCell w2 ⟨g, 3, none⟩ _ (by simp)
      have hin : ∀ y ∈ M, y ∈ M0 := fun y hy => by rw [← hM0]; exact List.mem_append_left _ hy
      refine ⟨hs2.put hg hS3 (by rw [← hn3, ← hM3, B07.pns_len]), hM3, put_so HSo.out _, fun y hy => ?_, fun y hy => ?_, sps_fr (HR.out.ts.below b3) (sac_nt hs2.kh) f5, fun y hy => hin y (HR.out.tm y hy), World.ownsRow_nil _ _ _ _, rfl, fun y hy => (by cases hy), fun _ k a hk => (by cases hk), fun _ k a hk => (by cases hk), rfl, rfl, fun a ha => Nat.le_trans HR.out.hs.bel.size (hfr3 a ha)⟩
      · rcases mem_put.1 hy with rfl | hy
        · exact HO.out.2
        · exact HO.out.1 y hy.1
      · rcases hin3 y hy with hy | rfl
        · exact hin y (HR.out.mm y hy)
        · rw [← hM0]; exact List.mem_append_right _ (List.mem_singleton.2 rfl))
    have HTl := Lib.hid (And.intro HR.out.tl HR.out.ad)
    have HA00 := Lib.hid hA0
    have HM00 := Lib.hid hM0
    rw [hn3]
    clear hput z0 z1 z2 z3 x0 x1 x2 x3 x4 x5 x6 x7 x8 x9 hM3 hS3 hin3 hfr3 hputd hs2 hM0 hA0 hn3 HR
    go_wp2_with fail
    clear z3' f3
    go_loopw [8, 10, 11] (fun v8 v10 v11 wr => ∃ A n c M Ag ng cg Mg L', v8 = .slice Ag ng cg ∧ n ≤ 301 ∧ Hid (Hl w g G S B s A1 m c1 M0 (put L (s, l)) T tc TM A n c M Ag ng cg Mg L' wr)) (fun _ _ _ wr => match wr.cell? ⟨g, 3, none⟩ with | some (.slice _ n _) => n | _ => 0)
    case atStart => exact ⟨A3, n3, c3, M3, none, 0, 0, [], put L (s, l), rfl, hn3l, HL0⟩
    case round =>
      clear HL0 hn3l b3
      obtain ⟨Aw, nw, cw, Mw, Ag, ng, cg, Mg, Lw, rfl, hnw, HW⟩ := hrel
      obtain ⟨z0, z1, z2, z3⟩ := HW.out.hs.cells
      have Z3W := Lib.hid z3
      obtain ⟨hh, hhd⟩ : ∃ hh, held Lw = hh := ⟨_, rfl⟩
      have hlw : Lw.length = nw := HW.out.few.1.symm
      have hbig : big S B Lw = (decide (S < nw) || decide (B < hh)) := by unfold big; rw [hlw, hhd]
      have HB := Lib.hid hbig
      have HLw := Lib.hid hlw
      have hheld : ∀ W, Below wr.heap.size wr W → Calls Tryz.prog 38 #[sag G S B Aw nw cw] W fun e w' => e = .returned (.int .i64 (hh : Int)) ∧ Below W.heap.size W w' := fun W hW => by
        have := rheld_at G S B Aw nw cw Mw Lw W (HW.out.hs.sp.below hW) HW.out.hs.ln HW.out.pl (fun y hy => (HW.out.ok y hy).r) (by omega)
        rw [hhd] at this
        exact this
      clear hhd hbig hlw
      go_wp2_with fail
      go_cut [86] from 74 to 97 (fun u wx => u = .bool (decide (S < nw ∨ B < hh)) ∧ Below wr.heap.size wr wx)
      case first =>
        by_cases h1 : S < nw
        · have k1 : (S : Int) < (nw : Int) := by omega
          go_quiet (fail)
          go_wp2
          go_meet
          exact ⟨by simp [h1], below_dn (Below.refl _ _) _⟩
        · have k1 : ¬ (S : Int) < (nw : Int) := by omega
          have cz0 := cell_regrown z0
          have cz1 := cell_regrown z1
          have cz2 := cell_regrown z2
          have cz3 := cell_regrown z3
          have q1 : ∀ dd os, Calls Tryz.prog 38 #[sag G S B Aw nw cw] (Sort.grow (redrawn wr dd) os) fun e w'' => e = .returned (.int .i64 (hh : Int)) ∧ ∃ p : Regrown, w'' = Sort.grow (redrawn wr p.d) p.os := fun dd os => Calls.regrown_of (hheld _ (below_regrown wr dd os))
          clear z0 z1 z2 z3 hheld
          by_cases h2 : B < hh
          · have k2 : (B : Int) < (hh : Int) := by omega
            refine wp_region_quiet_below (by kernel_rfl) (by kernel_rfl) ?_
            repeat (quiet_step (first | (with_reducible exact q1 _ _)))
            refine wpQuiet_nil ?_
            intro _ hw'
            obtain ⟨⟨dq, osq⟩, hw''⟩ := hw'
            subst hw''
            go_wp2
            go_meet
            exact ⟨by simp [h2], below_regrown wr dq osq⟩
          · have k2 : ¬ (B : Int) < (hh : Int) := by omega
            refine wp_region_quiet_below (by kernel_rfl) (by kernel_rfl) ?_
            repeat (quiet_step (first | (with_reducible exact q1 _ _)))
            refine wpQuiet_nil ?_
            intro _ hw'
            obtain ⟨⟨dq, osq⟩, hw''⟩ := hw'
            subst hw''
            go_wp2
            go_meet
            exact ⟨by simp [h1, h2], below_regrown wr dq osq⟩
      case rest =>
        obtain ⟨rfl, bx⟩ := hcut
        clear z0 z1 z2 z3 hheld
        by_cases hb : S < nw ∨ B < hh
        · have hbg : big S B Lw = true := by rw [HB.out]; simpa using hb
          have hbd : decide (S < nw ∨ B < hh) = true := by simpa using hb
          rw [hbd]
          obtain ⟨z0, z1, z2, z3⟩ := (HW.out.hs.below bx).cells
          obtain ⟨wx, hwx⟩ : ∃ wx, wx = wc := ⟨_, rfl⟩
          subst hwx
          have hn0 : Lw ≠ [] := fun e => by subst e; rw [big_nil] at hbg; cases hbg
          obtain ⟨t, ht⟩ : ∃ t, first G Lw = t := ⟨_, rfl⟩
          have htL : t ∈ trs Lw := by rw [← ht]; exact (first_in hn0).1
          obtain ⟨k1, hk1⟩ : ∃ k1, (trace Lw t).length = k1 := ⟨_, rfl⟩
          obtain ⟨n2, hn2⟩ : ∃ n2, (rest Lw t).length = n2 := ⟨_, rfl⟩
          have hpl := part_len Lw t
          have hrl := rest_less htL
          rw [hn2] at hrl
          rw [hk1, hn2, HLw.out] at hpl
          rw [HLw.out] at hrl
          have HWx := Lib.hid (HW.out.below bx)
          have HF := Lib.hid (fun (W : World) (hW : Below wx.heap.size wx W) => show Calls Tryz.prog 39 #[sag G S B Aw nw cw] W fun e w' => e = .returned (.int .u64 (t : Int)) ∧ Below W.heap.size W w' from by
            have := rfirst_at G S B Aw nw cw Mw Lw W (HWx.out.hs.sp.below hW) HWx.out.hs.ln HWx.out.pl HWx.out.so HWx.out.ok (by omega) hG hn0
            rw [ht] at this
            exact this)
          have HT := Lib.hid (fun (W : World) (hW : Below wx.heap.size wx W) => show Calls Tryz.prog 17 #[sag G S B Aw nw cw, .int .u64 (t : Int)] W fun e w' => ∃ Ak ck M1 A2 c2 M2, e = .returned (.tuple #[.slice Ak k1 ck, sag G S B A2 n2 c2]) ∧ Tp wx G S B Lw t Mw k1 n2 Ak ck M1 A2 c2 M2 w' ∧ Below W.heap.size W w' from
            (rtake_at G S B t Aw nw cw Mw Lw W (HWx.out.hs.sp.below hW) HWx.out.hs.ln HWx.out.pl HWx.out.ok (by omega)).mono fun e w' h => by
              have hb := h
              obtain ⟨_, _, _, _, _, _, _, _, _, _, _, hb, _⟩ := hb
              obtain ⟨Ak, ck, M1, A2, c2, M2, he, hT⟩ := Tp.of h hW hk1 hn2
              exact ⟨Ak, ck, M1, A2, c2, M2, he, hT, hb⟩)
          have HSW := Lib.hid (fun (W : World) (hW : Below wx.heap.size wx W) => show W.cell? ⟨g, 0, none⟩ = some (.int .u64 (G : Int)) ∧ W.cell? ⟨g, 1, none⟩ = some (.int .i64 (S : Int)) ∧ W.cell? ⟨g, 2, none⟩ = some (.int .i64 (B : Int)) ∧ W.cell? ⟨g, 3, none⟩ = some (.slice Aw nw cw) from (HWx.out.below hW).hs.cells)
          have HBg := Lib.hid (And.intro hbg ht)
          clear bx hbg hb hbd hn0 htL hk1 hn2 ht
          go_wp2_with fail
          go_cut [10, 11] from 87 to 93 (fun u10 u11 wy => ∃ Ak ck M1 A2 c2 M2 q, u10 = .slice Ak k1 ck ∧ u11 = .pointer (some ⟨q, 0, none⟩) ∧ Tp wx G S B Lw t Mw k1 n2 Ak ck M1 A2 c2 M2 wy ∧ wx.heap.size ≤ q ∧ Bk wy q 31 #[.int .u64 (G : Int), .int .i64 (S : Int), .int .i64 (B : Int), .slice A2 n2 c2])
          case first =>
            clear z0 z1 z2 z3
            have TW := HSW.out _ (Below.refl wx.heap.size wx)
            refine wp_zed (S := fun W => W.cell? ⟨g, 0, none⟩ = some (.int .u64 (G : Int)) ∧ W.cell? ⟨g, 1, none⟩ = some (.int .i64 (S : Int)) ∧ W.cell? ⟨g, 2, none⟩ = some (.int .i64 (B : Int)) ∧ W.cell? ⟨g, 3, none⟩ = some (.slice Aw nw cw)) (z := 9) mixed ?_
            refine Zed.take (i := 0) (v := sag G S B Aw nw cw) rfl (by kernel_rfl) rfl (by kernel_rfl) (by kernel_rfl) (by kernel_rfl) (fun _ _ _ h => h) ?_ TW ?_
            · refine .inl ⟨rfl, fun W hW => ?_⟩
              obtain ⟨q0, q1, q2, q3⟩ := hW
              go_simp
            (try simp only [Act.put, List.setIfInBounds_toArray, List.set_cons_zero, List.set_cons_succ])
            refine Zed.take (i := 1) (v := sag G S B Aw nw cw) rfl (by kernel_rfl) rfl (by kernel_rfl) (by kernel_rfl) (by kernel_rfl) (fun _ _ _ h => h) ?_ TW ?_
            · refine .inl ⟨rfl, fun W hW => ?_⟩
              obtain ⟨q0, q1, q2, q3⟩ := hW
              go_simp
            (try simp only [Act.put, List.setIfInBounds_toArray, List.set_cons_zero, List.set_cons_succ])
            clear TW
            refine Zed.step2 (i := 2) (j := 7) (by kernel_rfl) rfl rfl rfl rfl (fun K hK => ?_) (fun K hK => ?_)
            · go_simp
              refine (HF.out _ (U12.drew_below wx)).mono ?_
              rintro e v1 ⟨rfl, C1⟩
              have B1 := ((U12.drew_below wx)).trans (C1.mono ((U12.drew_below wx)).size)
              refine hK _ _ ⟨.inr (HSW.out _ B1), ?_⟩
              clear hK K C1
              (try simp only [Act.put, List.setIfInBounds_toArray, List.set_cons_zero, List.set_cons_succ])
              refine Zed.step2 (i := 3) (j := 7) (by kernel_rfl) rfl rfl rfl rfl (fun K hK => ?_) (fun K hK => ?_)
              · go_simp
                refine (HT.out _ B1).mono ?_
                rintro e v2 ⟨Ak, ck, M1, A2, c2, M2, rfl, TP2, CT⟩
                refine hK _ _ ⟨.inr (HSW.out _ TP2.b), ?_⟩
                clear hK K
                (try simp only [Act.put, List.setIfInBounds_toArray, List.set_cons_zero, List.set_cons_succ])
                have TW9 := HSW.out _ TP2.b
                refine Zed.take (i := 4) (v := .tuple #[.slice Ak k1 ck, sag G S B A2 n2 c2]) rfl (by kernel_rfl) rfl (by kernel_rfl) (by kernel_rfl) (by kernel_rfl) (fun _ _ _ h => h) ?_ TW9 ?_
                · refine .inl ⟨rfl, fun W hW => ?_⟩
                  obtain ⟨q0, q1, q2, q3⟩ := hW
                  go_simp
                (try simp only [Act.put, List.setIfInBounds_toArray, List.set_cons_zero, List.set_cons_succ])
                refine Zed.take (i := 5) (v := .slice Ak k1 ck) rfl (by kernel_rfl) rfl (by kernel_rfl) (by kernel_rfl) (by kernel_rfl) (fun _ _ _ h => h) ?_ TW9 ?_
                · refine .inl ⟨rfl, fun W hW => ?_⟩
                  obtain ⟨q0, q1, q2, q3⟩ := hW
                  go_simp
                (try simp only [Act.put, List.setIfInBounds_toArray, List.set_cons_zero, List.set_cons_succ])
                refine Zed.take (i := 6) (v := sag G S B A2 n2 c2) rfl (by kernel_rfl) rfl (by kernel_rfl) (by kernel_rfl) (by kernel_rfl) (fun _ _ _ h => h) ?_ TW9 ?_
                · refine .inl ⟨rfl, fun W hW => ?_⟩
                  obtain ⟨q0, q1, q2, q3⟩ := hW
                  go_simp
                (try simp only [Act.put, List.setIfInBounds_toArray, List.set_cons_zero, List.set_cons_succ])
                clear TW9 CT
                refine Zed.step (i := 7) (by kernel_rfl) rfl rfl (fun K hK => ?_)
                have kq0 : Bk ((v2).alloc (.cells #[.int .u64 0, .int .i64 0, .int .i64 0, .slice none 0 0] 31)) v2.heap.size 31 #[.int .u64 0, .int .i64 0, .int .i64 0, .slice none 0 0] := Bk.new (v2) 31 #[.int .u64 0, .int .i64 0, .int .i64 0, .slice none 0 0]
                have Ca : Below (v2).heap.size (v2) ((v2).alloc (.cells #[.int .u64 0, .int .i64 0, .int .i64 0, .slice none 0 0] 31)) := (Below.refl _ _).alloc (Nat.le_refl _) _
                have Ba := (TP2.b).trans (Ca.mono (TP2.b).size)
                have hqa : wx.heap.size ≤ v2.heap.size := (TP2.b).size
                go_simp
                refine hK _ _ ⟨.inr (HSW.out _ Ba), ?_⟩
                clear hK K
                (try simp only [Act.put, List.setIfInBounds_toArray, List.set_cons_zero, List.set_cons_succ])
                have TPw := TP2.below Ca
                have kqw := kq0
                have FA := Lib.hid (And.intro (TP2.below ((Below.refl _ _).alloc (Nat.le_refl _) (.cells #[.int .u64 (G : Int), .int .i64 (S : Int), .int .i64 (B : Int), .slice A2 n2 c2] 31))) (Bk.new v2 31 #[.int .u64 (G : Int), .int .i64 (S : Int), .int .i64 (B : Int), .slice A2 n2 c2]))
                clear kq0 Ca Ba TP2
                refine Zed.step (i := 8) (by kernel_rfl) rfl rfl (fun K hK => ?_)
                go_simp
                refine hK _ _ ⟨.inr (HSW.out _ TPw.b), ?_⟩
                clear hK K
                (try simp only [Act.put, List.setIfInBounds_toArray, List.set_cons_zero, List.set_cons_succ])
                have s0 := kqw.cell 0
                have s1 := kqw.cell 1
                have s2 := kqw.cell 2
                have s3 := kqw.cell 3
                simp only [List.getElem?_toArray, List.getElem?_cons_zero, List.getElem?_cons_succ] at s0 s1 s2 s3
                have u0 := kqw.frozen 0
                have u1 := kqw.frozen 1
                have u2 := kqw.frozen 2
                have u3 := kqw.frozen 3
                have FE := Lib.hid (TPw.set kqw hqa (.int .u64 (G : Int)) (.int .i64 (S : Int)) (.int .i64 (B : Int)) (.slice A2 n2 c2))
                refine Zed.step (i := 9) (by kernel_rfl) rfl rfl (fun K hK => ?_)
                go_simp
                refine hK _ _ ⟨.inl rfl, Zed.done (by kernel_rfl) ?_ _⟩
                clear hK K s0 s1 s2 s3 u0 u1 u2 u3
                (try simp only [Act.put, List.setIfInBounds_toArray, List.set_cons_zero, List.set_cons_succ])
                have HQ := Lib.hid hqa
                clear TPw kqw hqa
                go_wp2_with fail
                go_meet
                exact ⟨Ak, ck, M1, A2, c2, M2, _, rfl, rfl, FA.out.1, HQ.out, FA.out.2⟩
              · have kq0 : Bk ((v1).alloc (.cells #[.int .u64 0, .int .i64 0, .int .i64 0, .slice none 0 0] 31)) v1.heap.size 31 #[.int .u64 0, .int .i64 0, .int .i64 0, .slice none 0 0] := Bk.new (v1) 31 #[.int .u64 0, .int .i64 0, .int .i64 0, .slice none 0 0]
                have Ca : Below (v1).heap.size (v1) ((v1).alloc (.cells #[.int .u64 0, .int .i64 0, .int .i64 0, .slice none 0 0] 31)) := (Below.refl _ _).alloc (Nat.le_refl _) _
                have Ba := (B1).trans (Ca.mono (B1).size)
                have hqa : wx.heap.size ≤ v1.heap.size := (B1).size
                go_simp
                refine hK _ _ ⟨.inr (HSW.out _ Ba), ?_⟩
                clear hK K
                (try simp only [Act.put, List.setIfInBounds_toArray, List.set_cons_zero, List.set_cons_succ])
                refine Zed.step (i := 3) (by kernel_rfl) rfl rfl (fun K hK => ?_)
                go_simp
                refine (HT.out _ Ba).mono ?_
                rintro e v2 ⟨Ak, ck, M1, A2, c2, M2, rfl, TP2, CT⟩
                refine hK _ _ ⟨.inr (HSW.out _ TP2.b), ?_⟩
                clear hK K
                (try simp only [Act.put, List.setIfInBounds_toArray, List.set_cons_zero, List.set_cons_succ])
                have TW9 := HSW.out _ TP2.b
                refine Zed.take (i := 4) (v := .tuple #[.slice Ak k1 ck, sag G S B A2 n2 c2]) rfl (by kernel_rfl) rfl (by kernel_rfl) (by kernel_rfl) (by kernel_rfl) (fun _ _ _ h => h) ?_ TW9 ?_
                · refine .inl ⟨rfl, fun W hW => ?_⟩
                  obtain ⟨q0, q1, q2, q3⟩ := hW
                  go_simp
                (try simp only [Act.put, List.setIfInBounds_toArray, List.set_cons_zero, List.set_cons_succ])
                refine Zed.take (i := 5) (v := .slice Ak k1 ck) rfl (by kernel_rfl) rfl (by kernel_rfl) (by kernel_rfl) (by kernel_rfl) (fun _ _ _ h => h) ?_ TW9 ?_
                · refine .inl ⟨rfl, fun W hW => ?_⟩
                  obtain ⟨q0, q1, q2, q3⟩ := hW
                  go_simp
                (try simp only [Act.put, List.setIfInBounds_toArray, List.set_cons_zero, List.set_cons_succ])
                refine Zed.take (i := 6) (v := sag G S B A2 n2 c2) rfl (by kernel_rfl) rfl (by kernel_rfl) (by kernel_rfl) (by kernel_rfl) (fun _ _ _ h => h) ?_ TW9 ?_
                · refine .inl ⟨rfl, fun W hW => ?_⟩
                  obtain ⟨q0, q1, q2, q3⟩ := hW
                  go_simp
                (try simp only [Act.put, List.setIfInBounds_toArray, List.set_cons_zero, List.set_cons_succ])
                clear TW9
                have TPw := TP2
                have kqw := kq0.below CT
                clear kq0 Ca Ba TP2 CT
                refine Zed.step (i := 8) (by kernel_rfl) rfl rfl (fun K hK => ?_)
                go_simp
                refine hK _ _ ⟨.inr (HSW.out _ TPw.b), ?_⟩
                clear hK K
                (try simp only [Act.put, List.setIfInBounds_toArray, List.set_cons_zero, List.set_cons_succ])
                have s0 := kqw.cell 0
                have s1 := kqw.cell 1
                have s2 := kqw.cell 2
                have s3 := kqw.cell 3
                simp only [List.getElem?_toArray, List.getElem?_cons_zero, List.getElem?_cons_succ] at s0 s1 s2 s3
                have u0 := kqw.frozen 0
                have u1 := kqw.frozen 1
                have u2 := kqw.frozen 2
                have u3 := kqw.frozen 3
                have FE := Lib.hid (TPw.set kqw hqa (.int .u64 (G : Int)) (.int .i64 (S : Int)) (.int .i64 (B : Int)) (.slice A2 n2 c2))
                refine Zed.step (i := 9) (by kernel_rfl) rfl rfl (fun K hK => ?_)
                go_simp
                refine hK _ _ ⟨.inl rfl, Zed.done (by kernel_rfl) ?_ _⟩
                clear hK K s0 s1 s2 s3 u0 u1 u2 u3
                (try simp only [Act.put, List.setIfInBounds_toArray, List.set_cons_zero, List.set_cons_succ])
                have HQ := Lib.hid hqa
                clear TPw kqw hqa
                go_wp2_with fail
                go_meet
                exact ⟨Ak, ck, M1, A2, c2, M2, _, rfl, rfl, FE.out.1, HQ.out, FE.out.2⟩
            · have kq0 : Bk ((wx.drew).alloc (.cells #[.int .u64 0, .int .i64 0, .int .i64 0, .slice none 0 0] 31)) wx.heap.size 31 #[.int .u64 0, .int .i64 0, .int .i64 0, .slice none 0 0] := Bk.new (wx.drew) 31 #[.int .u64 0, .int .i64 0, .int .i64 0, .slice none 0 0]
              have Ca : Below (wx.drew).heap.size (wx.drew) ((wx.drew).alloc (.cells #[.int .u64 0, .int .i64 0, .int .i64 0, .slice none 0 0] 31)) := (Below.refl _ _).alloc (Nat.le_refl _) _
              have Ba := ((U12.drew_below wx)).trans (Ca.mono ((U12.drew_below wx)).size)
              have hqa : wx.heap.size ≤ wx.heap.size := ((U12.drew_below wx)).size
              go_simp
              refine hK _ _ ⟨.inr (HSW.out _ Ba), ?_⟩
              clear hK K
              (try simp only [Act.put, List.setIfInBounds_toArray, List.set_cons_zero, List.set_cons_succ])
              refine Zed.step (i := 2) (by kernel_rfl) rfl rfl (fun K hK => ?_)
              go_simp
              refine (HF.out _ Ba).mono ?_
              rintro e v1 ⟨rfl, C1⟩
              have B1 := (Ba).trans (C1.mono (Ba).size)
              refine hK _ _ ⟨.inr (HSW.out _ B1), ?_⟩
              clear hK K
              (try simp only [Act.put, List.setIfInBounds_toArray, List.set_cons_zero, List.set_cons_succ])
              refine Zed.step (i := 3) (by kernel_rfl) rfl rfl (fun K hK => ?_)
              go_simp
              refine (HT.out _ B1).mono ?_
              rintro e v2 ⟨Ak, ck, M1, A2, c2, M2, rfl, TP2, CT⟩
              refine hK _ _ ⟨.inr (HSW.out _ TP2.b), ?_⟩
              clear hK K
              (try simp only [Act.put, List.setIfInBounds_toArray, List.set_cons_zero, List.set_cons_succ])
              have TW9 := HSW.out _ TP2.b
              refine Zed.take (i := 4) (v := .tuple #[.slice Ak k1 ck, sag G S B A2 n2 c2]) rfl (by kernel_rfl) rfl (by kernel_rfl) (by kernel_rfl) (by kernel_rfl) (fun _ _ _ h => h) ?_ TW9 ?_
              · refine .inl ⟨rfl, fun W hW => ?_⟩
                obtain ⟨q0, q1, q2, q3⟩ := hW
                go_simp
              (try simp only [Act.put, List.setIfInBounds_toArray, List.set_cons_zero, List.set_cons_succ])
              refine Zed.take (i := 5) (v := .slice Ak k1 ck) rfl (by kernel_rfl) rfl (by kernel_rfl) (by kernel_rfl) (by kernel_rfl) (fun _ _ _ h => h) ?_ TW9 ?_
              · refine .inl ⟨rfl, fun W hW => ?_⟩
                obtain ⟨q0, q1, q2, q3⟩ := hW
                go_simp
              (try simp only [Act.put, List.setIfInBounds_toArray, List.set_cons_zero, List.set_cons_succ])
              refine Zed.take (i := 6) (v := sag G S B A2 n2 c2) rfl (by kernel_rfl) rfl (by kernel_rfl) (by kernel_rfl) (by kernel_rfl) (fun _ _ _ h => h) ?_ TW9 ?_
              · refine .inl ⟨rfl, fun W hW => ?_⟩
                obtain ⟨q0, q1, q2, q3⟩ := hW
                go_simp
              (try simp only [Act.put, List.setIfInBounds_toArray, List.set_cons_zero, List.set_cons_succ])
              clear TW9
              have TPw := TP2
              have kqw := (kq0.below C1).below CT
              clear kq0 Ca Ba TP2 CT C1
              refine Zed.step (i := 8) (by kernel_rfl) rfl rfl (fun K hK => ?_)
              go_simp
              refine hK _ _ ⟨.inr (HSW.out _ TPw.b), ?_⟩
              clear hK K
              (try simp only [Act.put, List.setIfInBounds_toArray, List.set_cons_zero, List.set_cons_succ])
              have s0 := kqw.cell 0
              have s1 := kqw.cell 1
              have s2 := kqw.cell 2
              have s3 := kqw.cell 3
              simp only [List.getElem?_toArray, List.getElem?_cons_zero, List.getElem?_cons_succ] at s0 s1 s2 s3
              have u0 := kqw.frozen 0
              have u1 := kqw.frozen 1
              have u2 := kqw.frozen 2
              have u3 := kqw.frozen 3
              have FE := Lib.hid (TPw.set kqw hqa (.int .u64 (G : Int)) (.int .i64 (S : Int)) (.int .i64 (B : Int)) (.slice A2 n2 c2))
              refine Zed.step (i := 9) (by kernel_rfl) rfl rfl (fun K hK => ?_)
              go_simp
              refine hK _ _ ⟨.inl rfl, Zed.done (by kernel_rfl) ?_ _⟩
              clear hK K s0 s1 s2 s3 u0 u1 u2 u3
              (try simp only [Act.put, List.setIfInBounds_toArray, List.set_cons_zero, List.set_cons_succ])
              have HQ := Lib.hid hqa
              clear TPw kqw hqa
              go_wp2_with fail
              go_meet
              exact ⟨Ak, ck, M1, A2, c2, M2, _, rfl, rfl, FE.out.1, HQ.out, FE.out.2⟩
          case rest =>
            obtain ⟨Ak, ck, M1, A2, c2, M2, q, rfl, rfl, TP, hq, kq⟩ := hcut
            have hone : ∀ u ∈ M1.flatMap ten, u.oneCell' = true := tm_one M1
            have hfw := HWx.out.few.2
            have hl0 := shrink_len (G := G) (S := S) (B := B) (put L (s, l))
            have hpl0 : (put L (s, l)).length ≤ 301 := by
              rw [(put_perm L (s, l)).length_eq, List.length_cons]
              have h3 : (era L (s, l)).length ≤ L.length := List.length_filter_le _ _
              have h4 := HLn.out
              omega
            have hrd := TP.r1.rd
            rw [TP.l1] at hrd
            obtain ⟨hrow, hst⟩ := Hl.step HA00.out hg HWx.out HBg.out.1 HBg.out.2 TP.b TP.p1 TP.l1 TP.p2 TP.l2 TP.r1 TP.r2 TP.m1 TP.m2 TP.hf kq hq
            have HST := Lib.hid hst
            have dsz : g + 3 ≤ wc.heap.size := by
              have h1 := (HWx.out.hs.below TP.b).kr
              have := (Array.getElem?_eq_some_iff.1 h1).1
              omega
            have da : ng + k1 ≤ maxLen := by unfold maxLen; omega
            have db : (ng + k1) * 112 ≤ 140737488355328 := by omega
            have hn2l : n2 ≤ 301 := by omega
            clear hst hfw hl0 hpl0 kq hq TP
            go_wp2_with (at_builtin; refine append_rd_at _ rfl (.tmp 94) (.tmp 95) 29 rfl (g + 3) 34 i0 _ 10 112 Tryz.underlying29 hi hz0 hz1 hz2 rfl (by decide) (.slice Ag ng cg) ng (Mg.flatMap ten) rfl hrow Ak k1 ck (M1.flatMap ten) rfl hrd hone da db dsz ?_)
            intro A6 c6 w6 hrow6 hg6 hat6
            obtain ⟨kq6, kg6, HN6⟩ := HST.out A6 c6 w6 hrow6 hg6 hat6
            have s0 := kq6.cell 0
            have s1 := kq6.cell 1
            have s2 := kq6.cell 2
            have s3 := kq6.cell 3
            have t0 := kg6.cell 0
            have t1 := kg6.cell 1
            have t2 := kg6.cell 2
            have t3 := kg6.cell 3
            simp only [sac, List.getElem?_toArray, List.getElem?_cons_zero, List.getElem?_cons_succ] at s0 s1 s2 s3 t0 t1 t2 t3
            have u0 := kg6.frozen 0
            have u1 := kg6.frozen 1
            have u2 := kg6.frozen 2
            have u3 := kg6.frozen 3
            obtain ⟨Y, hY⟩ : ∃ Y, (((w6.setCell ⟨g, 0, none⟩ (.int .u64 (G : Int))).setCell ⟨g, 1, none⟩ (.int .i64 (S : Int))).setCell ⟨g, 2, none⟩ (.int .i64 (B : Int))).setCell ⟨g, 3, none⟩ (.slice A2 n2 c2) = Y := ⟨_, rfl⟩
            have HE := Lib.hid (HN6 Y (by rw [← hY]; exact (((((Fr.refl _ w6).then (Fr.setCell _ ⟨g, 0, none⟩ _ (by simp))).then (Fr.setCell _ ⟨g, 1, none⟩ _ (by simp))).then (Fr.setCell _ ⟨g, 2, none⟩ _ (by simp))).then (Fr.setCell _ ⟨g, 3, none⟩ _ (by simp)))) (by rw [← hY]; exact (((kg6.set 0 _).set 1 _).set 2 _).set 3 _))
            have HY := Lib.hid hY
            clear hrow6 hg6 hat6 kq6 kg6 HN6 hY hrow hrd hone da db dsz HST
            go_wp2_with fail
            rw [HY.out]
            clear s0 s1 s2 s3 t0 t1 t2 t3 u0 u1 u2 u3
            go_wp2
            have c3' := HE.out.hs.cells.2.2.2
            go_roundw
            case rel => exact ⟨A2, n2, c2, M2, A6, ng + k1, c6, Mg ++ M1, rest Lw t, rfl, hn2l, HE⟩
            case measure =>
              rw [Z3W.out, c3']
              exact hrl
        · have hbg : big S B Lw = false := by
            rw [HB.out]
            simp only [not_or] at hb
            simp [hb.1, hb.2]
          have hbd : decide (S < nw ∨ B < hh) = false := by simpa using hb
          rw [hbd]
          have H := HW.out.below bx
          obtain ⟨z0, z1, z2, z3⟩ := H.hs.cells
          have kr : Bk wc (g + 1 + 1) 31 #[.int .u64 0, .int .i64 0, .int .i64 0, .slice none 0 0] := H.hs.kr
          have r0 := kr.cell 0
          have r1 := kr.cell 1
          have r2 := kr.cell 2
          have r3 := kr.cell 3
          simp only [List.getElem?_toArray, List.getElem?_cons_zero, List.getElem?_cons_succ] at r0 r1 r2 r3
          have v0 := kr.frozen 0
          have v1 := kr.frozen 1
          have v2 := kr.frozen 2
          have v3 := kr.frozen 3
          obtain ⟨Y, hY⟩ : ∃ Y, (((wc.setCell ⟨g + 1 + 1, 0, none⟩ (.int .u64 (G : Int))).setCell ⟨g + 1 + 1, 1, none⟩ (.int .i64 (S : Int))).setCell ⟨g + 1 + 1, 2, none⟩ (.int .i64 (B : Int))).setCell ⟨g + 1 + 1, 3, none⟩ (.slice Aw nw cw) = Y := ⟨_, rfl⟩
          have kY : Bk Y (g + 1 + 1) 31 #[.int .u64 (G : Int), .int .i64 (S : Int), .int .i64 (B : Int), .slice Aw nw cw] := by rw [← hY]; exact (((kr.set 0 _).set 1 _).set 2 _).set 3 _
          have fY : Wd.Fr [g + 2] wc Y := by rw [← hY]; exact (((((Fr.refl _ wc).then (Fr.setCell _ ⟨g + 1 + 1, 0, none⟩ _ (by simp))).then (Fr.setCell _ ⟨g + 1 + 1, 1, none⟩ _ (by simp))).then (Fr.setCell _ ⟨g + 1 + 1, 2, none⟩ _ (by simp))).then (Fr.setCell _ ⟨g + 1 + 1, 3, none⟩ _ (by simp)))
          have FIN := Lib.hid (show RaOut w A M ⟨s, A1, c1, l⟩ G S B L (s, l) _ Y from Hl.out HA00.out hg H hbg HTl.out.1 HTl.out.2 fY A M _ HM00.out)
          have y0 := kY.cell 0
          have y1 := kY.cell 1
          have y2 := kY.cell 2
          have y3 := kY.cell 3
          simp only [List.getElem?_toArray, List.getElem?_cons_zero, List.getElem?_cons_succ] at y0 y1 y2 y3
          have HY := Lib.hid hY
          clear hY kr kY fY H bx hbg hb hbd
          go_wp2_with fail
          rw [HY.out]
          clear z0 z1 z2 z3 r0 r1 r2 r3 v0 v1 v2 v3
          go_wp2
          refine bodyPost_ret (by simp [results, Tryz.results13, go_sem, y0, y1, y2, y3]; try rfl) rfl ?_
          exact FIN.out
end Go.Proofs.YtdmibolbpgondaaGreat.X15
