/-
  The walk of WmarkPlays.
-/
import Derived.Test.YtmonjlnmkkdnfaaW13Play
import Derived.Deep.CutRange
set_option linter.unusedSimpArgs false
set_option linter.unusedVariables false
namespace Go.Proofs.Ytmonjlnmkkdnfaa.W13
open Go.RowKit Go.Lib Go.Proofs.Ytmonjlnmkkdnfaa.Wd

set_option maxRecDepth 20000 in
set_option maxHeartbeats 2000000 in
theorem plays_wrong (n : Int) (late idle : Nat) (A0 : Option Addr) (c0 n0 : Nat) (w : World) (hR : ¬ Rt n late idle) (hn0 : n0 ≤ 40) :
    Calls Try.prog 3 #[.int .i64 n, .int .u64 (late : Int), .int .u64 (idle : Int), .slice A0 n0 c0] w fun r w' => r = .returned (.bool true) ∧ Below w.heap.size w w' := by
  go_enter Try.func3, Try.ntmps3
  go_wp2_with fail
  refine (alive_any _).mono ?_
  rintro r w1 ⟨rfl, b0⟩
  have hnew := new_wrong n late idle w1 hR
  unfold Rt at hR
  go_wp2_with fail
  refine hnew.mono ?_
  rintro r w2 ⟨rfl, rfl⟩
  clear hnew
  by_cases h1 : n < 1
  · clear hR
    go_wp2
    go_ret
    exact ⟨rfl, b0⟩
  · by_cases h2 : 16 < n
    · clear hR
      go_wp2
      go_ret
      exact ⟨rfl, b0⟩
    · by_cases h3 : (4611686018427387904 : Int) < (late : Int)
      · clear hR
        go_wp2
        go_ret
        exact ⟨rfl, b0⟩
      · have h4 : (4611686018427387904 : Int) < (idle : Int) := by omega
        clear hR
        go_wp2
        go_ret
        exact ⟨rfl, b0⟩
set_option maxRecDepth 20000 in
set_option maxHeartbeats 8000000 in
theorem plays_right (N late idle : Nat) (A0 : Option Addr) (c0 n0 : Nat) (L : List Ac) (w : World) (hR : Rt (N : Int) late idle) (hA : Acs w A0 c0 L) (hok : ∀ y ∈ L, y.Ok) (hn0 : L.length = n0) (h40 : n0 ≤ 40) :
    Calls Try.prog 3 #[.int .i64 (N : Int), .int .u64 (late : Int), .int .u64 (idle : Int), .slice A0 n0 c0] w fun r w' => r = .returned (.bool true) ∧ Below w.heap.size w w' := by
  obtain ⟨i0, hi, hz0, hz1, hz2⟩ := info_two act_info
  have HN := Lib.hid hn0
  have HA := Lib.hid hA
  have HOK := Lib.hid hok
  clear hn0 hA hok
  have hR1 := hR
  obtain ⟨hr1, hr2, hr3, hr4⟩ := hR
  have hN0 : 0 < N := by omega
  have hN1 : N ≤ 16 := by omega
  have k3 : ¬ (4611686018427387904 : Int) < (late : Int) := by omega
  have k4 : ¬ (4611686018427387904 : Int) < (idle : Int) := by omega
  clear hr1 hr2 hr3 hr4
  go_enter Try.func3, Try.ntmps3
  go_wp2_with fail
  refine (alive_any _).mono ?_
  rintro r w1 ⟨rfl, b0⟩
  have hnew := new_right N late idle w1 hR1
  go_wp2_with fail
  refine hnew.mono ?_
  rintro r w2 ⟨p, rfl, C, b1⟩
  obtain ⟨B, hB⟩ : ∃ B, w2.heap.size = B := ⟨_, rfl⟩
  have Z0 := Lib.hid (show PZ w w2 p (Cl.init N late idle) none 0 0 [] B from ⟨⟨w1.heap.size, B, hB ▸ C, b0.size, Nat.le_refl _⟩, World.ownsRow_nil _ _ _ _, rfl, b0.trans (b1.mono b0.size), by have := b0.size; have := b1.size; omega, by omega⟩)
  have P0 := Lib.hid (Pv.init N late idle)
  have E0 := Lib.hid (show ∀ y ∈ ([] : List Ac), (y.E : Int) ≤ 18446744073709551615 from fun y h => by cases h)
  have T0 := Lib.hid (show (0 : Int) = ((Cl.init N late idle).now : Int) ∧ (Cl.init N late idle).now ≤ 0 from ⟨rfl, Nat.le_refl _⟩)
  clear hnew C b0 b1 hB hR1
  go_wp2
  go_loopw [11, 12, 13] (fun v11 v12 v13 wr => ∃ (A : Option Addr) (r d i : Nat) (c : Cl) (D : List Ac), v11 = .slice A r d ∧ v12 = .int .u64 (c.now : Int) ∧ v13 = .int .i64 (i : Int) ∧ i ≤ n0 ∧ r ≤ i ∧ Hid (c.now ≤ i) ∧ Hid (PZ w wr p c A r d D B) ∧ Hid (Pv N late idle c D) ∧ Hid (∀ y ∈ D, (y.E : Int) ≤ 18446744073709551615)) (fun _ _ v13 _ => n0 - (intOf v13).toNat)
  case atStart => exact ⟨none, 0, 0, 0, _, [], rfl, by rw [← T0.out.1], rfl, Nat.zero_le _, Nat.le_refl _, Lib.hid T0.out.2, Z0, P0, E0⟩
  case round =>
    clear Z0 P0 E0 T0
    obtain ⟨A, r, d, i, c, D, rfl, rfl, rfl, hin, hri, T, Z, P, E⟩ := hrel
    by_cases hlt : i < n0
    · have hil : i < L.length := by rw [HN.out]; exact hlt
      obtain ⟨ad, pp, rfl, hpp, x0, x1⟩ := (HA.out.below Z.out.bel).get hil
      have hyok := HOK.out L[i] (List.getElem_mem hil)
      generalize L[i] = y at *
      obtain ⟨S, F⟩ := y
      have hF : (F : Int) ≤ 18446744073709551615 := hyok.2
      have hSS : -9223372036854775808 ≤ S ∧ S ≤ 9223372036854775807 := hyok.1
      simp only at x0 x1
      have YY : PY w (wr.alloc (.cells #[.int .i64 S, .int .u64 (F : Int)] 30)) p c A r d D B wr.heap.size ⟨S, F⟩ := Z.out.act ⟨S, F⟩
      have z0 : (0 : Int) ≤ (i : Int) := by omega
      have z1 : ((i : Int)).toNat = i := by omega
      have hTi := T.out
      clear Z hyok
      go_upto_region 16 with fail
      generalize wr.alloc (.cells #[.int .i64 S, .int .u64 (F : Int)] 30) = W at *
      obtain ⟨b, hb⟩ : ∃ b, wr.heap.size = b := ⟨_, rfl⟩
      rw [hb] at YY ⊢
      clear x0 x1 hpp hb
      have x0 : W.cell? ⟨b, 0, none⟩ = some (.int .i64 S) := YY.x.c0
      have x1 : W.cell? ⟨b, 1, none⟩ = some (.int .u64 (F : Int)) := YY.x.c1
      by_cases hneg : S < 0
      · have ht := YY.tick (by omega)
        have P2 := Lib.hid (P.out.tick (y := ⟨-1, F⟩) (by show (-1 : Int) < 0; omega))
        have hw : IntKind.u64.wrap ((c.now : Int) + 1) = (c.tick.now : Int) := by rw [IntWalk.u64_in _ (by omega)]; rfl
        have T2 := Lib.hid (show c.tick.now ≤ i + 1 from Nat.succ_le_succ hTi)
        clear P T hTi YY
        go_wp2_with fail
        refine ht.mono ?_
        rintro r9 w3 ⟨rfl, Y3⟩
        have Y4 := Y3.turn
        have f0 := Y3.x.f0
        have x0 : w3.cell? ⟨b, 0, none⟩ = some (.int .i64 S) := Y3.x.c0
        clear ht Y3 x1
        go_upto_region 20 with fail
        generalize w3.setCell ⟨b, 0, none⟩ (.int .i64 (-1)) = W4 at *
        clear f0 x0 hneg
        generalize hc2 : c.tick = c2 at *
        clear hc2
        have x0 : W4.cell? ⟨b, 0, none⟩ = some (.int .i64 (-1)) := Y4.x.c0
        have x1 : W4.cell? ⟨b, 1, none⟩ = some (.int .u64 (F : Int)) := Y4.x.c1
        have bL := below_box W4 (.cells #[.int .i64 (-1), .int .u64 (F : Int)] 30)
        have Y5 := Y4.below bL
        have own4 : World.ownsRow _ B 30 2 (.slice A r d) r (arow D) := Y5.z.own
        have hlit : Rd 2 (W4.alloc (.cells #[.int .i64 (-1), .int .u64 (F : Int)] 30)) (some ⟨W4.heap.size, 0, none⟩) 1 1 (ac ⟨-1, F⟩) := lit_at W4 ⟨-1, F⟩
        have hone := ac_one ⟨-1, F⟩
        have d1 : r + 1 ≤ maxLen := by unfold maxLen; omega
        have d2 : (r + 1) * 16 ≤ 140737488355328 := by omega
        have d3 := Y5.z.B
        clear Y4 bL
        go_wp2_with (at_builtin; refine wpList_append_rd _ rfl (.tmp 69) (.tmp 71) 23 rfl B 30 i0 _ 2 16 Try.underlying23 hi hz0 hz1 hz2 rfl (by decide) (.slice A r d) r (arow D) rfl own4 (some ⟨W4.heap.size, 0, none⟩) 1 1 (ac ⟨-1, F⟩) rfl hlit hone d1 d2 d3 ?_)
        intro A1 e1 w5 own5 hg5
        obtain ⟨Z6, X6⟩ := Y5.grown hg5 own5
        have x1 : w5.cell? ⟨b, 1, none⟩ = some (.int .u64 (F : Int)) := X6.c1
        clear x0 Y5 own4 hlit hone d1 d2 d3 own5 hg5 X6
        have E2 := Lib.hid (show ∀ z ∈ D ++ [⟨-1, F⟩], (z.E : Int) ≤ 18446744073709551615 from fun z hz => by
          rcases List.mem_append.1 hz with hz | hz
          · exact E.out z hz
          · simp only [List.mem_singleton] at hz
            subst hz
            exact hF)
        clear E
        generalize D ++ [⟨-1, F⟩] = D2 at *
        have hgl := rglobal_at N late idle Z6.acs Z6.len (by omega) hN1 E2.out
        have e3 : gl D2 N late idle (r + 1) = c2.mark := by rw [P2.out.mark, Z6.len]
        rw [e3] at hgl
        clear e3
        obtain ⟨mk, hmk⟩ : ∃ mk, c2.mark = mk := ⟨_, rfl⟩
        rw [hmk] at hgl
        have hm := fun k => ((Z6.below (below_dn (Below.refl w5.heap.size w5) k)).mark mk hmk).mono fun _ _ h => (⟨h.1, h.2.symm⟩ : _ ∧ _ = w5.drewN k)
        have hnw := fun k => ((Z6.below (below_dn (Below.refl w5.heap.size w5) k)).now).mono fun _ _ h => (⟨h.1, h.2.symm⟩ : _ ∧ _ = w5.drewN k)
        have hl := fun k => ((Z6.below (below_dn (Below.refl w5.heap.size w5) k)).late mk F hmk).mono fun _ _ h => (⟨h.1, h.2.symm⟩ : _ ∧ _ = w5.drewN k)
        clear hmk
        go_wp2_with fail
        refine hgl.mono ?_
        rintro r9 w6 ⟨rfl, rfl⟩
        clear hgl
        go_wp2_with fail
        go_quiet (first | (go_at_call 13; exact Calls.quiet_of_same (hm _)) | (go_at_call 14; exact Calls.quiet_of_same (hnw _)) | (go_at_call 15; exact Calls.quiet_of_same (hl _)))
        have Z7 := Lib.hid (Z6.below (below_dn (Below.refl w5.heap.size w5) nq))
        clear hm hnw hl Z6 x1
        generalize w5.drewN nq = W7 at *
        have K0 := Lib.hid (show (-1 : Int) = ((0 : Nat) : Int) - 1 from rfl)
        go_wp2
        go_loopw [17] (fun v17 wr2 => ∃ k : Nat, v17 = .int .i64 ((k : Int) - 1) ∧ k ≤ N + 2 ∧ Hid (PZ w wr2 p c2 A1 (r + 1) e1 D2 B)) (fun v17 _ => N + 2 - (intOf v17 + 1).toNat)
        case atStart => exact ⟨0, by rw [← K0.out], by omega, Z7⟩
        case round =>
          clear Z7 K0
          obtain ⟨k, rfl, hk, Z8⟩ := hrel
          obtain ⟨z, hz⟩ : ∃ z : Int, (k : Int) - 1 = z := ⟨_, rfl⟩
          have HZ := Lib.hid (show z + 1 = ((k + 1 : Nat) : Int) - 1 by omega)
          have hzb : -1 ≤ z := by omega
          have hzk : (z + 1).toNat = k := by omega
          rw [hz]
          by_cases hzn : z ≤ (N : Int)
          · by_cases hzi : 0 ≤ z ∧ z < (N : Int)
            · obtain ⟨hz0', hz1'⟩ := hzi
              obtain ⟨s, rfl⟩ : ∃ s : Nat, z = (s : Int) := ⟨z.toNat, by omega⟩
              have hsN : s < N := by omega
              have h1 := Z8.out.idle s (by rw [P2.out.w.eN]; exact hsN)
              rw [P2.out.w.qt hsN] at h1
              generalize hbb : rt D2 (s : Int) idle = bb at *
              clear hz
              go_wp2_with fail
              refine h1.mono ?_
              rintro r9 w8 ⟨rfl, Z9⟩
              have h2 := ridle_at (s : Int) idle Z9.acs Z9.len (by omega)
              rw [hbb] at h2
              have Z10 := Lib.hid Z9
              clear h1 hbb Z8 Z9
              go_wp2_with fail
              refine h2.mono ?_
              rintro r9 w9 ⟨rfl, rfl⟩
              clear h2
              go_wp2
              go_roundw
              case rel => exact ⟨k + 1, by rw [← HZ.out], by omega, Z10⟩
              case measure => first | go_num | (simp [intOf]; omega)
            · have ho : isS c2 z = false := by
                unfold isS
                rw [P2.out.w.eN]
                exact decide_eq_false (by omega)
              have h1 := Z8.out.idle_out z ho
              clear ho hz
              by_cases hz0' : z < 0
              · go_wp2_with fail
                refine h1.mono ?_
                rintro r9 w8 ⟨rfl, rfl⟩
                clear h1
                go_wp2
                go_roundw
                case rel => exact ⟨k + 1, by rw [← HZ.out], by omega, Z8⟩
                case measure => first | go_num | (simp [intOf]; omega)
              · have hz1' : ¬ z < (N : Int) := by omega
                go_wp2_with fail
                refine h1.mono ?_
                rintro r9 w8 ⟨rfl, rfl⟩
                clear h1
                go_wp2
                go_roundw
                case rel => exact ⟨k + 1, by rw [← HZ.out], by omega, Z8⟩
                case measure => first | go_num | (simp [intOf]; omega)
          · clear hz HZ hzk
            go_wp2
            go_roundw
            case rel => exact ⟨A1, r + 1, e1, i + 1, c2, D2, rfl, rfl, by go_num, by omega, by omega, T2, Z8, P2, E2⟩
            case measure => first | go_num | (simp [intOf]; omega)
      · obtain ⟨s, rfl⟩ : ∃ s : Nat, S = (s : Int) := ⟨S.toNat, by omega⟩
        have T2 := Lib.hid (show c.now ≤ i + 1 from Nat.le_succ_of_le hTi)
        have hsS : (s : Int) ≤ 9223372036854775807 := hSS.2
        clear hSS hneg T
        by_cases hr : s < N
        · by_cases hFm : F ≤ 4611686018427387904
          · have hs := YY.see s F (by rw [P.out.w.eN]; exact hr) hFm
            have P2 := Lib.hid (P.out.see (y := ⟨(s : Int), F⟩) rfl rfl hr)
            have T3 := Lib.hid (show (c.see s F).now ≤ i + 1 from T2.out)
            have hnow : ((c.see s F).now : Int) = (c.now : Int) := rfl
            clear P YY T2 hTi
            go_wp2_with fail
            refine hs.mono ?_
            rintro r9 W4 ⟨rfl, Y4⟩
            have T2 := T3
            clear hs T3 x0 x1
            have x0 : W4.cell? ⟨b, 0, none⟩ = some (.int .i64 (s : Int)) := Y4.x.c0
            have x1 : W4.cell? ⟨b, 1, none⟩ = some (.int .u64 (F : Int)) := Y4.x.c1
            go_upto_region 28 with fail
            clear x0 x1
            generalize (c.now : Int) = cn at *
            subst hnow
            generalize c.see s F = c2 at *
            have x0 : W4.cell? ⟨b, 0, none⟩ = some (.int .i64 (s : Int)) := Y4.x.c0
            have x1 : W4.cell? ⟨b, 1, none⟩ = some (.int .u64 (F : Int)) := Y4.x.c1
            have bL := below_box W4 (.cells #[.int .i64 (s : Int), .int .u64 (F : Int)] 30)
            have Y5 := Y4.below bL
            have own4 : World.ownsRow _ B 30 2 (.slice A r d) r (arow D) := Y5.z.own
            have hlit : Rd 2 (W4.alloc (.cells #[.int .i64 (s : Int), .int .u64 (F : Int)] 30)) (some ⟨W4.heap.size, 0, none⟩) 1 1 (ac ⟨(s : Int), F⟩) := lit_at W4 ⟨(s : Int), F⟩
            have hone := ac_one ⟨(s : Int), F⟩
            have d1 : r + 1 ≤ maxLen := by unfold maxLen; omega
            have d2 : (r + 1) * 16 ≤ 140737488355328 := by omega
            have d3 := Y5.z.B
            clear Y4 bL
            go_wp2_with (at_builtin; refine wpList_append_rd _ rfl (.tmp 94) (.tmp 96) 23 rfl B 30 i0 _ 2 16 Try.underlying23 hi hz0 hz1 hz2 rfl (by decide) (.slice A r d) r (arow D) rfl own4 (some ⟨W4.heap.size, 0, none⟩) 1 1 (ac ⟨(s : Int), F⟩) rfl hlit hone d1 d2 d3 ?_)
            intro A1 e1 w5 own5 hg5
            obtain ⟨Z6, X6⟩ := Y5.grown hg5 own5
            have x1 : w5.cell? ⟨b, 1, none⟩ = some (.int .u64 (F : Int)) := X6.c1
            clear x0 Y5 own4 hlit hone d1 d2 d3 own5 hg5 X6
            have E2 := Lib.hid (show ∀ z ∈ D ++ [⟨(s : Int), F⟩], (z.E : Int) ≤ 18446744073709551615 from fun z hz => by
              rcases List.mem_append.1 hz with hz | hz
              · exact E.out z hz
              · simp only [List.mem_singleton] at hz
                subst hz
                exact hF)
            clear E
            generalize D ++ [⟨(s : Int), F⟩] = D2 at *
            have hgl := rglobal_at N late idle Z6.acs Z6.len (by omega) hN1 E2.out
            have e3 : gl D2 N late idle (r + 1) = c2.mark := by rw [P2.out.mark, Z6.len]
            rw [e3] at hgl
            clear e3
            obtain ⟨mk, hmk⟩ : ∃ mk, c2.mark = mk := ⟨_, rfl⟩
            rw [hmk] at hgl
            have hm := fun k => ((Z6.below (below_dn (Below.refl w5.heap.size w5) k)).mark mk hmk).mono fun _ _ h => (⟨h.1, h.2.symm⟩ : _ ∧ _ = w5.drewN k)
            have hnw := fun k => ((Z6.below (below_dn (Below.refl w5.heap.size w5) k)).now).mono fun _ _ h => (⟨h.1, h.2.symm⟩ : _ ∧ _ = w5.drewN k)
            have hl := fun k => ((Z6.below (below_dn (Below.refl w5.heap.size w5) k)).late mk F hmk).mono fun _ _ h => (⟨h.1, h.2.symm⟩ : _ ∧ _ = w5.drewN k)
            clear hmk
            go_wp2_with fail
            refine hgl.mono ?_
            rintro r9 w6 ⟨rfl, rfl⟩
            clear hgl
            go_wp2_with fail
            go_quiet (first | (go_at_call 13; exact Calls.quiet_of_same (hm _)) | (go_at_call 14; exact Calls.quiet_of_same (hnw _)) | (go_at_call 15; exact Calls.quiet_of_same (hl _)))
            have Z7 := Lib.hid (Z6.below (below_dn (Below.refl w5.heap.size w5) nq))
            clear hm hnw hl Z6 x1
            generalize w5.drewN nq = W7 at *
            have K0 := Lib.hid (show (-1 : Int) = ((0 : Nat) : Int) - 1 from rfl)
            go_wp2
            go_loopw [17] (fun v17 wr2 => ∃ k : Nat, v17 = .int .i64 ((k : Int) - 1) ∧ k ≤ N + 2 ∧ Hid (PZ w wr2 p c2 A1 (r + 1) e1 D2 B)) (fun v17 _ => N + 2 - (intOf v17 + 1).toNat)
            case atStart => exact ⟨0, by rw [← K0.out], by omega, Z7⟩
            case round =>
              clear Z7 K0
              obtain ⟨k, rfl, hk, Z8⟩ := hrel
              obtain ⟨z, hz⟩ : ∃ z : Int, (k : Int) - 1 = z := ⟨_, rfl⟩
              have HZ := Lib.hid (show z + 1 = ((k + 1 : Nat) : Int) - 1 by omega)
              have hzb : -1 ≤ z := by omega
              have hzk : (z + 1).toNat = k := by omega
              rw [hz]
              by_cases hzn : z ≤ (N : Int)
              · by_cases hzi : 0 ≤ z ∧ z < (N : Int)
                · obtain ⟨hz0', hz1'⟩ := hzi
                  obtain ⟨s, rfl⟩ : ∃ s : Nat, z = (s : Int) := ⟨z.toNat, by omega⟩
                  have hsN : s < N := by omega
                  have h1 := Z8.out.idle s (by rw [P2.out.w.eN]; exact hsN)
                  rw [P2.out.w.qt hsN] at h1
                  generalize hbb : rt D2 (s : Int) idle = bb at *
                  clear hz
                  go_wp2_with fail
                  refine h1.mono ?_
                  rintro r9 w8 ⟨rfl, Z9⟩
                  have h2 := ridle_at (s : Int) idle Z9.acs Z9.len (by omega)
                  rw [hbb] at h2
                  have Z10 := Lib.hid Z9
                  clear h1 hbb Z8 Z9
                  go_wp2_with fail
                  refine h2.mono ?_
                  rintro r9 w9 ⟨rfl, rfl⟩
                  clear h2
                  go_wp2
                  go_roundw
                  case rel => exact ⟨k + 1, by rw [← HZ.out], by omega, Z10⟩
                  case measure => first | go_num | (simp [intOf]; omega)
                · have ho : isS c2 z = false := by
                    unfold isS
                    rw [P2.out.w.eN]
                    exact decide_eq_false (by omega)
                  have h1 := Z8.out.idle_out z ho
                  clear ho hz
                  by_cases hz0' : z < 0
                  · go_wp2_with fail
                    refine h1.mono ?_
                    rintro r9 w8 ⟨rfl, rfl⟩
                    clear h1
                    go_wp2
                    go_roundw
                    case rel => exact ⟨k + 1, by rw [← HZ.out], by omega, Z8⟩
                    case measure => first | go_num | (simp [intOf]; omega)
                  · have hz1' : ¬ z < (N : Int) := by omega
                    go_wp2_with fail
                    refine h1.mono ?_
                    rintro r9 w8 ⟨rfl, rfl⟩
                    clear h1
                    go_wp2
                    go_roundw
                    case rel => exact ⟨k + 1, by rw [← HZ.out], by omega, Z8⟩
                    case measure => first | go_num | (simp [intOf]; omega)
              · clear hz HZ hzk
                go_wp2
                go_roundw
                case rel => exact ⟨A1, r + 1, e1, i + 1, c2, D2, rfl, rfl, by go_num, by omega, by omega, T2, Z8, P2, E2⟩
                case measure => first | go_num | (simp [intOf]; omega)
          · have hw := YY.wrong (s : Int) F (.inr (by omega))
            have Z2 := Lib.hid YY.z
            have hF2 : (4611686018427387904 : Int) < (F : Int) := by omega
            clear YY hTi
            go_wp2_with fail
            refine hw.mono ?_
            rintro r9 W4 ⟨rfl, rfl⟩
            clear hw
            go_wp2
            go_roundw
            case rel => exact ⟨A, r, d, i + 1, c, D, rfl, rfl, by go_num, by omega, by omega, T2, Z2, P, E⟩
            case measure => first | go_num | (simp [intOf]; omega)
        · have hw := YY.wrong (s : Int) F (.inl (by unfold isS; rw [P.out.w.eN]; exact decide_eq_false (by omega)))
          have Z2 := Lib.hid YY.z
          clear YY hTi
          go_wp2_with fail
          refine hw.mono ?_
          rintro r9 W4 ⟨rfl, rfl⟩
          clear hw
          go_wp2
          go_roundw
          case rel => exact ⟨A, r, d, i + 1, c, D, rfl, rfl, by go_num, by omega, by omega, T2, Z2, P, E⟩
          case measure => first | go_num | (simp [intOf]; omega)
    · have hb := Z.out.bel
      clear T Z P E
      go_wp2
      go_ret
      exact ⟨rfl, hb⟩
theorem plays_law (n : Int) (late idle : Nat) (A0 : Option Addr) (c0 n0 : Nat) (L : List Ac) (w : World) (hA : Acs w A0 c0 L) (hok : ∀ y ∈ L, y.Ok) (hn0 : L.length = n0) :
    Calls Try.prog 3 #[.int .i64 n, .int .u64 (late : Int), .int .u64 (idle : Int), .slice A0 n0 c0] w fun r w' => r = .returned (.bool true) ∧ Below w.heap.size w w' := by
  by_cases h40 : n0 ≤ 40
  · by_cases hR : Rt n late idle
    · obtain ⟨N, rfl⟩ : ∃ N : Nat, n = (N : Int) := ⟨n.toNat, by have := hR.1; omega⟩
      exact plays_right N late idle A0 c0 n0 L w hR hA hok hn0 h40
    · exact plays_wrong n late idle A0 c0 n0 w hR h40
  · have h2 : (40 : Int) < (n0 : Int) := by omega
    have m1 := hA.max
    have m3 := hA.cap
    have hmx : n0 ≤ 9223372036854775807 := by rw [hn0] at m3; unfold maxLen at m1; omega
    clear hA hok hn0 m1 m3
    go_enter Try.func3, Try.ntmps3
    go_wp2_with fail
    refine (alive_any _).mono ?_
    rintro r w1 ⟨rfl, b0⟩
    go_wp2
    go_ret
    exact ⟨rfl, b0⟩
end Go.Proofs.Ytmonjlnmkkdnfaa.W13
