/-
  The walk of HeapUntil (written by gen12/until.py).
-/
import Derived.Test.YtephbjomplmkgaaU12DueAt
import Derived.BigRegion
set_option linter.unusedSimpArgs false
set_option linter.unusedVariables false
namespace Go.Proofs.Ytephbjomplmkgaa.U12
open Go.RowKit Go.Lib Go.Maps Go.Proofs.Ytephbjomplmkgaa.Wd

set_option maxRecDepth 20000 in
set_option maxHeartbeats 8000000 in
theorem until_law (A B : Option Addr) (c d n N a b : Nat) (ids times : List Nat) (w : World) (ha : Us w A c ids) (hb : Us w B d times) (hn : ids.length = n) (hN : times.length = N)
    (hxa : (a : Int) ≤ 18446744073709551615) (hxb : (b : Int) ≤ 18446744073709551615) :
    Calls Try.prog 6 #[.slice A n c, .slice B N d, .int .u64 (a : Int), .int .u64 (b : Int)] w fun e w' => e = .returned (.bool true) ∧ Below w.heap.size w w' := by
  have HN := Lib.hid hN
  have HM := Lib.hid hn
  have HA := Lib.hid ha
  have HB := Lib.hid hb
  have m1 := ha.1.max
  have m2 := hb.1.max
  have m3 := ha.1.cap
  have m4 := hb.1.cap
  have hmx : n ≤ 9223372036854775807 ∧ N ≤ 9223372036854775807 := by unfold maxLen at m1 m2; omega
  clear hN hn ha hb m1 m2 m3 m4
  go_enter Try.func6, Try.ntmps6
  go_wp2_with fail
  refine (alive_any _).mono ?_
  rintro e w1 ⟨rfl, b0⟩
  by_cases h2 : (100 : Int) < (n : Int)
  · go_wp2
    go_ret
    exact ⟨rfl, b0⟩
  by_cases h3 : (N : Int) < (n : Int)
  · go_wp2
    go_ret
    exact ⟨rfl, b0⟩
  have B0 := Lib.hid b0
  clear b0
  go_wp2_with fail
  refine (QR.new B0.out).mono ?_
  rintro e w2 ⟨q, rfl, hQ⟩
  have HQ := Lib.hid (show QR w w2 q [] ∧ ([] : List It).length ≤ 0 from ⟨hQ, Nat.le_refl _⟩)
  clear hQ B0
  go_wp2
  go_loopw [10] (fun v wr => ∃ (k : Nat) (m : List It), v = .int .i64 (k : Int) ∧ k ≤ n ∧ Hid (QR w wr q m ∧ m.length ≤ k)) (fun v _ => n - (intOf v).toNat)
  case atStart => exact ⟨0, [], rfl, Nat.zero_le _, HQ⟩
  case round =>
    clear HQ
    obtain ⟨k, m, rfl, hk, HQ⟩ := hrel
    by_cases hkn : k < n
    · have hbw := HQ.out.1.bel
      have hk1 : k < ids.length := by rw [HM.out]; exact hkn
      have hk2 : k < times.length := by rw [HN.out]; omega
      obtain ⟨ad, rfl, x0, hx⟩ := us_at HA.out hk1
      obtain ⟨ae, rfl, y0, hy⟩ := us_at HB.out hk2
      have a1 := x0 wr hbw
      have a2 := y0 wr hbw
      generalize ids[k] = x at *
      generalize times[k] = y at *
      obtain ⟨r, hr⟩ := isin_or m x
      have hd := (HQ.out.1.below (drew_below wr)).put (x, y) r ⟨hx, hy⟩ (by have := HQ.out.2; omega) hr
      have hlen := Lib.hid (Nat.le_trans (putm_len m (x, y)) (Nat.succ_le_succ HQ.out.2))
      have hkN : k < N := by omega
      have z0 : (0 : Int) ≤ (k : Int) := by omega
      have z1 : ((k : Int)).toNat = k := by omega
      have kf := fun (W : World) (hW : QR w W q (putm m (x, y))) => (show W.cell? (ad.add k) = some (.int .u64 (x : Int)) ∧ W.cell? (ae.add k) = some (.int .u64 (y : Int)) from ⟨x0 W hW.bel, y0 W hW.bel⟩)
      clear x0 y0 HQ hbw hr
      go_wp2_with fail
      go_region_held3 (fun w' => w'.cell? (ad.add k) = some (.int .u64 (x : Int)) ∧ w'.cell? (ae.add k) = some (.int .u64 (y : Int)))
        (first | exact q4 | go_keep)
        (first | (go_at_call 10; (with_reducible refine hd.mono ?_); rintro e w3 ⟨rfl, hQ3⟩; have q4 := kf w3 hQ3))
      have HQ := Lib.hid (And.intro hQ3 hlen.out)
      clear q4 kf a1 a2 hd hQ3 hlen
      go_wp2
      go_roundw
      case rel => exact ⟨k + 1, putm m (x, y), by go_num, by omega, HQ⟩
      case measure => first | go_num | (simp [intOf]; omega)
    · have HQ1 := Lib.hid HQ.out.1
      clear HQ
      obtain ⟨lo, hlo⟩ : ∃ lo, min a b = lo := ⟨_, rfl⟩
      obtain ⟨hi, hhi⟩ : ∃ hi, max a b = hi := ⟨_, rfl⟩
      have hmn : min (a : Int) (b : Int) = (lo : Int) := by omega
      have hmx2 : max (a : Int) (b : Int) = (hi : Int) := by omega
      have hlohi : lo ≤ hi := by omega
      have hl64 : (lo : Int) ≤ 18446744073709551615 := by omega
      have hh64 : (hi : Int) ≤ 18446744073709551615 := by omega
      clear hlo hhi
      have hq0 : 0 = 0 := rfl
      obtain ⟨X, hX⟩ : ∃ X, (due m lo).map (·.1) = X := ⟨_, rfl⟩
      obtain ⟨Y, hY⟩ : ∃ Y, (due m hi).map (·.1) = Y := ⟨_, rfl⟩
      obtain ⟨s, hs⟩ : ∃ s, X.length = s := ⟨_, rfl⟩
      obtain ⟨t, ht⟩ : ∃ t, Y.length = t := ⟨_, rfl⟩
      have hu1 := HQ1.out.until lo s X (by assumption) hX hs
      have hso := HQ1.out.sorted
      have hst : s ≤ t := by rw [← hs, ← ht, ← hX, ← hY, List.length_map, List.length_map]; exact due_mono m (by omega)
      have htm : t ≤ m.length := by rw [← ht, ← hY, List.length_map]; exact due_le m _
      have hfew := HQ1.out.few
      have ht100 : t ≤ 1000 := by omega
      have HX := Lib.hid (show ∀ i, i < s → ∃ hm : i < m.length, ∃ h1 : i < X.length, ∃ h2 : i < Y.length, X[i] = m[i].1 ∧ Y[i] = m[i].1 ∧ m[i].2 ≤ lo from fun i hi => by
        have h1 : i < X.length := by omega
        have h2 : i < Y.length := by omega
        obtain ⟨hm, e1⟩ := ids_at hso hX h1
        obtain ⟨_, e2⟩ := ids_at hso hY h2
        exact ⟨hm, h1, h2, e1, e2, due_in hso (by rw [← List.length_map (f := fun x : It => x.1), hX]; exact h1) hm⟩)
      have HY := Lib.hid (show ∀ i, s ≤ i → i < t → ∃ hm : i < m.length, ∃ h2 : i < Y.length, Y[i] = m[i].1 ∧ lo < m[i].2 ∧ m[i].2 ≤ hi from fun i hi hj => by
        have h2 : i < Y.length := by omega
        obtain ⟨hm, e2⟩ := ids_at hso hY h2
        exact ⟨hm, h2, e2, due_out hso (by rw [← List.length_map (f := fun x : It => x.1), hX]; omega) hm, due_in hso (by rw [← List.length_map (f := fun x : It => x.1), hY]; exact h2) hm⟩)
      have HE := Lib.hid hY
      have HT := Lib.hid ht
      have HTOP := Lib.hid (due_top HQ1.out)
      clear hX hY hs ht hso htm hfew
      go_wp2_with fail
      refine hu1.mono ?_
      rintro e w3 ⟨U, ud, rfl, hU, _, hQ3⟩
      have hu2 := hQ3.until hi t Y (by assumption) HE.out HT.out
      have HU := Lib.hid hU
      clear hu1 hU hQ3
      go_wp2_with fail
      refine hu2.mono ?_
      rintro e w4 ⟨V, vd, rfl, hV, hb4, hQ4⟩
      have HU4 := Lib.hid (HU.out.below hb4)
      have HV := Lib.hid hV
      obtain ⟨M, hM⟩ : ∃ M, m.length = M := ⟨_, rfl⟩
      have hu3 := hQ4.until 18446744073709551615 M (m.map (·.1)) (by omega) (by rw [HTOP.out]) (by rw [List.length_map, hM])
      have hMM := Lib.hid hM
      have hM1 : M ≤ 1000 := by have := hQ4.few; omega
      have hts : ¬ (t : Int) < (s : Int) := by omega
      clear hu2 hV hb4 hQ4 HU hM
      go_wp2_with fail
      refine hu3.mono ?_
      rintro e w5 ⟨Z, zd, rfl, _, hb5, hQ5⟩
      have hl := hQ5.len M hMM.out
      have HU := Lib.hid (HU4.out.below hb5)
      have HV := Lib.hid (HV.out.below hb5)
      have HQ := Lib.hid hQ5
      clear hu3 hb5 hQ5 HU4
      go_wp2_with fail
      refine hl.mono ?_
      rintro e w6 ⟨rfl, rfl⟩
      clear hl
      have B0 := Below.refl w5.heap.size w5
      have HST := Lib.hid hst
      clear hst
      go_wp2
      clear hts
      generalize decide (t < s) = tb
      go_loopw [13] (fun v wr => ∃ (k : Nat), v = .int .i64 (k : Int) ∧ k ≤ s ∧ Below w5.heap.size w5 wr) (fun v _ => s - (intOf v).toNat)
      case atStart => exact ⟨0, rfl, Nat.zero_le _, B0⟩
      case round =>
        clear B0
        obtain ⟨k, rfl, hk, hbw⟩ := hrel
        by_cases hks : k < s
        · obtain ⟨hm, h1, h2, e1, e2, hle⟩ := HX.out k hks
          obtain ⟨ad, rfl, x0, _⟩ := us_at HU.out h1
          obtain ⟨ae, rfl, y0, _⟩ := us_at HV.out h2
          have a1 := x0 wr hbw
          have a2 := y0 wr hbw
          rw [e1] at a1
          rw [e2] at a2
          have hat := (HQ.out.below hbw).at k hm
          clear x0 y0 e1 e2
          generalize m[k] = z at *
          have hle2 : ¬ (lo : Int) < (z.2 : Int) := by omega
          have hkt : k < t := by have := HST.out; omega
          have z0 : (0 : Int) ≤ (k : Int) := by omega
          have z1 : ((k : Int)).toNat = k := by omega
          have HB2 := Lib.hid (hbw.drew)
          clear hle
          generalize (z.1 : Int) = zi at *
          generalize (z.2 : Int) = za at *
          go_wp2_with fail
          refine hat.mono ?_
          rintro e w7 ⟨rfl, rfl⟩
          clear hat
          go_wp2_with fail
          go_region
          go_wp2
          go_roundw
          case rel =>
            exact ⟨k + 1, by go_num, by omega, HB2.out⟩
          case measure => first | go_num | (simp [intOf]; omega)
        · go_wp2
          go_loopw [16] (fun v wr2 => ∃ (k : Nat), v = .int .i64 (k : Int) ∧ s ≤ k ∧ k ≤ t ∧ Below w5.heap.size w5 wr2) (fun v _ => t - (intOf v).toNat)
          case atStart => exact ⟨s, rfl, Nat.le_refl _, HST.out, hbw⟩
          case round =>
            clear hks hk hbw
            obtain ⟨j, rfl, hsj, hj, hbw⟩ := hrel
            by_cases hjt : j < t
            · obtain ⟨hm, h2, e2, hgt, hle⟩ := HY.out j hsj hjt
              obtain ⟨ae, rfl, y0, _⟩ := us_at HV.out h2
              have a2 := y0 _ hbw
              rw [e2] at a2
              have hat := (HQ.out.below hbw).at j hm
              clear y0 e2
              generalize m[j] = z at *
              have hle2 : ¬ (hi : Int) < (z.2 : Int) := by omega
              have hgt2 : ¬ (z.2 : Int) ≤ (lo : Int) := by omega
              have z0 : (0 : Int) ≤ (j : Int) := by omega
              have z1 : ((j : Int)).toNat = j := by omega
              clear hle hgt
              generalize (z.1 : Int) = zi at *
              generalize (z.2 : Int) = za at *
              go_wp2_with fail
              refine hat.mono ?_
              rintro e w7 ⟨rfl, rfl⟩
              clear hat
              go_wp2
              go_roundw
              case rel =>
                exact ⟨j + 1, by go_num, by omega, by omega, hbw⟩
              case measure => first | go_num | (simp [intOf]; omega)
            · have hb := Lib.hid (HQ.out.bel.trans (hbw.mono HQ.out.bel.size))
              go_wp2
              go_ret
              exact ⟨rfl, hb.out⟩
end Go.Proofs.Ytephbjomplmkgaa.U12
