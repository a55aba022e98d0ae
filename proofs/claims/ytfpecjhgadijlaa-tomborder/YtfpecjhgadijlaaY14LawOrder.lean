/-
  The walk of TombOrder.
-/
import Derived.Test.YtfpecjhgadijlaaY14Three
set_option linter.unusedSimpArgs false
set_option linter.unusedVariables false
namespace Go.Proofs.Ytfpecjhgadijlaa.Y14
open Go.RowKit Go.Lib Go.Maps Go.Proofs.Ytfpecjhgadijlaa.Wd Go.Proofs.Ytfpecjhgadijlaa.U12

set_option maxRecDepth 20000 in
set_option maxHeartbeats 4000000 in
theorem order_law (A : Option Addr) (c n M N y : Nat) (ts : List Nat) (w : World) (ha : Us w A c ts) (hn : ts.length = n) (hM : M ≤ 255) (hN : N ≤ 255) (hy : y ≤ 255) :
    Calls Try.prog 5 #[.slice A n c, .int .u8 (M : Int), .int .u8 (N : Int), .int .u8 (y : Int)] w fun e w' => e = .returned (.bool true) ∧ Below w.heap.size w w' := by
  have HN := Lib.hid hn
  have HA := Lib.hid ha
  have m1 := ha.1.max
  have m3 := ha.1.cap
  have hmx : n ≤ 9223372036854775807 := by rw [hn] at m3; unfold maxLen at m1; omega
  clear hn ha m1 m3
  go_enter Try.func5, Try.ntmps5
  go_wp2_with fail
  refine (alive_any _).mono ?_
  rintro e w1 ⟨rfl, b0⟩
  by_cases h2 : (60 : Int) < (n : Int)
  · go_wp2
    go_ret
    exact ⟨rfl, b0⟩
  have new1 := ynew_right M w1 (by omega)
  go_wp2_with fail
  refine new1.mono ?_
  rintro e w2 ⟨qa, oa, rfl, ya, ga, b1⟩
  have new2 := ynew_right M w2 (by omega)
  clear new1
  go_wp2_with fail
  refine new2.mono ?_
  rintro e w3 ⟨qb, ob, rfl, yb, gb, b2⟩
  have new3 := ynew_right (M + N) w3 (by omega)
  obtain ⟨K, hK⟩ : ∃ K, M + N = K := ⟨_, rfl⟩
  have hKi : (M : Int) + (N : Int) = (K : Int) := by omega
  rw [hK] at new3
  clear new2
  go_wp2_with fail
  refine new3.mono ?_
  rintro e w4 ⟨qc, oc, rfl, yc, gc, b3⟩
  have HO := Lib.hid (show O3 w w4 qa qb qc M N y 0 ts from by
    unfold O3
    rw [hK]
    show T3 w w4 qa qb qc M M K (keep M []) (keep M []) (keep K [])
    have e0 : ∀ J, keep J [] = [] := fun J => by simp [keep]
    rw [e0, e0]
    exact T3.of ya ga b0 b1 yb gb b2 yc gc b3)
  clear new3 ya yb yc ga gb gc b0 b1 b2 b3 hK
  go_wp2
  go_loopw [15] (fun v wr => ∃ i : Nat, v = .int .i64 (i : Int) ∧ i ≤ n ∧ Hid (O3 w wr qa qb qc M N y i ts)) (fun v _ => n - (intOf v).toNat)
  case atStart => exact ⟨0, rfl, Nat.zero_le _, HO⟩
  case round =>
    clear HO
    obtain ⟨i, rfl, hi, HO⟩ := hrel
    by_cases hin : i < n
    · have bel := HO.out.bel
      have hil : i < ts.length := by rw [HN.out]; exact hin
      obtain ⟨z, hz⟩ : ∃ z, way ts.length y i = z := ⟨_, rfl⟩
      have hzl : z < ts.length := by rw [← hz]; exact way_lt _ _ (by omega)
      obtain ⟨ad, hA, x0, hx0⟩ := HA.out.get hil
      obtain ⟨ad2, hA2, y0, hy0⟩ := HA.out.get hzl
      rw [hA] at hA2
      cases hA2
      subst hA
      have kx : ∀ W, Below w.heap.size w W → W.cell? (ad.add i) = some (.int .u64 (ts[i] : Int)) ∧ W.cell? (ad.add z) = some (.int .u64 (ts[z] : Int)) := fun W hW =>
        ⟨(hW.cell (World.block_lt_of_cell? _ _ x0)).trans x0, (hW.cell (World.block_lt_of_cell? _ _ y0)).trans y0⟩
      obtain ⟨x, hx⟩ : ∃ x, ts[i] = x := ⟨_, rfl⟩
      obtain ⟨u, hu⟩ : ∃ u, ts[z] = u := ⟨_, rfl⟩
      rw [hx] at x0 hx0 kx
      rw [hu] at y0 hy0 kx
      have sA := stepA M hil hx
      have sB := stepB M hil hz hzl hu
      have sC := stepA (M + N) hil hx
      have hzn : z < n := by rw [← HN.out]; exact hzl
      have hrem : ((n : Int) - 1 - (i : Int) + (y : Int)) % (n : Int) = (z : Int) := by
        rw [← hz, ← HN.out]
        unfold way
        rw [Int.natCast_emod]
        congr 1
        omega
      have hremt : ((n : Int) - 1 - (i : Int) + (y : Int)).tmod (n : Int) = (z : Int) := by rw [Int.tmod_eq_emod_of_nonneg (by omega)]; exact hrem
      have wr1 : IntKind.i64.wrap ((n : Int) - 1) = (n : Int) - 1 := by rw [IntKind.wrap_i64]; omega
      have wr2 : IntKind.i64.wrap ((n : Int) - 1 - (i : Int)) = (n : Int) - 1 - (i : Int) := by rw [IntKind.wrap_i64]; omega
      have wr3 : IntKind.i64.wrap ((n : Int) - 1 - (i : Int) + (y : Int)) = (n : Int) - 1 - (i : Int) + (y : Int) := by rw [IntKind.wrap_i64]; omega
      have wi : IntKind.u64.wrap (i : Int) = (i : Int) := IntWalk.u64_in _ (by omega)
      have wz : IntKind.u64.wrap (z : Int) = (z : Int) := IntWalk.u64_in _ (by omega)
      have z0 : (0 : Int) ≤ (i : Int) := by omega
      have z1 : ((i : Int)).toNat = i := by omega
      have z2 : (0 : Int) ≤ (z : Int) := by omega
      have z3 : ((z : Int)).toNat = z := by omega
      have hn0 : ¬ n = 0 := by omega
      have hpA := HO.out.putA (i, x) _ ⟨by show (i : Int) ≤ _; omega, hx0⟩ (by have := fewA M ts i; omega) sA
      obtain ⟨a1, a2⟩ := kx wr bel
      clear x0 y0 hx hu
      go_wp2_with fail
      refine hpA.mono ?_
      rintro e w5 ⟨⟨g1, g2, rfl⟩, t5⟩
      obtain ⟨a1', a2'⟩ := kx w5 t5.bel
      have hpB := t5.putB (z, u) _ ⟨by show (z : Int) ≤ _; omega, hy0⟩ (by have := fewB M y (ts := ts) (i := i) (by omega); omega) sB
      clear hpA t5 a1 a2
      go_wp2_with fail
      refine hpB.mono ?_
      rintro e w6 ⟨⟨g1, g2, rfl⟩, t6⟩
      obtain ⟨a1, a2⟩ := kx w6 t6.bel
      have hpC := t6.putC (i, x) _ ⟨by show (i : Int) ≤ _; omega, hx0⟩ (by have := fewA (M + N) ts i; omega) sC
      clear hpB t6 a1' a2'
      go_wp2_with fail
      refine hpC.mono ?_
      rintro e w7 ⟨⟨g1, g2, rfl⟩, t7⟩
      have HO := Lib.hid (show O3 w w7 qa qb qc M N y (i + 1) ts from t7)
      clear hpC t7 a1 a2 sA sB sC kx hx0 hy0
      go_wp2
      go_roundw
      case rel => exact ⟨i + 1, by go_num, by omega, HO⟩
      case measure => first | go_num | (simp [intOf]; omega)
    · have e1 : i = n := by omega
      subst e1
      have h := HO.out
      unfold O3 at h
      rw [← HN.out, ends] at h
      have hl := al_len ts ts.length
      generalize al (fA ts ts.length) = s at *
      have H := Lib.hid h
      have HL := Lib.hid hl
      clear HO h hl
      go_wp2
      go_loopw [17] (fun v w' => ∃ k : Nat, v = .int .i64 (k : Int) ∧ k ≤ i ∧ w' = wr) (fun v _ => i - (intOf v).toNat)
      case atStart => exact ⟨0, rfl, Nat.zero_le _, rfl⟩
      case round =>
        obtain ⟨k, rfl, hk, rfl⟩ := hrel
        by_cases hki : k < i
        · have wi : IntKind.u64.wrap (k : Int) = (k : Int) := IntWalk.u64_in _ (by omega)
          have hku : (k : Int) ≤ 18446744073709551615 := by omega
          obtain ⟨r, hr⟩ : ∃ r, isin (keep M s) k = r := ⟨_, rfl⟩
          have h1 := H.out.yr.has k hku r hr
          have h2 := H.out.rot.yr.has k hku r hr
          cases r with
          | true =>
            have h3 := H.out.rot.rot.yr.has k hku true (by
              obtain ⟨x, hx, e⟩ := isin_true.1 hr
              exact isin_true.2 ⟨x, keep_more hx, e⟩)
            clear hr
            go_wp2_with fail
            refine h1.mono ?_
            rintro e w5 ⟨rfl, rfl⟩
            go_wp2_with fail
            refine h2.mono ?_
            rintro e w5 ⟨rfl, rfl⟩
            go_wp2_with fail
            refine h3.mono ?_
            rintro e w5 ⟨rfl, rfl⟩
            clear h1 h2 h3
            go_wp2
            go_roundw
            case rel => exact ⟨k + 1, by go_num, by omega, trivial⟩
            case measure => first | go_num | (simp [intOf]; omega)
          | false =>
            clear hr
            go_wp2_with fail
            refine h1.mono ?_
            rintro e w5 ⟨rfl, rfl⟩
            go_wp2_with fail
            refine h2.mono ?_
            rintro e w5 ⟨rfl, rfl⟩
            clear h1 h2
            go_wp2
            go_roundw
            case rel => exact ⟨k + 1, by go_num, by omega, trivial⟩
            case measure => first | go_num | (simp [intOf]; omega)
        · by_cases hMi : (M : Int) < (i : Int)
          · have hlen := H.out.yr.len M (by rw [keep_len, HL.out, HN.out]; omega)
            have hmi : min (i : Int) (M : Int) = (M : Int) := by omega
            have hb := Lib.hid H.out.bel
            clear H
            go_wp2_with fail
            refine hlen.mono ?_
            rintro e w5 ⟨rfl, rfl⟩
            go_wp2
            go_ret
            exact ⟨rfl, hb.out⟩
          · have hlen := H.out.yr.len i (by rw [keep_len, HL.out, HN.out]; omega)
            have hmi : min (i : Int) (M : Int) = (i : Int) := by omega
            have hb := Lib.hid H.out.bel
            clear H
            go_wp2_with fail
            refine hlen.mono ?_
            rintro e w5 ⟨rfl, rfl⟩
            go_wp2
            go_ret
            exact ⟨rfl, hb.out⟩
end Go.Proofs.Ytfpecjhgadijlaa.Y14
