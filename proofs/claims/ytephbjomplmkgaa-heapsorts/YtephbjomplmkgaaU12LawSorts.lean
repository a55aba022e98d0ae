/-
  The walk of HeapSorts.
-/
import Derived.Test.YtephbjomplmkgaaU12Qr
set_option linter.unusedSimpArgs false
set_option linter.unusedVariables false
namespace Go.Proofs.Ytephbjomplmkgaa.U12
open Go.RowKit Go.Lib Go.Maps Go.Proofs.Ytephbjomplmkgaa.Wd

set_option maxRecDepth 20000 in
set_option maxHeartbeats 4000000 in
theorem sorts_law (A B : Option Addr) (c d n N : Nat) (ids times : List Nat) (w : World) (ha : Us w A c ids) (hb : Us w B d times) (hn : ids.length = n) (hN : times.length = N) :
    Calls Try.prog 4 #[.slice A n c, .slice B N d] w fun e w' => e = .returned (.bool true) ∧ Below w.heap.size w w' := by
  have HN := Lib.hid hN
  have HM := Lib.hid hn
  have HA := Lib.hid ha
  have HB := Lib.hid hb
  have m1 := ha.1.max
  have m2 := hb.1.max
  have m3 := ha.1.cap
  have m4 := hb.1.cap
  have hmx : n ≤ 9223372036854775807 ∧ N ≤ 9223372036854775807 := by unfold maxLen at m1 m2; omega
  clear hN hn ha hb m1 m2 m3 m4
  go_enter Try.func4, Try.ntmps4
  go_wp2_with fail
  refine (alive_any _).mono ?_
  rintro e w1 ⟨rfl, b0⟩
  by_cases h2 : (200 : Int) < (n : Int)
  · go_wp2
    go_ret
    exact ⟨rfl, b0⟩
  by_cases h3 : (N : Int) < (n : Int)
  · go_wp2
    go_ret
    exact ⟨rfl, b0⟩
  have B0 := Lib.hid b0
  clear b0
  go_wp2_with fail
  refine (QR.new B0.out).mono ?_
  rintro e w2 ⟨q, rfl, hQ⟩
  have HQ := Lib.hid (show QR w w2 q [] ∧ ([] : List It).length ≤ 0 from ⟨hQ, Nat.le_refl _⟩)
  clear hQ B0
  go_wp2
  go_loopw [6] (fun v wr => ∃ (k : Nat) (m : List It), v = .int .i64 (k : Int) ∧ k ≤ n ∧ Hid (QR w wr q m ∧ m.length ≤ k)) (fun v _ => n - (intOf v).toNat)
  case atStart => exact ⟨0, [], rfl, Nat.zero_le _, HQ⟩
  case round =>
    clear HQ
    obtain ⟨k, m, rfl, hk, HQ⟩ := hrel
    by_cases hkn : k < n
    · have hbw := HQ.out.1.bel
      have hk1 : k < ids.length := by rw [HM.out]; exact hkn
      have hk2 : k < times.length := by rw [HN.out]; omega
      obtain ⟨ad, rfl, x0, hx⟩ := us_at HA.out hk1
      obtain ⟨ae, rfl, y0, hy⟩ := us_at HB.out hk2
      have a1 := x0 wr hbw
      have a2 := y0 wr hbw
      generalize ids[k] = x at *
      generalize times[k] = y at *
      obtain ⟨r, hr⟩ := isin_or m x
      have hd := (HQ.out.1.below (drew_below wr)).put (x, y) r ⟨hx, hy⟩ (by have := HQ.out.2; omega) hr
      have hlen := Lib.hid (Nat.le_trans (putm_len m (x, y)) (Nat.succ_le_succ HQ.out.2))
      have hkN : k < N := by omega
      have z0 : (0 : Int) ≤ (k : Int) := by omega
      have z1 : ((k : Int)).toNat = k := by omega
      have kf := fun (W : World) (hW : QR w W q (putm m (x, y))) => (show W.cell? (ad.add k) = some (.int .u64 (x : Int)) ∧ W.cell? (ae.add k) = some (.int .u64 (y : Int)) from ⟨x0 W hW.bel, y0 W hW.bel⟩)
      clear x0 y0 HQ hbw hr
      go_wp2_with fail
      go_region_held3 (fun w' => w'.cell? (ad.add k) = some (.int .u64 (x : Int)) ∧ w'.cell? (ae.add k) = some (.int .u64 (y : Int)))
        (first | exact q4 | go_keep)
        (first | (go_at_call 10; (with_reducible refine hd.mono ?_); rintro e w3 ⟨rfl, hQ3⟩; have q4 := kf w3 hQ3))
      have HQ := Lib.hid (And.intro hQ3 hlen.out)
      clear q4 kf a1 a2 hd hQ3 hlen
      go_wp2
      go_roundw
      case rel => exact ⟨k + 1, putm m (x, y), by go_num, by omega, HQ⟩
      case measure => first | go_num | (simp [intOf]; omega)
    · have HQ1 := Lib.hid HQ.out.1
      obtain ⟨M, hM⟩ : ∃ M, m.length = M := ⟨_, rfl⟩
      have hl := HQ.out.1.len M hM
      have hMn : M ≤ 200 := by have := HQ.out.2; omega
      have HMM := Lib.hid hM
      clear HQ hM
      go_wp2_with fail
      refine hl.mono ?_
      rintro e w3 ⟨rfl, rfl⟩
      clear hl
      have HQ2 := Lib.hid (show QR w wr q (m.drop 0) from HQ1.out)
      go_wp2
      have R0 := Lib.hid (show ∀ (h : 0 < 0), False from fun h => by omega)
      have HL0 := Lib.hid (show ∀ (h : 0 < 0) (h2 : 0 - 1 < m.length), (m[0 - 1].1 : Int) = 0 ∧ (m[0 - 1].2 : Int) = 0 from fun h => by omega)
      go_loopw [8, 9, 10] (fun v8 v9 v10 wr => ∃ (la wa : Int) (k : Nat), v8 = .int .u64 la ∧ v9 = .int .u64 wa ∧ v10 = .int .i64 (k : Int) ∧ k ≤ M ∧ Hid (QR w wr q (m.drop k)) ∧ Hid (∀ (h : 0 < k) (h2 : k - 1 < m.length), (m[k - 1].1 : Int) = la ∧ (m[k - 1].2 : Int) = wa)) (fun _ _ v10 _ => M - (intOf v10).toNat)
      case atStart => exact ⟨0, 0, 0, rfl, rfl, rfl, Nat.zero_le _, HQ2, HL0⟩
      case round =>
        clear HQ2 HL0 R0
        obtain ⟨la, wa, k, rfl, rfl, rfl, hk, HQ, HL⟩ := hrel
        by_cases hkM : k < M
        · have hkm : k < m.length := by rw [HMM.out]; exact hkM
          have hcut := List.drop_eq_getElem_cons hkm
          have hQ := HQ.out
          rw [hcut] at hQ
          have hso := HQ1.out.sorted
          have hord : ∀ (h : 0 < k) (h2 : k - 1 < m.length), Lt m[k - 1] m[k] := fun h h2 => List.pairwise_iff_getElem.1 hso (k - 1) k h2 hkm (by omega)
          have hcmp : 0 < k → (wa < (m[k].2 : Int)) ∨ (¬ (m[k].2 : Int) < wa ∧ (m[k].2 : Int) = wa ∧ la < (m[k].1 : Int)) := fun h => by
            have h1 := hord h (by omega)
            obtain ⟨e1, e2⟩ := HL.out h (by omega)
            unfold Lt at h1
            omega
          have hnum := HQ1.out.num m[k] (List.getElem_mem hkm)
          generalize hxe : m[k] = x at *
          have HE := Lib.hid hxe
          clear hxe
          have hf := hQ.first x _ rfl
          clear HQ hcut hso hord HL
          go_wp2_with fail
          refine hf.mono ?_
          rintro e w3 ⟨rfl, hQ3⟩
          have hd := hQ3.drop x.1 true hnum.1 (isin_true.2 ⟨x, List.mem_cons_self .., rfl⟩)
          rw [dropm_head hQ3.nodup] at hd
          clear hf hQ hQ3
          obtain ⟨xi, hxi⟩ : ∃ z : Int, (x.1 : Int) = z := ⟨_, rfl⟩
          obtain ⟨xa, hxa⟩ : ∃ z : Int, (x.2 : Int) = z := ⟨_, rfl⟩
          have HLn := Lib.hid (show ∀ (h : 0 < k + 1) (h2 : k + 1 - 1 < m.length), (m[k + 1 - 1].1 : Int) = xi ∧ (m[k + 1 - 1].2 : Int) = xa from fun _ _ =>
            ⟨by show ((m[k]'hkm).1 : Int) = xi; rw [HE.out]; exact hxi, by show ((m[k]'hkm).2 : Int) = xa; rw [HE.out]; exact hxa⟩)
          rw [hxi] at hd hcmp ⊢
          rw [hxa] at hcmp ⊢
          clear hxi hxa hnum
          by_cases k0 : k = 0
          · clear hcmp
            subst k0
            go_wp2_with fail
            refine hd.mono ?_
            rintro e w4 ⟨rfl, hQ4⟩
            have HQ := Lib.hid hQ4
            clear hd hQ4
            go_wp2
            go_roundw
            case rel => exact ⟨xi, xa, 1, rfl, rfl, by go_num, by omega, HQ, HLn⟩
            case measure => first | go_num | (simp [intOf]; omega)
          · have hk0 : (0 : Int) < (k : Int) := by omega
            rcases hcmp (by omega) with h1 | ⟨h1, h5, h6⟩
            · have h7 : ¬ xa < wa := by omega
              have h8 : ¬ xa = wa := by omega
              clear hcmp
              go_wp2_with fail
              refine hd.mono ?_
              rintro e w4 ⟨rfl, hQ4⟩
              have HQ := Lib.hid hQ4
              clear hd hQ4
              go_wp2
              go_roundw
              case rel => exact ⟨xi, xa, k + 1, rfl, rfl, by go_num, by omega, HQ, HLn⟩
              case measure => first | go_num | (simp [intOf]; omega)
            · have h9 : ¬ xi ≤ la := by omega
              clear hcmp
              subst h5
              go_wp2_with fail
              refine hd.mono ?_
              rintro e w4 ⟨rfl, hQ4⟩
              have HQ := Lib.hid hQ4
              clear hd hQ4
              go_wp2
              go_roundw
              case rel => exact ⟨xi, xa, k + 1, rfl, rfl, by go_num, by omega, HQ, HLn⟩
              case measure => first | go_num | (simp [intOf]; omega)
        · have e : m.drop k = [] := List.drop_of_length_le (by rw [HMM.out]; omega)
          have hQ := HQ.out
          rw [e] at hQ
          have hb := Lib.hid hQ.bel
          have hf := hQ.empty rfl
          have hl := hQ.len 0 rfl
          clear HQ hQ e HL
          go_wp2_with fail
          refine hf.mono ?_
          rintro e w3 ⟨rfl, rfl⟩
          go_wp2_with fail
          refine hl.mono ?_
          rintro e w3 ⟨rfl, rfl⟩
          go_wp2
          go_ret
          exact ⟨rfl, hb.out⟩
end Go.Proofs.Ytephbjomplmkgaa.U12
