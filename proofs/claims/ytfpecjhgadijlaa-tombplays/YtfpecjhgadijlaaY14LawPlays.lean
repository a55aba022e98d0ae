/-
  The walk of TombPlays.
-/
import Derived.Test.YtfpecjhgadijlaaY14Play
import Derived.Test.YtfpecjhgadijlaaY14Open
import Derived.Deep.RegionHeld3
set_option linter.unusedSimpArgs false
set_option linter.unusedVariables false
namespace Go.Proofs.Ytfpecjhgadijlaa.Y14
open Go.RowKit Go.Lib Go.Maps Go.Proofs.Ytfpecjhgadijlaa.Wd Go.Proofs.Ytfpecjhgadijlaa.U12

/-- between two rounds -/
def PS (w0 w : World) (q M : Nat) (m : List It) (A : Option Addr) (c r : Nat) : Prop := YP w0 w q M m m A c ∧ m.length = r
set_option maxRecDepth 20000 in
set_option maxHeartbeats 8000000 in
theorem plays_law (N : Int) (A0 : Option Addr) (c0 n : Nat) (L : List It) (x0 : Nat) (w : World) (hNb : -9223372036854775808 ≤ N ∧ N ≤ 9223372036854775807) (ha : Its w A0 c0 L) (hok : ∀ y ∈ L, OkI y) (hn : L.length = n) (hx0 : (x0 : Int) ≤ 18446744073709551615) :
    Calls Try.prog 3 #[.int .i64 N, .slice A0 n c0, .int .u64 (x0 : Int)] w fun e w' => e = .returned (.bool true) ∧ Below w.heap.size w w' := by
  have HN := Lib.hid hn
  have HA := Lib.hid ha
  have HOK := Lib.hid hok
  have m1 := ha.max
  have m3 := ha.cap
  have hmx : n ≤ 9223372036854775807 := by rw [hn] at m3; unfold maxLen at m1; omega
  clear hn ha hok m1 m3
  go_enter Try.func3, Try.ntmps3
  go_wp2_with fail
  refine (alive_any _).mono ?_
  rintro e w1 ⟨rfl, b0⟩
  by_cases h2 : (200 : Int) < (n : Int)
  · go_wp2
    go_ret
    exact ⟨rfl, b0⟩
  by_cases hw : N < 0
  · have hnew := ynew_wrong N w1 (.inl hw)
    go_wp2_with fail
    refine hnew.mono ?_
    rintro e w2 ⟨rfl, rfl⟩
    clear hnew
    go_wp2
    go_ret
    exact ⟨rfl, b0⟩
  by_cases hw2 : 65536 < N
  · have hnew := ynew_wrong N w1 (.inr hw2)
    go_wp2_with fail
    refine hnew.mono ?_
    rintro e w2 ⟨rfl, rfl⟩
    clear hnew
    go_wp2
    go_ret
    exact ⟨rfl, b0⟩
  obtain ⟨M, rfl⟩ : ∃ M : Nat, N = (M : Int) := ⟨N.toNat, by omega⟩
  have hnew := YR.new M (by omega) b0
  clear b0
  go_wp2_with fail
  refine hnew.mono ?_
  rintro e w2 ⟨q, rfl, hY⟩
  have HY := Lib.hid (show PS w w2 q M [] none 0 0 from by
    obtain ⟨o, h1, h2, h3⟩ := hY
    exact ⟨⟨⟨o, h1, h2, fun a h => by cases h⟩, h3, Its.nil _⟩, rfl⟩)
  clear hnew hY
  go_wp2
  go_loopw [9, 10] (fun v9 v10 wr => ∃ (A : Option Addr) (c r k : Nat) (m : List It), v9 = .slice A r c ∧ v10 = .int .i64 (k : Int) ∧ k ≤ n ∧ r ≤ k ∧ Hid (PS w wr q M m A c r)) (fun _ v10 _ => n - (intOf v10).toNat)
  case atStart => exact ⟨none, 0, 0, 0, [], rfl, rfl, Nat.zero_le _, Nat.le_refl _, HY⟩
  case round =>
    clear HY
    obtain ⟨A, c, r, k, m, rfl, rfl, hk, hrk, HY⟩ := hrel
    by_cases hkn : k < n
    · have hbw := HY.out.1.bel
      have hk1 : k < L.length := by rw [HN.out]; exact hkn
      have hx := HOK.out L[k] (List.getElem_mem hk1)
      obtain ⟨ad, p, rfl, hp, y0, y1⟩ := HA.out.get hk1
      have l0 : p.block < w.heap.size := World.block_lt_of_cell? _ _ y0
      have kp : ∀ W, Below w.heap.size w W → W.cell? p = some (.int .u64 (L[k].1 : Int)) ∧ W.cell? ⟨p.block, p.off + 1, none⟩ = some (.int .u64 (L[k].2 : Int)) := fun W hW =>
        ⟨(hW.cell l0).trans y0, (hW.cell (p := ⟨p.block, p.off + 1, none⟩) l0).trans y1⟩
      obtain ⟨a1, a2⟩ := kp wr hbw
      generalize L[k] = x at *
      have hd := (HY.out.1.below (drew_below wr)).put x hx (by have := HY.out.2; omega)
      have HL := Lib.hid HY.out.2
      have hlen1 := yput_le m x M
      have hnle := yput_len (m := m) (x := x) (M := M) HY.out.1.yr.le
      have hrput := fun (W : World) (hW : YP w W q M (yput m x M) m A c) => hW.rput x HL.out (by omega)
      have z0 : (0 : Int) ≤ (k : Int) := by omega
      have z1 : ((k : Int)).toNat = k := by omega
      have kf := fun (W : World) (hW : YP w W q M (yput m x M) m A c) => kp W hW.bel
      clear y0 y1 HY hbw kp l0 hx
      generalize yid m x M = zi at *
      generalize yis m x M = zb at *
      generalize yput m x M = m2 at *
      go_wp2_with fail
      go_region_held3 (fun w' => w'.cell? p = some (.int .u64 (x.1 : Int)) ∧ w'.cell? ⟨p.block, p.off + 1, none⟩ = some (.int .u64 (x.2 : Int)))
        (first | exact q4 | go_keep)
        (first | (go_at_call 8; (with_reducible refine hd.mono ?_); rintro e w3 ⟨rfl, hY3⟩; have q4 := kf w3 hY3))
      have hrp := hrput w3 hY3
      clear a1 a2 hd hrput kf hY3
      obtain ⟨a1, a2⟩ := q4
      go_wp2_with fail
      refine hrp.mono ?_
      rintro e w4 ⟨B, r2, d, rfl, hr2, hY4⟩
      have hlen := hY4.yr.len r2 hr2
      have hrM : ¬ (M : Int) < (r2 : Int) := by omega
      have hrk2 : r2 ≤ k + 1 := by have := HL.out; omega
      have HY := Lib.hid hY4
      have HR := Lib.hid hr2
      clear hrp a1 a2 hY4 hr2 hlen1 hnle
      go_wp2_with fail
      refine hlen.mono ?_
      rintro e w5 ⟨rfl, rfl⟩
      go_wp2_with fail
      refine hlen.mono ?_
      rintro e w5 ⟨rfl, rfl⟩
      clear hlen
      go_wp2
      go_loopw [17] (fun v w' => ∃ j : Nat, v = .int .i64 (j : Int) ∧ j ≤ k + 1 ∧ Hid (YP w w' q M m2 m2 B d)) (fun v _ => k + 1 - (intOf v).toNat)
      case atStart => exact ⟨0, rfl, Nat.zero_le _, HY⟩
      case round =>
        clear HY
        obtain ⟨j, rfl, hj, HY⟩ := hrel
        by_cases hjk : j ≤ k
        · have hj1 : j < L.length := by rw [HN.out]; omega
          have hx := (HOK.out L[j] (List.getElem_mem hj1)).1
          obtain ⟨ad2, p2, e2, hp2, y0, _⟩ := HA.out.get hj1
          cases e2
          have a1 : _ = some (Value.int .u64 (L[j].1 : Int)) := (HY.out.bel.cell (World.block_lt_of_cell? _ _ y0)).trans y0
          clear y0
          generalize L[j].1 = x2 at *
          obtain ⟨s, hs⟩ : ∃ s, isin m2 x2 = s := ⟨_, rfl⟩
          obtain ⟨z, hz, hfind⟩ := rfind_fix x2 HY.out.its HY.out.yr.nodup HR.out
          have hh := fun k => ((HY.out.below (below_dn (Below.refl _ _) k)).yr.has x2 hx s hs).mono (fun _ _ x => ⟨x.1, x.2.symm⟩ : ∀ e w', _ → e = .returned (.bool s) ∧ w' = World.drewN _ k)
          have hf := fun k => hfind _ (below_dn (Below.refl _ _) k)
          have HD := Lib.hid (fun k => HY.out.below (below_dn (Below.refl _ _) k))
          rw [hs] at hz
          have z2 : (0 : Int) ≤ (j : Int) := by omega
          have z3 : ((j : Int)).toNat = j := by omega
          have z4 : (j : Int) < (n : Int) := by omega
          clear HY hs hx hfind
          cases s with
          | true =>
            have hz2 : decide (0 ≤ z) = true := hz.symm
            clear hz
            go_wp2_with fail
            go_quiet (first | (go_at_call 11; exact Calls.quiet_of_same (hh _)) | (go_at_call 12; exact Calls.quiet_of_same (hf _)))
            clear hh hf a1
            go_wp2
            go_roundw
            case rel => exact ⟨j + 1, by go_num, by omega, Lib.hid (HD.out _)⟩
            case measure => first | go_num | (simp [intOf]; omega)
          | false =>
            have hz2 : decide (0 ≤ z) = false := hz.symm
            clear hz
            go_wp2_with fail
            go_quiet (first | (go_at_call 11; exact Calls.quiet_of_same (hh _)) | (go_at_call 12; exact Calls.quiet_of_same (hf _)))
            clear hh hf a1
            go_wp2
            go_roundw
            case rel => exact ⟨j + 1, by go_num, by omega, Lib.hid (HD.out _)⟩
            case measure => first | go_num | (simp [intOf]; omega)
        · obtain ⟨s, hs⟩ : ∃ s, isin m2 x0 = s := ⟨_, rfl⟩
          obtain ⟨z, hz, hfind⟩ := rfind_fix x0 HY.out.its HY.out.yr.nodup HR.out
          have hh := HY.out.yr.has x0 hx0 s hs
          have hf := hfind _ (Below.refl _ _)
          rw [hs] at hz
          have HP := Lib.hid (show PS w _ q M m2 B d r2 from ⟨HY.out, HR.out⟩)
          clear HY hs hfind
          cases s with
          | true =>
            have hz2 : 0 ≤ z := of_decide_eq_true hz.symm
            clear hz
            go_wp2_with fail
            refine hh.mono ?_
            rintro e w6 ⟨rfl, rfl⟩
            go_wp2_with fail
            refine hf.mono ?_
            rintro e w6 ⟨rfl, rfl⟩
            clear hh hf
            go_wp2
            go_roundw
            case rel => exact ⟨B, d, r2, k + 1, m2, rfl, by go_num, by omega, by omega, HP⟩
            case measure => first | go_num | (simp [intOf]; omega)
          | false =>
            have hz2 : ¬ 0 ≤ z := of_decide_eq_false hz.symm
            clear hz
            go_wp2_with fail
            refine hh.mono ?_
            rintro e w6 ⟨rfl, rfl⟩
            go_wp2_with fail
            refine hf.mono ?_
            rintro e w6 ⟨rfl, rfl⟩
            clear hh hf
            go_wp2
            go_roundw
            case rel => exact ⟨B, d, r2, k + 1, m2, rfl, by go_num, by omega, by omega, HP⟩
            case measure => first | go_num | (simp [intOf]; omega)
    · have hb := Lib.hid HY.out.1.bel
      go_wp2
      go_ret
      exact ⟨rfl, hb.out⟩
end Go.Proofs.Ytfpecjhgadijlaa.Y14
