/-
  The walk of TombKeeps.
-/
import Derived.Test.YtfpecjhgadijlaaY14Own
import Derived.Test.YtfpecjhgadijlaaY14Open
import Derived.Deep.RegionHeld3
set_option linter.unusedSimpArgs false
set_option linter.unusedVariables false
namespace Go.Proofs.Ytfpecjhgadijlaa.Y14
open Go.RowKit Go.Lib Go.Maps Go.Proofs.Ytfpecjhgadijlaa.Wd Go.Proofs.Ytfpecjhgadijlaa.U12

set_option maxRecDepth 20000 in
set_option maxHeartbeats 4000000 in
theorem keeps_law (b : Nat) (A : Option Addr) (c n : Nat) (L : List It) (id : Nat) (w : World) (hb : b ≤ 255) (ha : Its w A c L) (hok : ∀ x ∈ L, OkI x) (hn : L.length = n) (hid : (id : Int) ≤ 18446744073709551615) :
    Calls Try.prog 4 #[.int .u8 (b : Int), .slice A n c, .int .u64 (id : Int)] w fun e w' => e = .returned (.bool true) ∧ Below w.heap.size w w' := by
  have HN := Lib.hid hn
  have HA := Lib.hid ha
  have HOK := Lib.hid hok
  have m1 := ha.max
  have m3 := ha.cap
  have hmx : n ≤ 9223372036854775807 := by rw [hn] at m3; unfold maxLen at m1; omega
  clear hn ha hok m1 m3
  go_enter Try.func4, Try.ntmps4
  go_wp2_with fail
  refine (alive_any _).mono ?_
  rintro e w1 ⟨rfl, b0⟩
  by_cases h2 : (200 : Int) < (n : Int)
  · go_wp2
    go_ret
    exact ⟨rfl, b0⟩
  obtain ⟨M, hM⟩ : ∃ M, 1 + b = M := ⟨_, rfl⟩
  have hMi : 1 + (b : Int) = (M : Int) := by omega
  have hM0 : 0 < M := by omega
  have hM1 : M ≤ 256 := by omega
  have hnew := YR.new M (by omega) b0
  clear hM b0
  go_wp2_with fail
  refine hnew.mono ?_
  rintro e w2 ⟨q, rfl, hY⟩
  have HY := Lib.hid (show YR w w2 q M [] ∧ ([] : List It).length ≤ 0 ∧ ∀ y ∈ ([] : List It), y.2 < 1000 from ⟨hY, Nat.le_refl _, fun y h => by cases h⟩)
  clear hnew hY
  go_wp2
  go_loopw [9] (fun v wr => ∃ (k : Nat) (m : List It), v = .int .i64 (k : Int) ∧ k ≤ n ∧ Hid (YR w wr q M m ∧ m.length ≤ k ∧ ∀ y ∈ m, y.2 < 1000)) (fun v _ => n - (intOf v).toNat)
  case atStart => exact ⟨0, [], rfl, Nat.zero_le _, HY⟩
  case round =>
    clear HY
    obtain ⟨k, m, rfl, hk, HY⟩ := hrel
    by_cases hkn : k < n
    · have hbw := HY.out.1.bel
      have hk1 : k < L.length := by rw [HN.out]; exact hkn
      have hx := HOK.out L[k] (List.getElem_mem hk1)
      obtain ⟨ad, p, rfl, hp, x0, x1⟩ := HA.out.get hk1
      have l0 : p.block < w.heap.size := World.block_lt_of_cell? _ _ x0
      have kp : ∀ W, Below w.heap.size w W → W.cell? p = some (.int .u64 (L[k].1 : Int)) ∧ W.cell? ⟨p.block, p.off + 1, none⟩ = some (.int .u64 (L[k].2 : Int)) := fun W hW =>
        ⟨(hW.cell l0).trans x0, (hW.cell (p := ⟨p.block, p.off + 1, none⟩) l0).trans x1⟩
      obtain ⟨a1, a2⟩ := kp wr hbw
      generalize L[k] = x at *
      obtain ⟨t, ht⟩ : ∃ t, x.2 % 1000 = t := ⟨_, rfl⟩
      have ht0 : t < 1000 := by omega
      have ht1 : (x.2 : Int) % 1000 = (t : Int) := by omega
      have ht2 : (x.2 : Int).tmod 1000 = (t : Int) := by rw [Int.tmod_eq_emod_of_nonneg (by omega)]; exact ht1
      have hd := (HY.out.1.below (drew_below wr)).put (x.1, t) ⟨hx.1, by omega⟩ (by have := HY.out.2.1; omega)
      have hnext := Lib.hid (show (yput m (x.1, t) M).length ≤ k + 1 ∧ ∀ y ∈ yput m (x.1, t) M, y.2 < 1000 from ⟨Nat.le_trans (yput_le _ _ _) (Nat.succ_le_succ HY.out.2.1), fun y hy => by
        rcases mem_putm (yput_sub hy) with h | ⟨h, _⟩
        · rw [h]; exact ht0
        · exact HY.out.2.2 y h⟩)
      have z0 : (0 : Int) ≤ (k : Int) := by omega
      have z1 : ((k : Int)).toNat = k := by omega
      have kf := fun (W : World) (hW : YR w W q M (yput m (x.1, t) M)) => kp W hW.bel
      clear x0 x1 HY hbw kp l0 ht hx
      generalize yid m (x.1, t) M = zi at *
      generalize yis m (x.1, t) M = zb at *
      generalize yput m (x.1, t) M = m2 at *
      go_wp2_with fail
      go_region_held3 (fun w' => w'.cell? p = some (.int .u64 (x.1 : Int)) ∧ w'.cell? ⟨p.block, p.off + 1, none⟩ = some (.int .u64 (x.2 : Int)))
        (first | exact q4 | go_keep)
        (first | (go_at_call 8; (with_reducible refine hd.mono ?_); rintro e w3 ⟨rfl, hY3⟩; have q4 := kf w3 hY3))
      have HY := Lib.hid (And.intro hY3 hnext.out)
      clear q4 kf a1 a2 hd hY3 hnext
      go_wp2
      go_roundw
      case rel => exact ⟨k + 1, m2, by go_num, by omega, HY⟩
      case measure => first | go_num | (simp [intOf]; omega)
    · obtain ⟨hY, hl, h1000⟩ := HY.out
      have hput := hY.put (id, 1000) ⟨hid, by show ((1000 : Nat) : Int) ≤ 18446744073709551615; decide⟩ (by omega)
      obtain ⟨hin, hne⟩ := yput_last hY.sorted hY.nodup (x := (id, 1000)) hM0 h1000
      obtain ⟨zb, hzb⟩ : ∃ z, yis m (id, 1000) M = z := ⟨_, rfl⟩
      obtain ⟨zi, hzi⟩ : ∃ z, yid m (id, 1000) M = z := ⟨_, rfl⟩
      rw [hzb] at hput hne
      rw [hzi] at hput hne
      have hisin : isin (yput m (id, 1000) M) id = true := isin_true.2 ⟨_, hin, rfl⟩
      clear HY hY hl h1000 hin hzb hzi
      generalize yput m (id, 1000) M = m2 at *
      go_wp2_with fail
      refine hput.mono ?_
      rintro e w3 ⟨rfl, h3⟩
      clear hput
      have hnp := yput_nil 1 1 w3
      have hnh := yhas_nil 1 w3
      have hnl := ylen_nil w3
      have hhas := h3.has id hid true hisin
      obtain ⟨r, hr⟩ : ∃ r, m2.length = r := ⟨_, rfl⟩
      have hlen := h3.len r hr
      have hrM : (r : Int) ≤ (M : Int) := by have := h3.le; omega
      have HB := Lib.hid h3.bel
      clear h3 hisin hr
      go_wp2_with fail
      refine hnp.mono ?_
      rintro e w4 ⟨rfl, rfl⟩
      clear hnp
      cases zb with
      | false =>
        clear hne
        go_wp2_with fail
        refine hhas.mono ?_
        rintro e w4 ⟨rfl, rfl⟩
        go_wp2_with fail
        refine hlen.mono ?_
        rintro e w4 ⟨rfl, rfl⟩
        go_wp2_with fail
        refine hnh.mono ?_
        rintro e w4 ⟨rfl, rfl⟩
        go_wp2_with fail
        refine hnl.mono ?_
        rintro e w4 ⟨rfl, rfl⟩
        go_wp2
        go_ret
        exact ⟨rfl, HB.out⟩
      | true =>
        have hne := hne rfl
        have hne1 : ¬ (zi : Int) = (id : Int) := fun e => hne (by show zi = id; omega)
        have hne2 : ((zi : Int) != (id : Int)) = true := by simp [hne1]
        clear hne
        go_wp2_with fail
        refine hhas.mono ?_
        rintro e w4 ⟨rfl, rfl⟩
        go_wp2_with fail
        refine hlen.mono ?_
        rintro e w4 ⟨rfl, rfl⟩
        go_wp2_with fail
        refine hnh.mono ?_
        rintro e w4 ⟨rfl, rfl⟩
        go_wp2_with fail
        refine hnl.mono ?_
        rintro e w4 ⟨rfl, rfl⟩
        go_wp2
        go_ret
        exact ⟨rfl, HB.out⟩
end Go.Proofs.Ytfpecjhgadijlaa.Y14
