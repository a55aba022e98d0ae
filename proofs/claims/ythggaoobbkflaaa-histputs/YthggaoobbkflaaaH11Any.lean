/-
  Full of a histogram.
-/
import Derived.Test.YthggaoobbkflaaaH11Buckets
set_option linter.unusedSimpArgs false
set_option linter.unusedVariables false
namespace Go.Proofs.Ythggaoobbkflaaa.H11
open Go.RowKit Go.Lib Go.Proofs.Ythggaoobbkflaaa.Wd Go.Proofs.Ythggaoobbkflaaa.S10

theorem two_row (w : World) (e : TypeId) (S T : Nat) : Rd 2 (w.alloc (.cells #[.int .u64 (sn S), .bool (sf S), .int .u64 (sn T), .bool (sf T)] e)) (some ⟨w.heap.size, 0, none⟩) 2 2 (crow [S, T]) := by
  refine ⟨rfl, (fun e => by cases e), Nat.le_refl _, by unfold maxLen; omega, fun ad ha i u hu => ?_⟩
  injection ha with ha
  subst ha
  rw [add_shift _ _ rfl]
  match i with
  | 0 => simp [crow, cc] at hu; subst hu; simp
  | 1 => simp [crow, cc] at hu; subst hu; simp
  | 2 => simp [crow, cc] at hu; subst hu; simp
  | 3 => simp [crow, cc] at hu; subst hu; simp
  | i + 4 => simp [crow, cc] at hu
theorem Hr.below {w w' : World} {p g c : Nat} {A : Option Addr} {bs : List Nat} {K : Nat → Nat} {N S : Nat} (h : Hr w p g A c bs K N S) (hb : Below w.heap.size w w') : Hr w' p g A c bs K N S :=
  have hp := hb.block p h.r.lt
  have hg := hb.block g h.lg
  ⟨(World.cell?_of_block (a := ⟨p, 0, none⟩) hp).trans h.c0, (World.cell?_of_block (a := ⟨p, 1, none⟩) hp).trans h.c1, h.us.below hb, h.ap, h.ne, Nat.lt_of_lt_of_le h.lg hb.size, h.rt,
    fun i hi => (h.ct i hi).kept hg, h.r.kept hp, h.n.kept hp, h.s.kept hp⟩
set_option maxRecDepth 20000 in
set_option maxHeartbeats 2000000 in
theorem full_at (p g c : Nat) (A : Option Addr) (bs : List Nat) (K : Nat → Nat) (N S : Nat) (b : Bool) (w : World) (h : Hr w p g A c bs K N S) (hb : (ks K (bs.length + 1) ++ [N, S]).any sf = b) :
    Calls Try.prog 15 #[.pointer (some ⟨p, 0, none⟩)] w fun e w' => e = .returned (.bool b) ∧ Below w.heap.size w w' := by
  obtain ⟨i0, hi, hz0, hz1, hz2⟩ := info_of ct_info
  obtain ⟨m, hm⟩ : ∃ m, bs.length + 1 = m := ⟨_, rfl⟩
  have hm1 : 0 < m ∧ m ≤ 33 := by have := h.rt.few; omega
  have hB := buckets_at p g c bs.length m A bs K N S w h rfl hm
  have hN := fun W h => count_at p g c A bs K N S W h
  have hS := fun W h => hsum_at p g c A bs K N S W h
  have hone := crow_one [N, S]
  rw [hm] at hb
  have hl : (ks K m ++ [N, S]).length = m + 2 := by rw [List.length_append, ks_len]; rfl
  have HB := Lib.hid hb
  have HL := Lib.hid hl
  clear hb hl hm
  go_enter Try.func15, Try.ntmps15
  go_wp2_with fail
  refine hB.mono ?_
  rintro e w1 ⟨A1, k1, rfl, own1, b1⟩
  have h1 := h.below b1
  clear hB h
  go_wp2_with fail
  refine (hN _ h1).mono ?_
  rintro e w2 ⟨rfl, b2⟩
  have h2 := h1.below b2
  have own2 := own_below own1 b2
  have B2 := b1.trans (b2.mono b1.size)
  clear hN h1 own1 b1 b2
  go_wp2_with fail
  refine (hS _ h2).mono ?_
  rintro e w3 ⟨rfl, b3⟩
  have own3 := own_below (own_below own2 b3) (below_box w3 (.cells #[.int .u64 (sn N), .bool (sf N), .int .u64 (sn S), .bool (sf S)] 37))
  have B3 := (B2.trans (b3.mono B2.size)).trans ((below_box w3 (.cells #[.int .u64 (sn N), .bool (sf N), .int .u64 (sn S), .bool (sf S)] 37)).mono (B2.trans (b3.mono B2.size)).size)
  have T3 := two_row w3 37 N S
  clear hS h2 own2 B2 b3
  go_wp2_with (at_builtin; refine wpList_append_rd _ rfl (.tmp 5) (.tmp 10) 34 rfl w.heap.size 37 i0 _ 2 16 Try.underlying34 hi hz0 hz1 hz2 rfl (by decide) (.slice A1 m k1) m (crow (ks K m)) rfl own3 (some ⟨w3.heap.size, 0, none⟩) 2 2 (crow [N, S]) rfl T3 hone ?d1 ?d2 ?d3 ?_)
  case d1 => unfold maxLen; omega
  case d2 => omega
  case d3 => exact B3.size
  intro A4 k4 w4 own4 g4
  have B4 := B3.grown g4 B3.size fun k hk => (own3.lt k hk).1
  rw [← crow_app] at own4
  obtain ⟨q, rfl, hq, C4⟩ := own_co own4 HL.out (by omega)
  have hC := containsf_at q k4 (m + 2) (ks K m ++ [N, S]) b w4 C4 HL.out (by omega) HB.out
  clear own4 g4 own3 T3 B3 HB HL C4
  go_wp2_with fail
  refine hC.mono ?_
  rintro e w5 ⟨rfl, b5⟩
  go_wp2
  go_ret
  exact ⟨rfl, B4.trans (b5.mono B4.size)⟩
end Go.Proofs.Ythggaoobbkflaaa.H11
