/-
  The walk of DigestPrefers (written by gen09/law_prefers.py).
-/
import Derived.Test.YtjbnoioildbahaaD9Least
import Derived.Test.YtjbnoioildbahaaD9Ref
set_option linter.unusedSimpArgs false
set_option linter.unusedVariables false
namespace Go.Proofs.Ytjbnoioildbahaa.D09
open Go.Shelf Go.RowKit Go.Lib Go.Sort Go.Proofs.Ytjbnoioildbahaa.Wd Go.Proofs.Ytjbnoioildbahaa.V04 Go.Proofs.Ytjbnoioildbahaa.P06 Go.Proofs.Ytjbnoioildbahaa.B07
open Go.Proofs.Ytjbnoioildbahaa.S05 (Fr Sub)

set_option maxRecDepth 20000 in
set_option maxHeartbeats 8000000 in
theorem prefers_law (A0 : Option Addr) (c0 N : Nat) (L : List Spn) (y : Nat) (w : World) (hL : Sps w A0 c0 L) (hN : L.length = N) (hy : y ≤ 255) :
    Calls Try.prog 4 #[.slice A0 N c0, .int .u8 (y : Int)] w fun e w' => e = .returned (.bool true) ∧ Below w.heap.size w w' := by
  have b0 := Below.refl w.heap.size w
  have mixed : Try.prog.follows .mixedOrders = true := by kernel_rfl
  have hmx : N ≤ 9223372036854775807 := by have := hL.rd.cap; have := hL.rd.max; unfold maxLen at this; omega
  have HN := Lib.hid hN
  clear hN
  go_enter Try.func4, Try.ntmps4
  go_wp2_with fail
  refine (D09.alive_any _).mono ?_
  rintro e w1 ⟨rfl, b1⟩
  replace b0 := b0.trans (b1.mono b0.size)
  clear b1
  by_cases h12 : (12 : Int) < (N : Int)
  · go_wp2
    go_ret
    exact ⟨rfl, b0⟩
  by_cases h00 : N = 0
  · have h01 : ((N : Int) == 0) = true := by simp [h00]
    go_wp2
    go_ret
    exact ⟨rfl, b0⟩
  have h01 : ((N : Int) == 0) = false := by simp; omega
  have hL1 := hL.below b0
  clear hL
  have HB := Lib.hid b0
  clear b0
  go_wp2
  go_loopw [5] (fun i wr => ∃ k : Nat, i = .int .i64 (k : Int) ∧ k ≤ N ∧ Below w1.heap.size w1 wr ∧ Hid (∀ x ∈ L.take k, x.l.length ≤ 40)) (fun i _ => N - (intOf i).toNat)
  case atStart => exact ⟨0, rfl, by omega, Below.refl _ _, Lib.hid (by simp)⟩
  case round =>
    obtain ⟨k, rfl, hk, hb, h40⟩ := hrel
    by_cases hlt : k < N
    · have hltz : (k : Int) < (N : Int) := by omega
      have hkl : k < L.length := by rw [HN.out]; exact hlt
      obtain ⟨ad, p, hAd, hp, F⟩ := (hL1.below hb).get hkl
      have hA := (hL1.below hb).ats _ (List.getElem_mem hkl)
      obtain ⟨⟨s, A, c, l⟩, hLk⟩ : ∃ x, L[k] = x := ⟨_, rfl⟩
      rw [hLk] at F hA
      dsimp only at hA
      subst hAd
      have e0 := F.c0
      have e1 := F.c1
      have e2 := F.c2
      have e3 := F.c3
      have e4 := F.c4
      have e5 := F.c5
      have e6 := F.c6
      have e7 := F.c7
      have e8 := F.c8
      have e9 := F.c9
      dsimp only at e0 e1 e2 e3 e4 e5 e6 e7 e8 e9
      obtain ⟨m, hm⟩ : ∃ m, l.length = m := ⟨_, rfl⟩
      obtain ⟨q, hq⟩ : ∃ q, far s l = q := ⟨_, rfl⟩
      rw [hm] at e9
      have hmm : m ≤ 9223372036854775807 := by have := hA.cap; have := hA.max; unfold maxLen at this; omega
      have hfr := far_at s A c m l q wr hA hm hmm hq
      have HE := Lib.hid (show q = false → ∀ x ∈ L.take (k + 1), x.l.length ≤ 40 from fun hf x hx => by
        rw [← List.take_append_getElem hkl] at hx
        rcases List.mem_append.1 hx with hx | hx
        · exact h40.out x hx
        · rw [List.mem_singleton.1 hx, hLk]
          exact far_len (hq.trans hf))
      clear hA F hLk hm hq hmm h40
      go_wp2_with fail
      refine hfr.mono ?_
      rintro e w3 ⟨rfl, b3⟩
      have hb3 := hb.trans (b3.mono hb.size)
      clear hfr b3 e0 e1 e2 e3 e4 e5 e6 e7 e8 e9
      cases q with
      | true =>
        go_wp2
        go_ret
        exact ⟨rfl, HB.out.trans (hb3.mono HB.out.size)⟩
      | false =>
        go_wp2
        go_roundw
        case rel => exact ⟨k + 1, by go_num, by omega, hb3, Lib.hid (HE.out (by simp))⟩
        case measure => first | go_num | (simp [intOf]; omega)
    · have hltz : ¬ ((k : Int) < (N : Int)) := by omega
      have hkn : k = N := by omega
      subst hkn
      have H40 : Hid (∀ x ∈ L, x.l.length ≤ 40) := Lib.hid (by have := h40.out; rwa [List.take_of_length_le (by rw [HN.out]; exact Nat.le_refl _)] at this)
      clear h40 hlt hltz
      have h0l : 0 < L.length := by rw [HN.out]; omega
      obtain ⟨ad, p, hAd, hp, F⟩ := (hL1.below hb).get h0l
      have hA := (hL1.below hb).ats _ (List.getElem_mem h0l)
      obtain ⟨⟨s, A, c, l⟩, hLk⟩ : ∃ x, L[0] = x := ⟨_, rfl⟩
      rw [hLk] at F hA
      dsimp only at hA
      subst hAd
      have e0 := F.c0
      have e1 := F.c1
      have e2 := F.c2
      have e3 := F.c3
      have e4 := F.c4
      have e5 := F.c5
      have e6 := F.c6
      have e7 := F.c7
      have e8 := F.c8
      have e9 := F.c9
      dsimp only at e0 e1 e2 e3 e4 e5 e6 e7 e8 e9
      have hm40 : l.length ≤ 40 := by have := H40.out _ (List.getElem_mem h0l); rw [hLk] at this; exact this
      obtain ⟨m, hm⟩ : ∃ m, l.length = m := ⟨_, rfl⟩
      rw [hm] at e9 hm40
      have hof := of_at s A c m l wr hA hm hm40
      have hpos : (0 : Int) < (k : Int) := by omega
      have hkz : ¬ ((k : Int) = 0) := by omega
      obtain ⟨kk, hkk⟩ : ∃ kk : Nat, (y : Int) % (k : Int) = (kk : Int) := ⟨y % k, (Int.natCast_emod y k).symm⟩
      have hkk1 : kk < k := by have := Int.emod_lt_of_pos (y : Int) hpos; omega
      clear F hA
      go_wp2_with fail
      refine hof.mono ?_
      rintro e w2 ⟨A5, c5, rfl, H5, b2⟩
      have hb2 := hb.trans (b2.mono hb.size)
      have hs2 := hb2.size
      have hlt5 := B07.Hd.lt H5
      have hbs := hb.size
      have b3 : Below w2.heap.size w2 (w2.alloc (.cells (spc s (.slice A5 m c5)) 39)) := (Below.refl _ _).alloc (Nat.le_refl _) _
      have K5 : Bk (w2.alloc (.cells (spc s (.slice A5 m c5)) 39)) w2.heap.size 39 (spc s (.slice A5 m c5)) := Bk.new w2 _ _
      have hs3 : (w2.alloc (.cells (spc s (.slice A5 m c5)) 39)).heap.size = w2.heap.size + 1 := by simp
      replace H5 := H5.below b3
      have hb3 := hb2.trans (b3.mono hb2.size)
      have hkl : kk < L.length := by rw [HN.out]; exact hkk1
      have hkz2 : (kk : Int) < (k : Int) := by omega
      obtain ⟨ad6, p6, hAd6, hp6, F6⟩ := (hL1.below hb3).get hkl
      have hA6 := (hL1.below hb3).ats _ (List.getElem_mem hkl)
      obtain ⟨⟨s6, A6, c6, l6⟩, hLk6⟩ : ∃ x, L[kk] = x := ⟨_, rfl⟩
      rw [hLk6] at F6 hA6
      dsimp only at hA6
      injection hAd6 with hAd6
      subst hAd6
      have g0 := F6.c0
      have g1 := F6.c1
      have g2 := F6.c2
      have g3 := F6.c3
      have g4 := F6.c4
      have g5 := F6.c5
      have g6 := F6.c6
      have g7 := F6.c7
      have g8 := F6.c8
      have g9 := F6.c9
      dsimp only at g0 g1 g2 g3 g4 g5 g6 g7 g8 g9
      have hm640 : l6.length ≤ 40 := by have := H40.out _ (List.getElem_mem hkl); rw [hLk6] at this; exact this
      obtain ⟨m6, hm6⟩ : ∃ m6, l6.length = m6 := ⟨_, rfl⟩
      rw [hm6] at g9 hm640
      have hof6 := of_at s6 A6 c6 m6 l6 _ hA6 hm6 hm640
      clear hof b2 hb hb2 b3 F6 hA6 e0 e1 e2 e3 e4 e5 e6 e7 e8 e9
      go_wp2_with fail
      change Calls _ _ _ (w2.alloc (.cells (spc s (.slice A5 m c5)) 39)) _
      generalize w2.alloc (.cells (spc s (.slice A5 m c5)) 39) = w3 at *
      refine hof6.mono ?_
      rintro e w4 ⟨A7, c7, rfl, H7, b4⟩
      have hb4 := hb3.trans (b4.mono hb3.size)
      have hlt7 := B07.Hd.lt H7
      have hs4 := b4.size
      replace K5 := K5.below b4
      replace H5 := H5.below b4
      have b5 : Below w4.heap.size w4 (w4.alloc (.cells (spc s6 (.slice A7 m6 c7)) 39)) := (Below.refl _ _).alloc (Nat.le_refl _) _
      have K7 : Bk (w4.alloc (.cells (spc s6 (.slice A7 m6 c7)) 39)) w4.heap.size 39 (spc s6 (.slice A7 m6 c7)) := Bk.new w4 _ _
      replace K5 := K5.below b5
      replace H5 := H5.below b5
      replace H7 := H7.below b5
      have hb5 := hb4.trans (b5.mono hb4.size)
      have R0 : PrR w1 w2.heap.size w4.heap.size ⟨s, A5, c5, l⟩ ⟨s6, A7, c7, l6⟩ (w4.alloc (.cells (spc s6 (.slice A7 m6 c7)) 39)) := by
        refine ⟨?_, ?_, H5.low (by omega), H7.low (by omega), ?_, ?_, fun p hp => ?_, fun p hp => ?_, hb5, by omega, by omega⟩
        · unfold tenA; dsimp only; rw [hm]; exact K5
        · unfold tenA; dsimp only; rw [hm6]; exact K7
        · dsimp only; rw [hm]; exact hm40
        · dsimp only; rw [hm6]; exact hm640
        · have := hlt5 p hp; omega
        · have := hlt7 p hp; omega
      have P0 : (s, l) ∈ pns L := List.mem_map.2 ⟨_, List.getElem_mem h0l, by rw [hLk]; rfl⟩
      have P6 : (s6, l6) ∈ pns L := List.mem_map.2 ⟨_, List.getElem_mem hkl, by rw [hLk6]; rfl⟩
      have I0 := Lib.hid (Least.start (f := id) P0)
      have I6 := Lib.hid (Least.start (f := way k kk) P6)
      clear hof6 b4 b5 hb3 hb4 hb5 hs3 K5 K7 H5 H7 P0 P6 hlt5 hlt7 hm hm6 hm40 hm640 hLk hLk6 g0 g1 g2 g3 g4 g5 g6 g7 g8 g9
      go_wp2
      generalize w4.alloc (.cells (spc s6 (.slice A7 m6 c7)) 39) = w5 at *
      clear hs2 hs4 hbs
      generalize w2.heap.size = ga at *
      generalize w4.heap.size = gb at *
      go_loopw [9] (fun v wr => ∃ (i : Nat) (x z : Spn), v = .int .i64 (i : Int) ∧ i ≤ k ∧ PrR w1 ga gb x z wr ∧ Hid (Least (pns L) id i x.pn) ∧ Hid (Least (pns L) (way k kk) i z.pn)) (fun v _ => k - (intOf v).toNat)
      case atStart => exact ⟨0, _, _, rfl, by omega, R0, I0, I6⟩
      case round =>
        clear R0 I0 I6
        obtain ⟨i, ⟨s8, A8, c8, l8⟩, ⟨s9, A9, c9, l9⟩, rfl, hi, R, I1, I2⟩ := hrel
        by_cases hlt : i < k
        · have hltz : (i : Int) < (k : Int) := by omega
          have hil : i < L.length := by rw [HN.out]; exact hlt
          have hwl : way k kk i < L.length := by rw [HN.out]; exact way_lt _ _ (by omega)
          obtain ⟨ad1, p1, hAd1, hp1, F1⟩ := (hL1.below R.bel).get hil
          have hA1 := (hL1.below R.bel).ats _ (List.getElem_mem hil)
          obtain ⟨⟨s1, A1, c1, l1⟩, hLk1⟩ : ∃ x, L[i] = x := ⟨_, rfl⟩
          rw [hLk1] at F1 hA1
          dsimp only at hA1
          injection hAd1 with hAd1
          subst hAd1
          have h1s : l1.length ≤ 40 := by have := H40.out _ (List.getElem_mem hil); rw [hLk1] at this; exact this
          obtain ⟨m1, hm1⟩ : ∃ m, l1.length = m := ⟨_, rfl⟩
          have TE := TenW.of F1 hm1
          rw [hm1] at h1s
          obtain ⟨m8, hm8⟩ : ∃ m, l8.length = m := ⟨_, rfl⟩
          have h8s : m8 ≤ 40 := by have := R.za; dsimp only at this; omega
          have KA : Bk wr ga 39 (spc s8 (.slice A8 m8 c8)) := by have := R.ka; unfold tenA at this; dsimp only at this; rw [hm8] at this; exact this
          obtain ⟨⟨x1, q1⟩, hxq1⟩ : ∃ u, pick (s1, l1) (s8, l8) = u := ⟨_, rfl⟩
          obtain ⟨m31, hm31⟩ : ∃ m, q1.length = m := ⟨_, rfl⟩
          have h3s1 : m31 ≤ 40 := pick_len hxq1 hm31 (by dsimp only; omega) (by dsimp only; omega)
          have hI1 : Hid (Least (pns L) id (i + 1) (x1, q1)) := by
            have hlen : id i < (pns L).length := by rw [pns_len]; exact hil
            have e1 : (pns L)[id i]'hlen = (s1, l1) := (pns_get L hil).trans (by rw [hLk1])
            have e2 := Least.left I1.out hlen
            rw [e1] at e2
            change Least _ _ _ (pick (s1, l1) (s8, l8)) at e2
            rw [hxq1] at e2
            exact Lib.hid e2
          clear F1 hLk1
          go_wp2_with fail
          have R' := R.drew
          have TE' := TE.below (below_drew wr)
          have KA' := KA.below (below_drew wr)
          have hA' := hA1.below (below_drew wr)
          have TW := twenty_at KA' TE'
          clear R TE KA hA1
          refine wp_zed (S := fun w' => w'.cell? ⟨ga, 0, none⟩ = some (.int .u64 s8.T) ∧ w'.cell? ⟨ga, 1, none⟩ = some (.int .u64 s8.I) ∧ w'.cell? ⟨ga, 2, none⟩ = some (.int .u64 s8.P) ∧ w'.cell? ⟨ga, 3, none⟩ = some (.string s8.sv) ∧ w'.cell? ⟨ga, 4, none⟩ = some (.string s8.nm) ∧ w'.cell? ⟨ga, 5, none⟩ = some (.int .i64 s8.kd) ∧ w'.cell? ⟨ga, 6, none⟩ = some (.int .i64 s8.st) ∧ w'.cell? ⟨ga, 7, none⟩ = some (.int .u64 s8.t0) ∧ w'.cell? ⟨ga, 8, none⟩ = some (.int .u64 s8.t1) ∧ w'.cell? ⟨ga, 9, none⟩ = some (.slice A8 m8 c8) ∧ w'.cell? p1 = some (.int .u64 s1.T) ∧ w'.cell? ⟨p1.block, p1.off + 1, none⟩ = some (.int .u64 s1.I) ∧ w'.cell? ⟨p1.block, p1.off + 2, none⟩ = some (.int .u64 s1.P) ∧ w'.cell? ⟨p1.block, p1.off + 3, none⟩ = some (.string s1.sv) ∧ w'.cell? ⟨p1.block, p1.off + 4, none⟩ = some (.string s1.nm) ∧ w'.cell? ⟨p1.block, p1.off + 5, none⟩ = some (.int .i64 s1.kd) ∧ w'.cell? ⟨p1.block, p1.off + 6, none⟩ = some (.int .i64 s1.st) ∧ w'.cell? ⟨p1.block, p1.off + 7, none⟩ = some (.int .u64 s1.t0) ∧ w'.cell? ⟨p1.block, p1.off + 8, none⟩ = some (.int .u64 s1.t1) ∧ w'.cell? ⟨p1.block, p1.off + 9, none⟩ = some (.slice A1 m1 c1)) (z := 7) mixed ?_
          refine Zed.take (i := 0) (v := spv s8 (.slice A8 m8 c8)) rfl (by kernel_rfl) rfl (by kernel_rfl) (by kernel_rfl) (by kernel_rfl) (fun _ _ _ h => h) ?_ TW ?_
          · refine .inl ⟨rfl, fun W hW => ?_⟩
            obtain ⟨q0, q1, q2, q3, q4, q5, q6, q7, q8, q9, q10, q11, q12, q13, q14, q15, q16, q17, q18, q19⟩ := hW
            go_simp
          (try simp only [Act.put, List.setIfInBounds_toArray, List.set_cons_zero, List.set_cons_succ])
          refine Zed.take (i := 1) (v := .slice (some ad) k c0) rfl (by kernel_rfl) rfl (by kernel_rfl) (by kernel_rfl) (by kernel_rfl) (fun _ _ _ h => h) ?_ TW ?_
          · refine .inl ⟨rfl, fun W hW => ?_⟩
            obtain ⟨q0, q1, q2, q3, q4, q5, q6, q7, q8, q9, q10, q11, q12, q13, q14, q15, q16, q17, q18, q19⟩ := hW
            go_simp
          (try simp only [Act.put, List.setIfInBounds_toArray, List.set_cons_zero, List.set_cons_succ])
          refine Zed.take (i := 2) (v := .int .i64 (i : Int)) rfl (by kernel_rfl) rfl (by kernel_rfl) (by kernel_rfl) (by kernel_rfl) (fun _ _ _ h => h) ?_ TW ?_
          · refine .inl ⟨rfl, fun W hW => ?_⟩
            obtain ⟨q0, q1, q2, q3, q4, q5, q6, q7, q8, q9, q10, q11, q12, q13, q14, q15, q16, q17, q18, q19⟩ := hW
            go_simp
          (try simp only [Act.put, List.setIfInBounds_toArray, List.set_cons_zero, List.set_cons_succ])
          refine Zed.take (i := 3) (v := .pointer (some p1)) rfl (by kernel_rfl) rfl (by kernel_rfl) (by kernel_rfl) (by kernel_rfl) (fun _ _ _ h => h) ?_ TW ?_
          · refine .inl ⟨rfl, fun W hW => ?_⟩
            obtain ⟨q0, q1, q2, q3, q4, q5, q6, q7, q8, q9, q10, q11, q12, q13, q14, q15, q16, q17, q18, q19⟩ := hW
            go_simp
          (try simp only [Act.put, List.setIfInBounds_toArray, List.set_cons_zero, List.set_cons_succ])
          refine Zed.take (i := 4) (v := spv s1 (.slice A1 m1 c1)) rfl (by kernel_rfl) rfl (by kernel_rfl) (by kernel_rfl) (by kernel_rfl) (fun _ _ _ h => h) ?_ TW ?_
          · refine .inl ⟨rfl, fun W hW => ?_⟩
            obtain ⟨q0, q1, q2, q3, q4, q5, q6, q7, q8, q9, q10, q11, q12, q13, q14, q15, q16, q17, q18, q19⟩ := hW
            go_simp
          (try simp only [Act.put, List.setIfInBounds_toArray, List.set_cons_zero, List.set_cons_succ])
          refine Zed.step (i := 5) (by kernel_rfl) rfl rfl (fun K hK => ?_)
          go_simp
          refine (of_at s1 A1 c1 m1 l1 _ hA' hm1 h1s).mono ?_
          rintro e v1 ⟨A31, c31, rfl, H3, B3⟩
          have R1 := R'.below B3
          have KA1 := KA'.below B3
          have TE1 := TE'.below B3
          refine hK _ _ ⟨.inr (twenty_at KA1 TE1), ?_⟩
          clear hK K TW R' KA' TE' hA' B3
          (try simp only [Act.put, List.setIfInBounds_toArray, List.set_cons_zero, List.set_cons_succ])
          refine Zed.step (i := 6) (by kernel_rfl) rfl rfl (fun K hK => ?_)
          go_simp
          have hgv := R1.kb.lt
          refine (prefer_at s8 s1 A8 A31 c8 c31 l8 l1 m8 m1 v1 (R1.ha.low (Nat.zero_le _)) (H3.low (Nat.zero_le _)) hm8 hm1 h8s h1s hxq1 hm31).mono ?_
          rintro e v2 ⟨A41, c41, rfl, H4, B4⟩
          have R2 := R1.below B4
          have KA2 := KA1.below B4
          have TE2 := TE1.below B4
          refine hK _ _ ⟨.inr (twenty_at KA2 TE2), ?_⟩
          clear hK K R1 KA1 TE1 H3 B4
          (try simp only [Act.put, List.setIfInBounds_toArray, List.set_cons_zero, List.set_cons_succ])
          have y0 : v2.cell? ⟨ga, 0, none⟩ = some (.int .u64 s8.T) := KA2.cell 0
          have y1 : v2.cell? ⟨ga, 1, none⟩ = some (.int .u64 s8.I) := KA2.cell 1
          have y2 : v2.cell? ⟨ga, 2, none⟩ = some (.int .u64 s8.P) := KA2.cell 2
          have y3 : v2.cell? ⟨ga, 3, none⟩ = some (.string s8.sv) := KA2.cell 3
          have y4 : v2.cell? ⟨ga, 4, none⟩ = some (.string s8.nm) := KA2.cell 4
          have y5 : v2.cell? ⟨ga, 5, none⟩ = some (.int .i64 s8.kd) := KA2.cell 5
          have y6 : v2.cell? ⟨ga, 6, none⟩ = some (.int .i64 s8.st) := KA2.cell 6
          have y7 : v2.cell? ⟨ga, 7, none⟩ = some (.int .u64 s8.t0) := KA2.cell 7
          have y8 : v2.cell? ⟨ga, 8, none⟩ = some (.int .u64 s8.t1) := KA2.cell 8
          have y9 : v2.cell? ⟨ga, 9, none⟩ = some (.slice A8 m8 c8) := KA2.cell 9
          have f0 : v2.frozen? ⟨ga, 0, none⟩ = false := KA2.frozen 0
          have f1 : v2.frozen? ⟨ga, 1, none⟩ = false := KA2.frozen 1
          have f2 : v2.frozen? ⟨ga, 2, none⟩ = false := KA2.frozen 2
          have f3 : v2.frozen? ⟨ga, 3, none⟩ = false := KA2.frozen 3
          have f4 : v2.frozen? ⟨ga, 4, none⟩ = false := KA2.frozen 4
          have f5 : v2.frozen? ⟨ga, 5, none⟩ = false := KA2.frozen 5
          have f6 : v2.frozen? ⟨ga, 6, none⟩ = false := KA2.frozen 6
          have f7 : v2.frozen? ⟨ga, 7, none⟩ = false := KA2.frozen 7
          have f8 : v2.frozen? ⟨ga, 8, none⟩ = false := KA2.frozen 8
          have f9 : v2.frozen? ⟨ga, 9, none⟩ = false := KA2.frozen 9
          refine Zed.step (i := 7) (by kernel_rfl) rfl rfl (fun K hK => ?_)
          go_simp
          refine hK _ _ ⟨.inl rfl, Zed.done (by kernel_rfl) ?_ _⟩
          clear hK K y0 y1 y2 y3 y4 y5 y6 y7 y8 y9 f0 f1 f2 f3 f4 f5 f6 f7 f8 f9 KA2 TE2
          (try simp only [Act.put, List.setIfInBounds_toArray, List.set_cons_zero, List.set_cons_succ])
          have R3 := R2.seta ⟨x1, A41, c41, q1⟩ hgv H4 (by dsimp only; omega)
          dsimp only at R3
          rw [hm31] at R3
          obtain ⟨wz, hW⟩ : ∃ W, P06.put10 v2 ga x1 (.slice A41 m31 c41) = W := ⟨_, rfl⟩
          rw [hW] at R3
          unfold P06.put10 at hW
          rw [hW]
          clear hW R2 H4 hgv
          obtain ⟨wz0, hwz⟩ : ∃ u, way k kk i = u := ⟨_, rfl⟩
          have hrem : ((k : Int) - 1 - (i : Int) + (kk : Int)) % (k : Int) = (wz0 : Int) := by
            rw [← hwz]
            unfold way
            rw [Int.natCast_emod]
            congr 1
            omega
          have hwz1 : wz0 < k := by rw [← hwz]; exact way_lt _ _ (by omega)
          have wr1 : IntKind.i64.wrap ((k : Int) - 1) = (k : Int) - 1 := by rw [IntKind.wrap_i64]; omega
          have wr2 : IntKind.i64.wrap ((k : Int) - 1 - (i : Int)) = (k : Int) - 1 - (i : Int) := by rw [IntKind.wrap_i64]; omega
          have wr3 : IntKind.i64.wrap ((k : Int) - 1 - (i : Int) + (kk : Int)) = (k : Int) - 1 - (i : Int) + (kk : Int) := by rw [IntKind.wrap_i64]; omega
          have hremt : ((k : Int) - 1 - (i : Int) + (kk : Int)).tmod (k : Int) = (wz0 : Int) := by rw [Int.tmod_eq_emod_of_nonneg (by omega)]; exact hrem
          obtain ⟨ad2, p2, hAd2, hp2, F2⟩ := (hL1.below R3.bel).get hwl
          have hA2 := (hL1.below R3.bel).ats _ (List.getElem_mem hwl)
          obtain ⟨⟨s2, A2, c2, l2⟩, hLk2⟩ : ∃ x, L[way k kk i] = x := ⟨_, rfl⟩
          rw [hLk2] at F2 hA2
          dsimp only at hA2
          injection hAd2 with hAd2
          subst hAd2
          have h2s : l2.length ≤ 40 := by have := H40.out _ (List.getElem_mem hwl); rw [hLk2] at this; exact this
          obtain ⟨m2, hm2⟩ : ∃ m, l2.length = m := ⟨_, rfl⟩
          have TE := TenW.of F2 hm2
          rw [hm2] at h2s
          obtain ⟨m9, hm9⟩ : ∃ m, l9.length = m := ⟨_, rfl⟩
          have h9s : m9 ≤ 40 := by have := R3.zb; dsimp only at this; omega
          have KA : Bk wz gb 39 (spc s9 (.slice A9 m9 c9)) := by have := R3.kb; unfold tenA at this; dsimp only at this; rw [hm9] at this; exact this
          obtain ⟨⟨x2, q2⟩, hxq2⟩ : ∃ u, pick (s9, l9) (s2, l2) = u := ⟨_, rfl⟩
          obtain ⟨m32, hm32⟩ : ∃ m, q2.length = m := ⟨_, rfl⟩
          have h3s2 : m32 ≤ 40 := pick_len hxq2 hm32 (by dsimp only; omega) (by dsimp only; omega)
          have hI2 : Hid (Least (pns L) (way k kk) (i + 1) (x2, q2)) := by
            have hlen : way k kk i < (pns L).length := by rw [pns_len]; exact hwl
            have e1 : (pns L)[way k kk i]'hlen = (s2, l2) := (pns_get L hwl).trans (by rw [hLk2])
            have e2 := Least.right I2.out hlen
            rw [e1] at e2
            change Least _ _ _ (pick (s9, l9) (s2, l2)) at e2
            rw [hxq2] at e2
            exact Lib.hid e2
          clear F2 hLk2
          rw [hwz] at hp2
          go_wp2_with fail
          have R' := R3.drew
          have TE' := TE.below (below_drew wz)
          have KA' := KA.below (below_drew wz)
          have hA' := hA2.below (below_drew wz)
          have TW := twenty_at KA' TE'
          clear R3 TE KA hA2
          refine wp_zed (S := fun w' => w'.cell? ⟨gb, 0, none⟩ = some (.int .u64 s9.T) ∧ w'.cell? ⟨gb, 1, none⟩ = some (.int .u64 s9.I) ∧ w'.cell? ⟨gb, 2, none⟩ = some (.int .u64 s9.P) ∧ w'.cell? ⟨gb, 3, none⟩ = some (.string s9.sv) ∧ w'.cell? ⟨gb, 4, none⟩ = some (.string s9.nm) ∧ w'.cell? ⟨gb, 5, none⟩ = some (.int .i64 s9.kd) ∧ w'.cell? ⟨gb, 6, none⟩ = some (.int .i64 s9.st) ∧ w'.cell? ⟨gb, 7, none⟩ = some (.int .u64 s9.t0) ∧ w'.cell? ⟨gb, 8, none⟩ = some (.int .u64 s9.t1) ∧ w'.cell? ⟨gb, 9, none⟩ = some (.slice A9 m9 c9) ∧ w'.cell? p2 = some (.int .u64 s2.T) ∧ w'.cell? ⟨p2.block, p2.off + 1, none⟩ = some (.int .u64 s2.I) ∧ w'.cell? ⟨p2.block, p2.off + 2, none⟩ = some (.int .u64 s2.P) ∧ w'.cell? ⟨p2.block, p2.off + 3, none⟩ = some (.string s2.sv) ∧ w'.cell? ⟨p2.block, p2.off + 4, none⟩ = some (.string s2.nm) ∧ w'.cell? ⟨p2.block, p2.off + 5, none⟩ = some (.int .i64 s2.kd) ∧ w'.cell? ⟨p2.block, p2.off + 6, none⟩ = some (.int .i64 s2.st) ∧ w'.cell? ⟨p2.block, p2.off + 7, none⟩ = some (.int .u64 s2.t0) ∧ w'.cell? ⟨p2.block, p2.off + 8, none⟩ = some (.int .u64 s2.t1) ∧ w'.cell? ⟨p2.block, p2.off + 9, none⟩ = some (.slice A2 m2 c2)) (z := 16) mixed ?_
          refine Zed.take (i := 0) (v := .slice (some ad) k c0) rfl (by kernel_rfl) rfl (by kernel_rfl) (by kernel_rfl) (by kernel_rfl) (fun _ _ _ h => h) ?_ TW ?_
          · refine .inl ⟨rfl, fun W hW => ?_⟩
            obtain ⟨q0, q1, q2, q3, q4, q5, q6, q7, q8, q9, q10, q11, q12, q13, q14, q15, q16, q17, q18, q19⟩ := hW
            go_simp
          (try simp only [Act.put, List.setIfInBounds_toArray, List.set_cons_zero, List.set_cons_succ])
          refine Zed.take (i := 1) (v := .slice (some ad) k c0) rfl (by kernel_rfl) rfl (by kernel_rfl) (by kernel_rfl) (by kernel_rfl) (fun _ _ _ h => h) ?_ TW ?_
          · refine .inl ⟨rfl, fun W hW => ?_⟩
            obtain ⟨q0, q1, q2, q3, q4, q5, q6, q7, q8, q9, q10, q11, q12, q13, q14, q15, q16, q17, q18, q19⟩ := hW
            go_simp
          (try simp only [Act.put, List.setIfInBounds_toArray, List.set_cons_zero, List.set_cons_succ])
          refine Zed.take (i := 2) (v := .int .i64 (k : Int)) rfl (by kernel_rfl) rfl (by kernel_rfl) (by kernel_rfl) (by kernel_rfl) (fun _ _ _ h => h) ?_ TW ?_
          · refine .inl ⟨rfl, fun W hW => ?_⟩
            obtain ⟨q0, q1, q2, q3, q4, q5, q6, q7, q8, q9, q10, q11, q12, q13, q14, q15, q16, q17, q18, q19⟩ := hW
            go_simp
          (try simp only [Act.put, List.setIfInBounds_toArray, List.set_cons_zero, List.set_cons_succ])
          refine Zed.take (i := 3) (v := .int .i64 ((k : Int) - 1)) rfl (by kernel_rfl) rfl (by kernel_rfl) (by kernel_rfl) (by kernel_rfl) (fun _ _ _ h => h) ?_ TW ?_
          · refine .inl ⟨rfl, fun W hW => ?_⟩
            obtain ⟨q0, q1, q2, q3, q4, q5, q6, q7, q8, q9, q10, q11, q12, q13, q14, q15, q16, q17, q18, q19⟩ := hW
            go_simp
          (try simp only [Act.put, List.setIfInBounds_toArray, List.set_cons_zero, List.set_cons_succ])
          refine Zed.take (i := 4) (v := .int .i64 (i : Int)) rfl (by kernel_rfl) rfl (by kernel_rfl) (by kernel_rfl) (by kernel_rfl) (fun _ _ _ h => h) ?_ TW ?_
          · refine .inl ⟨rfl, fun W hW => ?_⟩
            obtain ⟨q0, q1, q2, q3, q4, q5, q6, q7, q8, q9, q10, q11, q12, q13, q14, q15, q16, q17, q18, q19⟩ := hW
            go_simp
          (try simp only [Act.put, List.setIfInBounds_toArray, List.set_cons_zero, List.set_cons_succ])
          refine Zed.take (i := 5) (v := .int .i64 ((k : Int) - 1 - (i : Int))) rfl (by kernel_rfl) rfl (by kernel_rfl) (by kernel_rfl) (by kernel_rfl) (fun _ _ _ h => h) ?_ TW ?_
          · refine .inl ⟨rfl, fun W hW => ?_⟩
            obtain ⟨q0, q1, q2, q3, q4, q5, q6, q7, q8, q9, q10, q11, q12, q13, q14, q15, q16, q17, q18, q19⟩ := hW
            go_simp
          (try simp only [Act.put, List.setIfInBounds_toArray, List.set_cons_zero, List.set_cons_succ])
          refine Zed.take (i := 6) (v := .int .i64 (kk : Int)) rfl (by kernel_rfl) rfl (by kernel_rfl) (by kernel_rfl) (by kernel_rfl) (fun _ _ _ h => h) ?_ TW ?_
          · refine .inl ⟨rfl, fun W hW => ?_⟩
            obtain ⟨q0, q1, q2, q3, q4, q5, q6, q7, q8, q9, q10, q11, q12, q13, q14, q15, q16, q17, q18, q19⟩ := hW
            go_simp
          (try simp only [Act.put, List.setIfInBounds_toArray, List.set_cons_zero, List.set_cons_succ])
          refine Zed.take (i := 7) (v := .int .i64 ((k : Int) - 1 - (i : Int) + (kk : Int))) rfl (by kernel_rfl) rfl (by kernel_rfl) (by kernel_rfl) (by kernel_rfl) (fun _ _ _ h => h) ?_ TW ?_
          · refine .inl ⟨rfl, fun W hW => ?_⟩
            obtain ⟨q0, q1, q2, q3, q4, q5, q6, q7, q8, q9, q10, q11, q12, q13, q14, q15, q16, q17, q18, q19⟩ := hW
            go_simp
          (try simp only [Act.put, List.setIfInBounds_toArray, List.set_cons_zero, List.set_cons_succ])
          refine Zed.take (i := 8) (v := .slice (some ad) k c0) rfl (by kernel_rfl) rfl (by kernel_rfl) (by kernel_rfl) (by kernel_rfl) (fun _ _ _ h => h) ?_ TW ?_
          · refine .inl ⟨rfl, fun W hW => ?_⟩
            obtain ⟨q0, q1, q2, q3, q4, q5, q6, q7, q8, q9, q10, q11, q12, q13, q14, q15, q16, q17, q18, q19⟩ := hW
            go_simp
          (try simp only [Act.put, List.setIfInBounds_toArray, List.set_cons_zero, List.set_cons_succ])
          refine Zed.take (i := 9) (v := .int .i64 (k : Int)) rfl (by kernel_rfl) rfl (by kernel_rfl) (by kernel_rfl) (by kernel_rfl) (fun _ _ _ h => h) ?_ TW ?_
          · refine .inl ⟨rfl, fun W hW => ?_⟩
            obtain ⟨q0, q1, q2, q3, q4, q5, q6, q7, q8, q9, q10, q11, q12, q13, q14, q15, q16, q17, q18, q19⟩ := hW
            go_simp
          (try simp only [Act.put, List.setIfInBounds_toArray, List.set_cons_zero, List.set_cons_succ])
          refine Zed.take (i := 10) (v := .int .i64 (wz0 : Int)) rfl (by kernel_rfl) rfl (by kernel_rfl) (by kernel_rfl) (by kernel_rfl) (fun _ _ _ h => h) ?_ TW ?_
          · refine .inl ⟨rfl, fun W hW => ?_⟩
            obtain ⟨q0, q1, q2, q3, q4, q5, q6, q7, q8, q9, q10, q11, q12, q13, q14, q15, q16, q17, q18, q19⟩ := hW
            go_simp
          (try simp only [Act.put, List.setIfInBounds_toArray, List.set_cons_zero, List.set_cons_succ])
          refine Zed.take (i := 11) (v := .pointer (some p2)) rfl (by kernel_rfl) rfl (by kernel_rfl) (by kernel_rfl) (by kernel_rfl) (fun _ _ _ h => h) ?_ TW ?_
          · refine .inl ⟨rfl, fun W hW => ?_⟩
            obtain ⟨q0, q1, q2, q3, q4, q5, q6, q7, q8, q9, q10, q11, q12, q13, q14, q15, q16, q17, q18, q19⟩ := hW
            go_simp
          (try simp only [Act.put, List.setIfInBounds_toArray, List.set_cons_zero, List.set_cons_succ])
          refine Zed.take (i := 12) (v := spv s2 (.slice A2 m2 c2)) rfl (by kernel_rfl) rfl (by kernel_rfl) (by kernel_rfl) (by kernel_rfl) (fun _ _ _ h => h) ?_ TW ?_
          · refine .inl ⟨rfl, fun W hW => ?_⟩
            obtain ⟨q0, q1, q2, q3, q4, q5, q6, q7, q8, q9, q10, q11, q12, q13, q14, q15, q16, q17, q18, q19⟩ := hW
            go_simp
          (try simp only [Act.put, List.setIfInBounds_toArray, List.set_cons_zero, List.set_cons_succ])
          refine Zed.take (i := 14) (v := spv s9 (.slice A9 m9 c9)) rfl (by kernel_rfl) rfl (by kernel_rfl) (by kernel_rfl) (by kernel_rfl) (fun _ _ _ h => h) ?_ TW ?_
          · refine .inl ⟨rfl, fun W hW => ?_⟩
            obtain ⟨q0, q1, q2, q3, q4, q5, q6, q7, q8, q9, q10, q11, q12, q13, q14, q15, q16, q17, q18, q19⟩ := hW
            go_simp
          (try simp only [Act.put, List.setIfInBounds_toArray, List.set_cons_zero, List.set_cons_succ])
          refine Zed.step (i := 13) (by kernel_rfl) rfl rfl (fun K hK => ?_)
          go_simp
          refine (of_at s2 A2 c2 m2 l2 _ hA' hm2 h2s).mono ?_
          rintro e v1 ⟨A32, c32, rfl, H3, B3⟩
          have R1 := R'.below B3
          have KA1 := KA'.below B3
          have TE1 := TE'.below B3
          refine hK _ _ ⟨.inr (twenty_at KA1 TE1), ?_⟩
          clear hK K TW R' KA' TE' hA' B3
          (try simp only [Act.put, List.setIfInBounds_toArray, List.set_cons_zero, List.set_cons_succ])
          refine Zed.step (i := 15) (by kernel_rfl) rfl rfl (fun K hK => ?_)
          go_simp
          have hgv := R1.kb.lt
          refine (prefer_at s2 s9 A32 A9 c32 c9 l2 l9 m2 m9 v1 (H3.low (Nat.zero_le _)) (R1.hb.low (Nat.zero_le _)) hm2 hm9 h2s h9s hxq2 hm32).mono ?_
          rintro e v2 ⟨A42, c42, rfl, H4, B4⟩
          have R2 := R1.below B4
          have KA2 := KA1.below B4
          have TE2 := TE1.below B4
          refine hK _ _ ⟨.inr (twenty_at KA2 TE2), ?_⟩
          clear hK K R1 KA1 TE1 H3 B4
          (try simp only [Act.put, List.setIfInBounds_toArray, List.set_cons_zero, List.set_cons_succ])
          have y0 : v2.cell? ⟨gb, 0, none⟩ = some (.int .u64 s9.T) := KA2.cell 0
          have y1 : v2.cell? ⟨gb, 1, none⟩ = some (.int .u64 s9.I) := KA2.cell 1
          have y2 : v2.cell? ⟨gb, 2, none⟩ = some (.int .u64 s9.P) := KA2.cell 2
          have y3 : v2.cell? ⟨gb, 3, none⟩ = some (.string s9.sv) := KA2.cell 3
          have y4 : v2.cell? ⟨gb, 4, none⟩ = some (.string s9.nm) := KA2.cell 4
          have y5 : v2.cell? ⟨gb, 5, none⟩ = some (.int .i64 s9.kd) := KA2.cell 5
          have y6 : v2.cell? ⟨gb, 6, none⟩ = some (.int .i64 s9.st) := KA2.cell 6
          have y7 : v2.cell? ⟨gb, 7, none⟩ = some (.int .u64 s9.t0) := KA2.cell 7
          have y8 : v2.cell? ⟨gb, 8, none⟩ = some (.int .u64 s9.t1) := KA2.cell 8
          have y9 : v2.cell? ⟨gb, 9, none⟩ = some (.slice A9 m9 c9) := KA2.cell 9
          have f0 : v2.frozen? ⟨gb, 0, none⟩ = false := KA2.frozen 0
          have f1 : v2.frozen? ⟨gb, 1, none⟩ = false := KA2.frozen 1
          have f2 : v2.frozen? ⟨gb, 2, none⟩ = false := KA2.frozen 2
          have f3 : v2.frozen? ⟨gb, 3, none⟩ = false := KA2.frozen 3
          have f4 : v2.frozen? ⟨gb, 4, none⟩ = false := KA2.frozen 4
          have f5 : v2.frozen? ⟨gb, 5, none⟩ = false := KA2.frozen 5
          have f6 : v2.frozen? ⟨gb, 6, none⟩ = false := KA2.frozen 6
          have f7 : v2.frozen? ⟨gb, 7, none⟩ = false := KA2.frozen 7
          have f8 : v2.frozen? ⟨gb, 8, none⟩ = false := KA2.frozen 8
          have f9 : v2.frozen? ⟨gb, 9, none⟩ = false := KA2.frozen 9
          refine Zed.step (i := 16) (by kernel_rfl) rfl rfl (fun K hK => ?_)
          go_simp
          refine hK _ _ ⟨.inl rfl, Zed.done (by kernel_rfl) ?_ _⟩
          clear hK K y0 y1 y2 y3 y4 y5 y6 y7 y8 y9 f0 f1 f2 f3 f4 f5 f6 f7 f8 f9 KA2 TE2
          (try simp only [Act.put, List.setIfInBounds_toArray, List.set_cons_zero, List.set_cons_succ])
          have R4 := R2.setb ⟨x2, A42, c42, q2⟩ hgv H4 (by dsimp only; omega)
          dsimp only at R4
          rw [hm32] at R4
          obtain ⟨wx, hW⟩ : ∃ W, P06.put10 v2 gb x2 (.slice A42 m32 c42) = W := ⟨_, rfl⟩
          rw [hW] at R4
          unfold P06.put10 at hW
          rw [hW]
          clear hW R2 H4 hgv
          go_wp2
          go_roundw
          case rel => exact ⟨i + 1, _, _, by go_num, by omega, R4, hI1, hI2⟩
          case measure => first | go_num | (simp [intOf]; omega)
        · have hik : k = i := by omega
          subst hik
          clear hlt
          have hPk : (pns L).length = k := by rw [pns_len]; exact HN.out
          have a1 : ∀ z ∈ pns L, cp (s8, l8) z ≤ 0 := Least.all (f := id) (by rw [hPk]; exact I1.out) (fun k hk => ⟨k, hk, rfl⟩)
          have a2 : ∀ z ∈ pns L, cp (s9, l9) z ≤ 0 := Least.all (f := way k kk) (by rw [hPk]; exact I2.out) (fun z hz => by rw [hPk] at *; exact way_all hkk1 z hz)
          have hsm : cmpS s8 s9 l8 l9 = 0 := same_least a1 a2 I1.out.mem I2.out.mem
          have hmem : (s8, l8) ∈ pns L := I1.out.mem
          obtain ⟨m8, hm8⟩ : ∃ m, l8.length = m := ⟨_, rfl⟩
          have h8s : m8 ≤ 40 := by have := R.za; dsimp only at this; omega
          obtain ⟨m9, hm9⟩ : ∃ m, l9.length = m := ⟨_, rfl⟩
          have h9s : m9 ≤ 40 := by have := R.zb; dsimp only at this; omega
          have HA := Lib.hid a1
          have HP := Lib.hid hPk
          have HM := Lib.hid hmem
          have hTa := fun W (h : Hd 0 W A8 c8 l8) => to_at s8 A8 c8 m8 l8 W h.ats hm8 h8s
          have hTb := fun W (h : Hd 0 W A9 c9 l9) => to_at s9 A9 c9 m9 l9 W h.ats hm9 h9s
          have hSm := fun A c A' c' W (h : Hd 0 W A c l8) (h' : Hd 0 W A' c' l9) => same_any s8 s9 A A' c c' l8 l9 m8 m9 true W h.ats h'.ats hm8 hm9 h8s h9s (by rw [hsm]; rfl)
          have H8 := Lib.hid hm8
          clear a1 a2 hsm hmem hPk I1 I2
          go_wp2_with fail
          have R' := R.drew
          have KA : Bk wr.drew ga 39 (spc s8 (.slice A8 m8 c8)) := by have := R'.ka; unfold tenA at this; dsimp only at this; rw [hm8] at this; exact this
          have KB : Bk wr.drew gb 39 (spc s9 (.slice A9 m9 c9)) := by have := R'.kb; unfold tenA at this; dsimp only at this; rw [hm9] at this; exact this
          have ha8 : Hd 0 wr.drew A8 c8 l8 := R'.ha.low (Nat.zero_le _)
          have ha9 : Hd 0 wr.drew A9 c9 l9 := R'.hb.low (Nat.zero_le _)
          clear R hm8 hm9
          go_region_held3 (fun w' => w'.cell? ⟨ga, 0, none⟩ = some (.int .u64 s8.T) ∧ w'.cell? ⟨ga, 1, none⟩ = some (.int .u64 s8.I) ∧ w'.cell? ⟨ga, 2, none⟩ = some (.int .u64 s8.P) ∧ w'.cell? ⟨ga, 3, none⟩ = some (.string s8.sv) ∧ w'.cell? ⟨ga, 4, none⟩ = some (.string s8.nm) ∧ w'.cell? ⟨ga, 5, none⟩ = some (.int .i64 s8.kd) ∧ w'.cell? ⟨ga, 6, none⟩ = some (.int .i64 s8.st) ∧ w'.cell? ⟨ga, 7, none⟩ = some (.int .u64 s8.t0) ∧ w'.cell? ⟨ga, 8, none⟩ = some (.int .u64 s8.t1) ∧ w'.cell? ⟨ga, 9, none⟩ = some (.slice A8 m8 c8) ∧ w'.cell? ⟨gb, 0, none⟩ = some (.int .u64 s9.T) ∧ w'.cell? ⟨gb, 1, none⟩ = some (.int .u64 s9.I) ∧ w'.cell? ⟨gb, 2, none⟩ = some (.int .u64 s9.P) ∧ w'.cell? ⟨gb, 3, none⟩ = some (.string s9.sv) ∧ w'.cell? ⟨gb, 4, none⟩ = some (.string s9.nm) ∧ w'.cell? ⟨gb, 5, none⟩ = some (.int .i64 s9.kd) ∧ w'.cell? ⟨gb, 6, none⟩ = some (.int .i64 s9.st) ∧ w'.cell? ⟨gb, 7, none⟩ = some (.int .u64 s9.t0) ∧ w'.cell? ⟨gb, 8, none⟩ = some (.int .u64 s9.t1) ∧ w'.cell? ⟨gb, 9, none⟩ = some (.slice A9 m9 c9))
            (first | exact twenty_bk KA3 KB3 | exact twenty_bk KA2 KB2 | exact twenty_bk KA1 KB1 | exact twenty_bk KA KB | go_keep)
            (first
              | (go_at_call 19; (with_reducible refine (hTa _ ha8).mono ?_); rintro e v1 ⟨A11, c11, rfl, H11, B1⟩; have R1 := R'.below B1; have KA1 := KA.below B1; have KB1 := KB.below B1; have ha9' := ha9.below B1)
              | (go_at_call 19; (with_reducible refine (hTb _ ha9').mono ?_); rintro e v2 ⟨A12, c12, rfl, H12, B2⟩; have R2 := R1.below B2; have KA2 := KA1.below B2; have KB2 := KB1.below B2; have H11' := H11.below B2)
              | (go_at_call 18; (with_reducible refine (hSm A11 c11 A12 c12 v2 (H11'.low (Nat.zero_le _)) (H12.low (Nat.zero_le _))).mono ?_); rintro e v3 ⟨rfl, B3⟩; have R3 := R2.below B3; have KA3 := KA2.below B3; have KB3 := KB2.below B3))
          rename_i hHeld
          clear hHeld
          clear KA KB KA1 KB1 KA2 KB2 KA3 KB3 R' R1 R2 ha8 ha9 ha9' H11 H11' H12 B1 B2 B3 hTb hSm
          go_wp2
          have hS0 : Hid (Seen (pns L) (s8, l8) 0 false) := Lib.hid Seen.start
          go_loopw [10, 11] (fun f v wr => ∃ (j : Nat) (u : Bool), f = .bool u ∧ v = .int .i64 (j : Int) ∧ j ≤ k ∧ PrR w1 ga gb ⟨s8, A8, c8, l8⟩ ⟨s9, A9, c9, l9⟩ wr ∧ Hid (Seen (pns L) (s8, l8) j u)) (fun _ v _ => k - (intOf v).toNat)
          case atStart => exact ⟨0, false, rfl, rfl, by omega, R3, hS0⟩
          case round =>
            clear R3 hS0
            obtain ⟨j, u, rfl, rfl, hj, R, hSn⟩ := hrel
            by_cases hlt : j < k
            · have hltz : (j : Int) < (k : Int) := by omega
              have hjl : j < L.length := by rw [HN.out]; exact hlt
              obtain ⟨ad4, p4, hAd4, hp4, F4⟩ := (hL1.below R.bel).get hjl
              have hA4 := (hL1.below R.bel).ats _ (List.getElem_mem hjl)
              obtain ⟨⟨s4, A4, c4, l4⟩, hLk4⟩ : ∃ x, L[j] = x := ⟨_, rfl⟩
              rw [hLk4] at F4 hA4
              dsimp only at hA4
              injection hAd4 with hAd4
              subst hAd4
              have h4s : l4.length ≤ 40 := by have := H40.out _ (List.getElem_mem hjl); rw [hLk4] at this; exact this
              obtain ⟨m4, hm4⟩ : ∃ m, l4.length = m := ⟨_, rfl⟩
              have TE := TenW.of F4 hm4
              rw [hm4] at h4s
              obtain ⟨cv, hcv⟩ : ∃ cv, cmpS s4 s8 l4 l8 = cv := ⟨_, rfl⟩
              have hlen : j < (pns L).length := by rw [HP.out]; exact hlt
              have e1 : (pns L)[j]'hlen = (s4, l4) := (pns_get L hjl).trans (by rw [hLk4])
              have hc0 : 0 ≤ cv := by
                have h1 := HA.out (s4, l4) (by rw [← e1]; exact List.getElem_mem hlen)
                have h2 := cp_neg (s8, l8) (s4, l4)
                have h3 : cp (s4, l4) (s8, l8) = cv := hcv
                omega
              have hno : Hid (cv ≠ 0 → Seen (pns L) (s8, l8) (j + 1) u) := Lib.hid fun h => hSn.out.no hlen (by rw [e1]; exact fun e => h (hcv.symm.trans e))
              have KA : Bk wr ga 39 (spc s8 (.slice A8 m8 c8)) := by have := R.ka; unfold tenA at this; dsimp only at this; rw [H8.out] at this; exact this
              have hRC := fun A c W (h4 : Ats W A4 c4 l4) (h : Hd 0 W A c l8) => refcmp_any s4 s8 A4 A c4 c l4 l8 m4 m8 W h4 h.ats hm4 H8.out h4s h8s
              rw [hcv] at hRC
              clear F4 hLk4 hcv e1 hlen hm4
              go_wp2_with fail
              have R' := R.drew
              have TE' := TE.below (below_drew wr)
              have KA' := KA.below (below_drew wr)
              have hA' := hA4.below (below_drew wr)
              have ha8 : Hd 0 wr.drew A8 c8 l8 := R'.ha.low (Nat.zero_le _)
              clear R TE KA hA4
              go_region_held3 (fun w' => w'.cell? ⟨ga, 0, none⟩ = some (.int .u64 s8.T) ∧ w'.cell? ⟨ga, 1, none⟩ = some (.int .u64 s8.I) ∧ w'.cell? ⟨ga, 2, none⟩ = some (.int .u64 s8.P) ∧ w'.cell? ⟨ga, 3, none⟩ = some (.string s8.sv) ∧ w'.cell? ⟨ga, 4, none⟩ = some (.string s8.nm) ∧ w'.cell? ⟨ga, 5, none⟩ = some (.int .i64 s8.kd) ∧ w'.cell? ⟨ga, 6, none⟩ = some (.int .i64 s8.st) ∧ w'.cell? ⟨ga, 7, none⟩ = some (.int .u64 s8.t0) ∧ w'.cell? ⟨ga, 8, none⟩ = some (.int .u64 s8.t1) ∧ w'.cell? ⟨ga, 9, none⟩ = some (.slice A8 m8 c8) ∧ w'.cell? p4 = some (.int .u64 s4.T) ∧ w'.cell? ⟨p4.block, p4.off + 1, none⟩ = some (.int .u64 s4.I) ∧ w'.cell? ⟨p4.block, p4.off + 2, none⟩ = some (.int .u64 s4.P) ∧ w'.cell? ⟨p4.block, p4.off + 3, none⟩ = some (.string s4.sv) ∧ w'.cell? ⟨p4.block, p4.off + 4, none⟩ = some (.string s4.nm) ∧ w'.cell? ⟨p4.block, p4.off + 5, none⟩ = some (.int .i64 s4.kd) ∧ w'.cell? ⟨p4.block, p4.off + 6, none⟩ = some (.int .i64 s4.st) ∧ w'.cell? ⟨p4.block, p4.off + 7, none⟩ = some (.int .u64 s4.t0) ∧ w'.cell? ⟨p4.block, p4.off + 8, none⟩ = some (.int .u64 s4.t1) ∧ w'.cell? ⟨p4.block, p4.off + 9, none⟩ = some (.slice A4 m4 c4))
                (first | exact twenty_at KA2 TE2 | exact twenty_at KA1 TE1 | exact twenty_at KA' TE' | go_keep)
                (first
                  | (go_at_call 19; (with_reducible refine (hTa _ ha8).mono ?_); rintro e v1 ⟨A11, c11, rfl, H11, B1⟩; have R1 := R'.below B1; have KA1 := KA'.below B1; have TE1 := TE'.below B1; have hA1 := hA'.below B1)
                  | (go_at_call 20; (with_reducible refine (hRC A11 c11 v1 hA1 (H11.low (Nat.zero_le _))).mono ?_); rintro e v2 ⟨rfl, B2⟩; have R2 := R1.below B2; have KA2 := KA1.below B2; have TE2 := TE1.below B2))
              rename_i hHeld
              clear hHeld
              clear KA' TE' KA1 TE1 KA2 TE2 R' R1 hA' hA1 ha8 H11 B1 B2 hRC
              have hcl : ¬ cv < 0 := by omega
              by_cases hc : cv = 0
              · have hcb : (cv == 0) = true := by simp [hc]
                have hY : Hid (Seen (pns L) (s8, l8) (j + 1) true) := Lib.hid Seen.yes
                clear hc hno
                cases u with
                | true =>
                  go_wp2
                  go_roundw
                  case rel => exact ⟨j + 1, true, by rfl, by go_num, by omega, R2, hY⟩
                  case measure => first | go_num | (simp [intOf]; omega)
                | false =>
                  go_wp2
                  go_roundw
                  case rel => exact ⟨j + 1, true, by rfl, by go_num, by omega, R2, hY⟩
                  case measure => first | go_num | (simp [intOf]; omega)
              · have hcb : (cv == 0) = false := by simp [hc]
                have hY := Lib.hid (hno.out hc)
                clear hc hno
                cases u with
                | true =>
                  go_wp2
                  go_roundw
                  case rel => exact ⟨j + 1, true, by rfl, by go_num, by omega, R2, hY⟩
                  case measure => first | go_num | (simp [intOf]; omega)
                | false =>
                  go_wp2
                  go_roundw
                  case rel => exact ⟨j + 1, false, by rfl, by go_num, by omega, R2, hY⟩
                  case measure => first | go_num | (simp [intOf]; omega)
            · have hltz : ¬ ((j : Int) < (k : Int)) := by omega
              have hu : u = true := by
                have e : j = (pns L).length := by rw [HP.out]; omega
                have := hSn.out
                rw [e] at this
                exact this.fin HM.out
              subst hu
              have bel := HB.out.trans (R.bel.mono HB.out.size)
              clear R
              go_wp2
              go_ret
              exact ⟨rfl, bel⟩
end Go.Proofs.Ytjbnoioildbahaa.D09
