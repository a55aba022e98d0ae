/-
  The law's comparing of two lists of numbers.
  The law's comparing of a shard with the document's.
  A shard of the law's own beside the document's: what both keep, one line a call.
-/
import Derived.Test.YtdmibolbpgondaaGreatKX15Map
import Derived.BigQuiet
import Derived.Test.YtdmibolbpgondaaGreatKX15Own
import Derived.Test.YtdmibolbpgondaaGreatKX15RefF
import Derived.Test.YtdmibolbpgondaaGreatKX15RefA
section
set_option linter.unusedSimpArgs false
set_option linter.unusedVariables false
namespace Go.Proofs.YtdmibolbpgondaaGreat.X15
open Go.RowKit Go.Lib Go.Maps Go.Proofs.YtdmibolbpgondaaGreat.Wd
set_option maxRecDepth 20000 in
set_option maxHeartbeats 4000000 in
theorem ints_at (A B : Option Addr) (c d n k2 : Nat) (l m : List Nat) (r : Bool) (w : World) (h : Us w A c l) (h2 : Us w B d m) (hn : l.length = n) (hn2 : m.length = k2) (hm : n ≤ 1000000) (hm2 : k2 ≤ 1000000) (hr : r = true ↔ l = m) :
    Calls Tryz.prog 18 #[.slice A n c, .slice B k2 d] w fun e w' => e = .returned (.bool r) ∧ Below w.heap.size w w' := by
  by_cases hne : n = k2
  · subst hne
    have HR := Lib.hid hr
    have HN := Lib.hid hn
    have HN2 := Lib.hid hn2
    clear hr hn hn2
    go_enter Tryz.func18, Tryz.ntmps18
    go_wp2
    go_loopw [5] (fun v wr => ∃ k : Nat, v = .int .i64 (k : Int) ∧ k ≤ n ∧ Hid (l.take k = m.take k) ∧ Below w.heap.size w wr) (fun v _ => n - (intOf v).toNat)
    case atStart => exact ⟨0, rfl, Nat.zero_le _, Lib.hid rfl, Below.refl _ _⟩
    case round =>
      obtain ⟨k, rfl, hk, HE, hb⟩ := hrel
      by_cases hlt : k < n
      · have hltz : (k : Int) < (n : Int) := by omega
        have hkl : k < l.length := by rw [HN.out]; exact hlt
        have hkm : k < m.length := by rw [HN2.out]; exact hlt
        obtain ⟨ad, rfl, hc, -⟩ := (h.below hb).get hkl
        obtain ⟨be, rfl, hc2, -⟩ := (h2.below hb).get hkm
        have y2 : (0 : Int) ≤ (k : Int) := by omega
        have y3 : ((k : Int)).toNat = k := by omega
        have HX := Lib.hid (And.intro (List.take_succ_eq_append_getElem hkl) (List.take_succ_eq_append_getElem hkm))
        have HG := Lib.hid (show l = m → l[k] = m[k] from fun e => by subst e; rfl)
        obtain ⟨a, ha⟩ : ∃ a, l[k] = a := ⟨_, rfl⟩
        obtain ⟨b, hbb⟩ : ∃ b, m[k] = b := ⟨_, rfl⟩
        rw [ha] at hc
        rw [hbb] at hc2
        rw [ha, hbb] at HX
        rw [ha, hbb] at HG
        have HB := Lib.hid hb
        clear ha hbb hb hkl hkm
        by_cases hab : a = b
        · subst hab
          have hz : ((a : Int) == (a : Int)) = true := by simp
          go_wp2_with fail
          go_quiet (fail)
          have hb2 := HB.out.trans ((below_dn (Below.refl wr.heap.size wr) nq).mono HB.out.size)
          clear hc hc2 hz hltz
          generalize wr.drewN nq = w9 at hb2 ⊢
          go_wp2
          go_roundw
          case rel => exact ⟨k + 1, by go_num, by omega, Lib.hid (by rw [HX.out.1, HX.out.2, HE.out]), hb2⟩
          case measure => first | go_num | (simp [intOf]; omega)
        · have hz : ¬ (a : Int) = (b : Int) := by omega
          have hz2 : ((a : Int) == (b : Int)) = false := by simpa using hz
          have hrf : r = false := by
            cases r with
            | false => rfl
            | true => exact absurd (HG.out (HR.out.1 rfl)) hab
          subst hrf
          go_wp2_with fail
          go_quiet (fail)
          have hb2 := HB.out.trans ((below_dn (Below.refl wr.heap.size wr) nq).mono HB.out.size)
          clear hc hc2 hz hltz hz2
          generalize wr.drewN nq = w9 at hb2 ⊢
          go_wp2
          go_ret
          exact ⟨rfl, hb2⟩
      · obtain rfl : k = n := by omega
        have hltz : ¬ (k : Int) < (k : Int) := by omega
        have hrt : r = true := HR.out.2 (by
          have := HE.out
          rw [List.take_of_length_le (by rw [HN.out]; exact Nat.le_refl _), List.take_of_length_le (by rw [HN2.out]; exact Nat.le_refl _)] at this
          exact this)
        subst hrt
        go_wp2
        go_ret
        exact ⟨rfl, hb⟩
  · have hz : ¬ (n : Int) = (k2 : Int) := by omega
    have hz2 : ((n : Int) == (k2 : Int)) = false := by simpa using hz
    have hrf : r = false := by
      cases r with
      | false => rfl
      | true => exact absurd (by rw [← hn, ← hn2, hr.1 rfl]) hne
    subst hrf
    go_enter Tryz.func18, Tryz.ntmps18
    go_wp2
    go_ret
    exact ⟨rfl, Below.refl _ _⟩
end Go.Proofs.YtdmibolbpgondaaGreat.X15
end

section
set_option linter.unusedSimpArgs false
set_option linter.unusedVariables false
namespace Go.Proofs.YtdmibolbpgondaaGreat.X15
open Go.RowKit Go.Lib Go.Maps Go.Proofs.YtdmibolbpgondaaGreat.Wd Go.Proofs.YtdmibolbpgondaaGreat.P06
open Go.Proofs.YtdmibolbpgondaaGreat.B07 (Pn OkN OkA OkP Spn Sps pns tenA ten Ten)
set_option maxRecDepth 20000 in
set_option maxHeartbeats 8000000 in
theorem lsame_at {w : World} {col : Nat → Nat} {sp : Nat} {p : Pr} {L : List Pn} (hd : Sd w col sp p L) (G S B : Nat) (A : Option Addr) (n c : Nat) (M : List Spn) (h : Sps w A c M) (hn : M.length = n) (hL : pns M = L) (hfew : L.length < 50) (hpG : p.G = G) (hG : G ≤ MT) :
    Calls Tryz.prog 21 #[.pointer (some ⟨sp, 0, none⟩), sag G S B A n c] w fun e w' => e = .returned (.bool true) ∧ Below w.heap.size w w' := by
  have hso := hd.rm.sm.so
  have hok := hd.rm.sm.ok
  have bx : Bk (w.alloc (.cells (sac G S B A n c) 31)) w.heap.size 31 (sac G S B A n c) := Bk.new w _ _
  have b0 : Below w.heap.size w (w.alloc (.cells (sac G S B A n c) 31)) := (Below.refl _ _).alloc (Nat.le_refl _) _
  obtain ⟨X, hX⟩ : ∃ X, w.alloc (.cells (sac G S B A n c) 31) = X := ⟨_, rfl⟩
  obtain ⟨g, hg⟩ : ∃ g, w.heap.size = g := ⟨_, rfl⟩
  rw [hX] at bx b0
  rw [hg] at bx
  have hln : L.length = n := by rw [← hL, ← hn]; simp [pns]
  have HD := Lib.hid (hd.below b0)
  have HS := Lib.hid (h.below b0)
  have HF := Lib.hid (And.intro hn (And.intro hL (And.intro hso (And.intro hok (And.intro hln hpG)))))
  have HX := Lib.hid hX
  have HG := Lib.hid hg
  have HB0 := Lib.hid b0
  have BX := Lib.hid bx
  have hn50 : n < 50 := by omega
  have hheld := HD.out.held
  rw [hln] at hheld
  obtain ⟨hh, hhd⟩ : ∃ hh, held L = hh := ⟨_, rfl⟩
  rw [hhd] at hheld
  have HH := Lib.hid hhd
  have hhm : hh ≤ 15000000 := by
    have h1 := held_le fun y hy => (hok y hy).r
    rw [hhd, hln] at h1
    have h2 : n * 300000 ≤ 50 * 300000 := Nat.mul_le_mul_right _ (by omega)
    omega
  clear hd h hn hL hso hok hln hpG hX hg b0 bx hhd hfew
  go_enter Tryz.func21, Tryz.ntmps21
  go_wp2_with fail
  (try rw [HX.out])
  (try rw [HG.out])
  refine hheld.mono ?_
  rintro e w1 ⟨rfl, b1⟩
  have B1 := Lib.hid b1
  have K1 := BX.out.below b1
  have c0 := K1.cell 0
  have c1 := K1.cell 1
  have c2 := K1.cell 2
  have c3 := K1.cell 3
  simp only [sac, List.getElem?_toArray, List.getElem?_cons_zero, List.getElem?_cons_succ] at c0 c1 c2 c3
  have htr := rtraces_at G S B A n c M L w1 (HS.out.below b1) HF.out.1 HF.out.2.1 HF.out.2.2.1 HF.out.2.2.2.1 (by omega)
  clear hheld b1 K1
  go_wp2_with fail
  refine htr.mono ?_
  rintro e w2 ⟨V, e2, rfl, hv, bv⟩
  have B2 := Lib.hid (B1.out.trans (bv.mono B1.out.size))
  have HV := Lib.hid (show Us w2 V e2 (trs L) from ⟨Rd.own hv, fun t ht => by
    obtain ⟨x, hx, rfl⟩ := mem_trs.1 ht
    exact (HF.out.2.2.2.1 x hx).tn.2⟩)
  obtain ⟨q, hq⟩ : ∃ q, (trs L).length = q := ⟨_, rfl⟩
  have HQ := Lib.hid hq
  have hqn : q ≤ n := by have := trs_len L; rw [hq, HF.out.2.2.2.2.1] at this; exact this
  rw [hq]
  clear htr hv bv c0 c1 c2 c3 hq
  have K2 := BX.out.below B2.out
  have c0 := K2.cell 0
  have c1 := K2.cell 1
  have c2 := K2.cell 2
  have c3 := K2.cell 3
  simp only [sac, List.getElem?_toArray, List.getElem?_cons_zero, List.getElem?_cons_succ] at c0 c1 c2 c3
  have hrh := rheld_at G S B A n c M L w2 (HS.out.below B2.out) HF.out.1 HF.out.2.1 (fun y hy => (HF.out.2.2.2.1 y hy).r) (by omega)
  rw [HH.out] at hrh
  have hnn : ((n : Int) == (n : Int)) = true := by simp
  clear K2
  go_wp2_with fail
  refine hrh.mono ?_
  rintro e w3 ⟨rfl, b3⟩
  have B3 := Lib.hid (B2.out.trans (b3.mono B2.out.size))
  have HV3 := Lib.hid (HV.out.below b3)
  have hpt := (HD.out.below B3.out).traces (by rw [HF.out.2.2.2.2.1]; exact hn50)
  have hhz : ((hh : Int) == (hh : Int)) = true := by simp
  clear hrh b3 c0 c1 c2 c3
  go_wp2_with fail
  refine hpt.mono ?_
  rintro e w4 ⟨U1, d1, rfl, hu1, b4, -⟩
  have B4 := Lib.hid (B3.out.trans (b4.mono B3.out.size))
  have HV4 := Lib.hid (HV3.out.below b4)
  have hin := ints_at U1 V d1 e2 q q (trs L) (trs L) true w4 hu1 HV4.out HQ.out HQ.out (by omega) (by omega) (by simp)
  rw [HQ.out]
  clear hpt b4 hu1 HV HV3
  go_wp2_with fail
  refine hin.mono ?_
  rintro e w5 ⟨rfl, b5⟩
  have B5 := Lib.hid (B4.out.trans (b5.mono B4.out.size))
  have HV5 := Lib.hid (HV4.out.below b5)
  clear hin b5 HV4
  go_wp2_with fail
  go_loopw [8, 9, 10] (fun v _ _ wr => ∃ k : Nat, v = .int .i64 (k : Int) ∧ k ≤ q ∧ Below w5.heap.size w5 wr) (fun v _ _ _ => q - (intOf v).toNat)
  case atStart => exact ⟨0, rfl, Nat.zero_le _, Below.refl _ _⟩
  case round =>
    obtain ⟨k, rfl, hk, hb⟩ := hrel
    by_cases hkq : k < q
    · have hkz : (k : Int) < (q : Int) := by omega
      have hkl : k < (trs L).length := by rw [HQ.out]; exact hkq
      obtain ⟨ad, hV, hc, hbd⟩ := (HV5.out.below hb).get hkl
      have htin : (trs L)[k] ∈ trs L := List.getElem_mem hkl
      generalize (trs L)[k] = t at hc htin hbd
      subst hV
      have BW := Lib.hid (B5.out.trans (hb.mono B5.out.size))
      have hde := (HD.out.below BW.out).dead htin
      rw [HF.out.2.2.2.2.2] at hde
      obtain ⟨d, hdd⟩ : ∃ d, dl G L t = d := ⟨_, rfl⟩
      rw [hdd] at hde
      have HDD := Lib.hid hdd
      have HB := Lib.hid hb
      have y2 : (0 : Int) ≤ (k : Int) := by omega
      have y3 : ((k : Int)).toNat = k := by omega
      have hdm : d ≤ MT + MT := by have := dl_le HF.out.2.2.2.1 t; rw [← hdd]; unfold dl; omega
      clear hkl htin hdd hb
      go_wp2_with fail
      refine hde.mono ?_
      rintro e w6 ⟨rfl, b6⟩
      have B6 := Lib.hid (BW.out.trans (b6.mono BW.out.size))
      have HB6 := Lib.hid (HB.out.trans (b6.mono HB.out.size))
      have hc6 := (b6.cell (World.block_lt_of_cell? _ _ hc)).trans hc
      have K6 := BX.out.below B6.out
      have x0 := K6.cell 0
      have x1 := K6.cell 1
      have x2 := K6.cell 2
      have x3 := K6.cell 3
      simp only [sac, List.getElem?_toArray, List.getElem?_cons_zero, List.getElem?_cons_succ] at x0 x1 x2 x3
      have hrd : ∀ W, Below w6.heap.size w6 W → Calls Tryz.prog 45 #[sag G S B A n c, .int .u64 ((t : Nat) : Int)] W fun e w' => e = .returned (.int .u64 ((d : Nat) : Int)) ∧ Below W.heap.size W w' := fun W hW => by
        have := rdead_at G S B t A n c M L W (HS.out.below (B6.out.trans (hW.mono B6.out.size))) HF.out.1 HF.out.2.1 HF.out.2.2.2.1 (by omega) hG
        rw [← HDD.out]
        exact this
      clear hde hc b6 K6
      go_wp2_with fail
      have g0 := cell_regrown x0
      have g1 := cell_regrown x1
      have g2 := cell_regrown x2
      have g3 := cell_regrown x3
      have g4 := cell_regrown hc6
      have r1 : ∀ dd os, Calls Tryz.prog 45 #[sag G S B A n c, .int .u64 (t : Int)] (Sort.grow (redrawn w6 dd) os) fun e w'' => e = .returned (.int .u64 (d : Int)) ∧ ∃ p : Regrown, w'' = Sort.grow (redrawn w6 p.d) p.os := fun dd os => Calls.regrown_of (hrd _ (below_regrown w6 dd os))
      clear x0 x1 x2 x3 hc6 hrd
      refine wp_region_quiet_below (by kernel_rfl) (by kernel_rfl) ?_
      repeat (quiet_step (first | (with_reducible exact r1 _ _)))
      refine wpQuiet_nil ?_
      intro _ hw'
      obtain ⟨⟨dq, osq⟩, hw''⟩ := hw'
      subst hw''
      have E2 := HB6.out.trans ((below_regrown w6 dq osq).mono HB6.out.size)
      clear g0 g1 g2 g3 g4 r1
      generalize Sort.grow (redrawn w6 dq) osq = wz at E2 ⊢
      go_wp2
      go_roundw
      case rel => first | exact ⟨k + 1, by go_num, by omega, E2⟩ | ((repeat apply Exists.intro); exact And.intro ⟨k + 1, by go_num, by omega, E2⟩ rfl)
      case measure => first | go_num | (simp [intOf]; omega)
    · obtain rfl : k = q := by omega
      have hkz : ¬ (k : Int) < (k : Int) := by omega
      have FIN := Lib.hid (HB0.out.trans ((B5.out.trans (hb.mono B5.out.size)).mono HB0.out.size))
      clear hb
      go_wp2
      go_ret
      exact ⟨rfl, FIN.out⟩
end Go.Proofs.YtdmibolbpgondaaGreat.X15
end

section
set_option linter.unusedSimpArgs false
set_option linter.unusedVariables false
namespace Go.Proofs.YtdmibolbpgondaaGreat.X15
open Go.RowKit Go.Lib Go.Maps Go.Proofs.YtdmibolbpgondaaGreat.Wd Go.Proofs.YtdmibolbpgondaaGreat.P06
open Go.Proofs.YtdmibolbpgondaaGreat.B07 (Pn OkN OkA OkP Spn Sps pns tenA ten Ten)
open Go.Proofs.YtdmibolbpgondaaGreat.D09 (cp)
theorem ats_keep {w w' : World} {A : Option Addr} {c : Nat} {l : List At} (h : Ats w A c l) (hk : l = [] ∨ ∀ a, A = some a → w'.heap[a.block]? = w.heap[a.block]?) : Ats w' A c l := by
  rcases hk with rfl | hk
  · exact ⟨h.len, h.none_, h.cap, h.max, fun ad ha i u hu => by simp at hu⟩
  · exact rd_block h hk
theorem sps_keep {w w' : World} {A : Option Addr} {c : Nat} {M : List Spn} (h : Sps w A c M) (ha : M = [] ∨ ∀ a, A = some a → w'.heap[a.block]? = w.heap[a.block]?) (hy : ∀ y ∈ M, y.l = [] ∨ ∀ a, y.A = some a → w'.heap[a.block]? = w.heap[a.block]?) : Sps w' A c M := by
  refine ⟨?_, fun y hm => ats_keep (h.ats y hm) (hy y hm)⟩
  rcases ha with rfl | ha
  · exact ⟨h.rd.len, h.rd.none_, h.rd.cap, h.rd.max, fun ad ha i u hu => by simp at hu⟩
  · exact rd_block h.rd ha
theorem ats_lt {w : World} {A : Option Addr} {c : Nat} {l : List At} (h : Ats w A c l) : l = [] ∨ ∀ a, A = some a → a.block < w.heap.size := by
  by_cases hz : 0 < l.length
  · obtain ⟨ad, p, hA, hp, F⟩ := h.get hz
    have e0 : ad.add (0 * 4) = ad := by simp [Addr.add]
    rw [e0] at hp
    subst hp
    have hl := World.block_lt_of_cell? _ _ F.c0
    exact .inr fun a ha => by rw [hA] at ha; cases ha; exact hl
  · exact .inl (List.eq_nil_of_length_eq_zero (by omega))
theorem sps_lt {w : World} {A : Option Addr} {c : Nat} {M : List Spn} (h : Sps w A c M) : M = [] ∨ ∀ a, A = some a → a.block < w.heap.size := by
  by_cases hz : 0 < M.length
  · obtain ⟨ad, p, hA, hp, F⟩ := h.get hz
    have e0 : ad.add (0 * 10) = ad := by simp [Addr.add]
    rw [e0] at hp
    subst hp
    have hl := World.block_lt_of_cell? _ _ F.c0
    exact .inr fun a ha => by rw [hA] at ha; cases ha; exact hl
  · exact .inl (List.eq_nil_of_length_eq_zero (by omega))
/-- a list in blocks that are not the room's -/
structure Dm (W : World) (col : Nat → Nat) (A : Option Addr) (c : Nat) (M : List Spn) : Prop where
  sps : Sps W A c M
  a0 : M = [] ∨ ∀ a, A = some a → col a.block = 0
  y0 : ∀ y ∈ M, y.l = [] ∨ ∀ a, y.A = some a → col a.block = 0
section
variable {w0 w w' W W' : World} {col col' : Nat → Nat} {sp G S B f : Nat} {p p' : Pr} {L L' : List Pn} {A A' : Option Addr} {c c' n : Nat} {M M' : List Spn} {U : List Nat}
theorem col_kept (F : Fs W W' col col') {x : Nat} (hx : x < W.heap.size) (h : col x = 0) : col' x = 0 ∧ W'.heap[x]? = W.heap[x]? := by
  refine ⟨?_, F.fr.block _ hx fun hm => (mem_ow.1 hm).2.1 h⟩
  by_cases e : col' x = 0
  · exact e
  · exact absurd h ((F.old x hx).1 e)
theorem Dm.fs (h : Dm W col A c M) (F : Fs W W' col col') : Dm W' col' A c M := by
  have ha : M = [] ∨ ∀ a, A = some a → col' a.block = 0 ∧ W'.heap[a.block]? = W.heap[a.block]? := by
    rcases sps_lt h.sps with e | e
    · exact .inl e
    rcases h.a0 with e' | e'
    · exact .inl e'
    exact .inr fun a ha => col_kept F (e a ha) (e' a ha)
  have hy : ∀ y ∈ M, y.l = [] ∨ ∀ a, y.A = some a → col' a.block = 0 ∧ W'.heap[a.block]? = W.heap[a.block]? := fun y hm => by
    rcases ats_lt (h.sps.ats y hm) with e | e
    · exact .inl e
    rcases h.y0 y hm with e' | e'
    · exact .inl e'
    exact .inr fun a ha => col_kept F (e a ha) (e' a ha)
  exact ⟨sps_keep h.sps (ha.imp_right fun k a e => (k a e).2) fun y hm => (hy y hm).imp_right fun k a e => (k a e).2, ha.imp_right fun k a e => (k a e).1, fun y hm => (hy y hm).imp_right fun k a e => (k a e).1⟩
theorem Dm.below (h : Dm W col A c M) (hb : Below W.heap.size W W') : Dm W' col A c M := h.fs (Fs.below hb)
theorem Dm.nt (h : Dm W col A c M) (hn : Nt W f) (F : Wd.Fr [f] W W') : Dm W' col A c M := ⟨sps_fr h.sps hn F, h.a0, h.y0⟩
theorem hd_nt {l : List At} (h : Hd 0 w A c l) (hn : Nt w f) (F : Wd.Fr [f] w w') : Hd 0 w' A c l := by
  rcases h with h | ⟨g, rfl, hB, hg, hH, r⟩
  · exact .inl h
  · by_cases e : g = f
    · subst e
      cases l with
      | nil => exact .inr ⟨g, rfl, hB, Nat.lt_of_lt_of_le hg F.size, fun j hj => absurd hj (by simp), r⟩
      | cons x l =>
        have h4 := (Hd.four hH (k := 0) (by simp)).4
        exact absurd h4 (hn.no _ _)
    · exact hd_fr (.inr ⟨g, rfl, hB, hg, hH, r⟩) F fun a ha hm => by
        injection ha with ha
        subst ha
        exact e (List.mem_singleton.1 hm)
theorem Rm.nt (h : Rm w col p L) (hn : Nt w f) (hf : col f = 0) (F : Wd.Fr [f] w w') : Rm w' col p L :=
  ⟨h.rx.same F fun x hx => by rw [List.mem_singleton.1 hx]; exact hf, ⟨h.sm.so, h.sm.ok, h.sm.bi, h.sm.qi, h.sm.nt, h.sm.ne, fun t ht x hx => by
    obtain ⟨y, h1, h2, h3, h4⟩ := h.sm.fi t ht x hx
    exact ⟨y, h1, h2, hd_nt h3 hn F, h4⟩, h.sm.fn, h.sm.ni, h.sm.mi, h.sm.dq⟩, h.n, h.h⟩
theorem Lw.nt (h : Lw w0 col sp p L w) (hn : Nt w f) (hf : col f = 0) (hs : f ≠ sp) (hge : w0.heap.size ≤ f) (F : Wd.Fr [f] w w') : Lw w0 col sp p L w' := by
  refine ⟨⟨h.sd.rm.nt hn hf F, ?_, h.sd.k⟩, h.ok, ((Fr.of_below [f] h.bel).then F).below (Nat.le_refl _) fun x hx => (by rw [List.mem_singleton.1 hx]; exact hge), h.new⟩
  rw [World.cell?_of_block (F.block sp (World.block_lt_of_cell? _ _ h.sd.c) fun hm => hs (List.mem_singleton.1 hm).symm)]
  exact h.sd.c
/-- the law's shard has L, the document's list is M; the law's own blocks -/
structure Ph (w0 : World) (sp G S B : Nat) (L : List Pn) (U : List Nat) (A : Option Addr) (c : Nat) (M : List Spn) (W : World) : Prop where
  ex : ∃ col p, Lw w0 col sp p L W ∧ p.G = G ∧ p.S = S ∧ p.B = B ∧ (∀ x, x < w0.heap.size → col x = 0) ∧ (∀ x ∈ U, col x = 0 ∧ x ≠ sp ∧ w0.heap.size ≤ x ∧ x < W.heap.size) ∧ Dm W col A c M
theorem Ph.bel (h : Ph w0 sp G S B L U A c M W) : Below w0.heap.size w0 W := by obtain ⟨_, _, h, _⟩ := h.ex; exact h.bel
theorem Ph.sps (h : Ph w0 sp G S B L U A c M W) : Sps W A c M := by obtain ⟨_, _, _, _, _, _, _, _, h⟩ := h.ex; exact h.sps
theorem Ph.so (h : Ph w0 sp G S B L U A c M W) : So L := by obtain ⟨_, _, h, _⟩ := h.ex; exact h.sd.rm.sm.so
theorem Ph.ok (h : Ph w0 sp G S B L U A c M W) : ∀ x ∈ L, Okx x := by obtain ⟨_, _, h, _⟩ := h.ex; exact h.sd.rm.sm.ok
theorem Ph.big (h : Ph w0 sp G S B L U A c M W) : big S B L = false := by obtain ⟨_, _, h, _, hS, hB, _⟩ := h.ex; rw [← hS, ← hB]; exact h.ok
theorem Ph.below (h : Ph w0 sp G S B L U A c M W) (hb : Below W.heap.size W W') : Ph w0 sp G S B L U A c M W' := by
  obtain ⟨col, p, h1, h2, h3, h4, h5, h6, h7⟩ := h.ex
  exact ⟨⟨col, p, h1.below hb, h2, h3, h4, h5, fun x hx => ⟨(h6 x hx).1, (h6 x hx).2.1, (h6 x hx).2.2.1, Nat.lt_of_lt_of_le (h6 x hx).2.2.2 hb.size⟩, h7.below hb⟩⟩
theorem Ph.push (h : Ph w0 sp G S B L U A c M W) (hb : Below W.heap.size W W') {x : Nat} (hx : W.heap.size ≤ x) (hx' : x < W'.heap.size) : Ph w0 sp G S B L (x :: U) A c M W' := by
  have hw := h.bel.size
  obtain ⟨col, p, h1, h2, h3, h4, h5, h6, h7⟩ := h.ex
  have hsp : sp < W.heap.size := World.block_lt_of_cell? _ _ h1.sd.c
  refine ⟨⟨col, p, h1.below hb, h2, h3, h4, h5, fun y hy => ?_, h7.below hb⟩⟩
  rcases List.mem_cons.1 hy with rfl | hy
  · exact ⟨h1.sd.rm.rx.fresh hx, by omega, by omega, hx'⟩
  · exact ⟨(h6 y hy).1, (h6 y hy).2.1, (h6 y hy).2.2.1, Nat.lt_of_lt_of_le (h6 y hy).2.2.2 hb.size⟩
theorem Ph.sub {U' : List Nat} (h : Ph w0 sp G S B L U A c M W) (hU : ∀ x ∈ U', x ∈ U) : Ph w0 sp G S B L U' A c M W := by
  obtain ⟨col, p, h1, h2, h3, h4, h5, h6, h7⟩ := h.ex
  exact ⟨⟨col, p, h1, h2, h3, h4, h5, fun x hx => h6 x (hU x hx), h7⟩⟩
theorem Ph.st (h : Ph w0 sp G S B L U A c M W) (hf : f ∈ U) (hn : Nt W f) (F : Wd.Fr [f] W W') : Ph w0 sp G S B L U A c M W' := by
  obtain ⟨col, p, h1, h2, h3, h4, h5, h6, h7⟩ := h.ex
  obtain ⟨k1, k2, k3, k4⟩ := h6 f hf
  exact ⟨⟨col, p, h1.nt hn k1 k2 k3 F, h2, h3, h4, h5, fun x hx => ⟨(h6 x hx).1, (h6 x hx).2.1, (h6 x hx).2.2.1, Nat.lt_of_lt_of_le (h6 x hx).2.2.2 F.size⟩, h7.nt hn F⟩⟩
/-- another list of the document's -/
theorem Ph.doc (h : Ph w0 sp G S B L U A c M W) (hb : Below W.heap.size W W') (hs : Sps W' A' c' M') (ha : A' = A ∧ M' = M ∨ ∀ a, A' = some a → W.heap.size ≤ a.block) (hy : ∀ y ∈ M', y ∈ M ∨ (y.l = [] ∨ ∀ a, y.A = some a → a.block < w0.heap.size)) : Ph w0 sp G S B L U A' c' M' W' := by
  obtain ⟨col, p, h1, h2, h3, h4, h5, h6, h7⟩ := h.ex
  refine ⟨⟨col, p, h1.below hb, h2, h3, h4, h5, fun x hx => ⟨(h6 x hx).1, (h6 x hx).2.1, (h6 x hx).2.2.1, Nat.lt_of_lt_of_le (h6 x hx).2.2.2 hb.size⟩, hs, ?_, fun y hm => ?_⟩⟩
  · rcases ha with ⟨rfl, rfl⟩ | ha
    · exact h7.a0
    · exact .inr fun a e => h1.sd.rm.rx.fresh (ha a e)
  · rcases hy y hm with e | e
    · exact h7.y0 y e
    · exact e.imp_right fun k a e => h5 _ (k a e)
/-- one span more for the program's -/
def PhAd (w0 : World) (sp G S B : Nat) (L : List Pn) (U : List Nat) (A : Option Addr) (c : Nat) (M : List Spn) (W : World) (x : Pn) (e : Ending) (w' : World) : Prop :=
  ∃ A1 c1 M1 A2 c2 M2 k L' T g, e = .returned (.tuple #[.agg #[.slice A1 (List.length T) c1, .slice A2 (List.length g) c2], .int .i64 k]) ∧ Ad G S B L x k L' T g ∧ pns M1 = T ∧ pns M2 = g ∧ Sps w' A1 c1 M1 ∧ Sps w' A2 c2 M2 ∧
    Ph w0 sp G S B L' U A c M w' ∧ (∀ x ∈ U, w'.heap[x]? = W.heap[x]?) ∧ W.heap.size ≤ w'.heap.size
theorem Ph.padd (h : Ph w0 sp G S B L U A c M W) (s : Sp) (A' : Option Addr) (c' n : Nat) (l : List At) (hn : l.length = n) (hN : OkN s) (hr : Nr (s, l)) (hd : Hd 0 W A' c' l) (hfew : L.length ≤ 400) (hG : G ≤ MT) :
    Calls Tryz.prog 10 #[.pointer (some ⟨sp, 0, none⟩), spv s (.slice A' n c')] W (PhAd w0 sp G S B L U A c M W (s, l)) := by
  obtain ⟨col, p, h1, rfl, rfl, rfl, h5, h6, h7⟩ := h.ex
  have hw := h.bel.size
  refine (h1.add s A' c' n l hn hN hr hd hfew hG).mono ?_
  rintro e w' ⟨A1, c1, M1, A2, c2, M2, k, L', T, g, col', p', rfl, hAd, q1, q2, o1, o2, hL, F, X⟩
  exact ⟨A1, c1, M1, A2, c2, M2, k, L', T, g, rfl, hAd, q1, q2, o1.sps, o2.sps,
    ⟨⟨col', p', hL, X.G, X.S, X.B, fun x hx => (col_kept F (by omega) (h5 x hx)).1, fun x hx => ⟨(col_kept F (h6 x hx).2.2.2 (h6 x hx).1).1, (h6 x hx).2.1, (h6 x hx).2.2.1, Nat.lt_of_lt_of_le (h6 x hx).2.2.2 F.fr.size⟩, h7.fs F⟩⟩,
    fun x hx => (col_kept F (h6 x hx).2.2.2 (h6 x hx).1).2, F.fr.size⟩
/-- a trace of the program's taken -/
def PhTk (w0 : World) (sp G S B : Nat) (L : List Pn) (U : List Nat) (A : Option Addr) (c : Nat) (M : List Spn) (W : World) (t : Nat) (e : Ending) (w' : World) : Prop :=
  ∃ A1 c1 M1, e = .returned (.tuple #[.slice A1 (trace L t).length c1, .bool (decide (t ∈ trs L))]) ∧ pns M1 = trace L t ∧ Sps w' A1 c1 M1 ∧ Ph w0 sp G S B (rest L t) U A c M w' ∧ (∀ x ∈ U, w'.heap[x]? = W.heap[x]?) ∧ W.heap.size ≤ w'.heap.size
theorem Ph.ptake (h : Ph w0 sp G S B L U A c M W) (t : Nat) (ht : (t : Int) ≤ 18446744073709551615) (hfew : L.length ≤ 500) :
    Calls Tryz.prog 16 #[.pointer (some ⟨sp, 0, none⟩), .int .u64 (t : Int)] W (PhTk w0 sp G S B L U A c M W t) := by
  obtain ⟨col, p, h1, rfl, rfl, rfl, h5, h6, h7⟩ := h.ex
  have hw := h.bel.size
  refine (h1.take t ht hfew).mono ?_
  rintro e w' ⟨A1, c1, M1, col', p', rfl, q1, o1, hL, F, X⟩
  exact ⟨A1, c1, M1, rfl, q1, o1.sps,
    ⟨⟨col', p', hL, X.G, X.S, X.B, fun x hx => (col_kept F (by omega) (h5 x hx)).1, fun x hx => ⟨(col_kept F (h6 x hx).2.2.2 (h6 x hx).1).1, (h6 x hx).2.1, (h6 x hx).2.2.1, Nat.lt_of_lt_of_le (h6 x hx).2.2.2 F.fr.size⟩, h7.fs F⟩⟩,
    fun x hx => (col_kept F (h6 x hx).2.2.2 (h6 x hx).1).2, F.fr.size⟩
theorem Ph.pdue (h : Ph w0 sp G S B L U A c M W) (m : Nat) (hm : (m : Int) ≤ 18446744073709551615) : Calls Tryz.prog 19 #[.pointer (some ⟨sp, 0, none⟩), .int .u64 (m : Int)] W (DuOut W (due G L m)) := by
  obtain ⟨col, p, h1, rfl, rfl, rfl, h5, h6, h7⟩ := h.ex
  exact h1.sd.due m hm
/-- one span more for the document's -/
theorem Ph.dadd (h : Ph w0 sp G S B L U A c M W) {Ld : List Pn} (hn : M.length = n) (hL : pns M = Ld) (hso : So Ld) (hok : ∀ x ∈ Ld, Okx x) (s : Sp) (A1 : Option Addr) (c1 m : Nat) (l : List At) (hA : Ats w0 A1 c1 l) (hm : l.length = m) (hx : Okx (s, l)) (hfew : n ≤ 300) (hG : G ≤ MT) :
    Calls Tryz.prog 13 #[sag G S B A n c, spv s (.slice A1 m c1)] W fun e w' => ∃ A' c' M' A2 c2 M2 A3 c3 M3, e = .returned (.tuple #[sag G S B A' (add G S B Ld (s, l)).1.length c', .slice A2 (add G S B Ld (s, l)).2.1.length c2, .slice A3 (add G S B Ld (s, l)).2.2.length c3]) ∧
      pns M' = (add G S B Ld (s, l)).1 ∧ pns M2 = (add G S B Ld (s, l)).2.1 ∧ pns M3 = (add G S B Ld (s, l)).2.2 ∧ Sps w' A2 c2 M2 ∧ Sps w' A3 c3 M3 ∧ Below W.heap.size W w' ∧ Ph w0 sp G S B L U A' c' M' w' := by
  refine (radd_at G S B A n c M Ld s A1 c1 m l W h.sps hn hL hso hok (hA.below h.bel) hm hx hfew hG).mono ?_
  rintro e w' ⟨A', c', M', A2, c2, M2, A3, c3, M3, rfl, q1, q2, q3, r1, r2, r3, b, hy, ha⟩
  refine ⟨A', c', M', A2, c2, M2, A3, c3, M3, rfl, q1, q2, q3, r2, r3, b, h.doc b r1 ha fun y hm => ?_⟩
  rcases hy y hm with e | rfl
  · exact .inl e
  · exact .inr (ats_lt hA)
/-- a trace of the document's taken -/
theorem Ph.dtake (h : Ph w0 sp G S B L U A c M W) {Ld : List Pn} (hn : M.length = n) (hL : pns M = Ld) (hok : ∀ x ∈ Ld, Okx x) (t : Nat) (hfew : n ≤ 500) :
    Calls Tryz.prog 17 #[sag G S B A n c, .int .u64 (t : Int)] W fun e w' => ∃ A1 c1 M1 A2 c2 M2, e = .returned (.tuple #[.slice A1 (trace Ld t).length c1, sag G S B A2 (rest Ld t).length c2]) ∧ pns M1 = trace Ld t ∧ pns M2 = rest Ld t ∧ Sps w' A1 c1 M1 ∧ Below W.heap.size W w' ∧ Ph w0 sp G S B L U A2 c2 M2 w' := by
  refine (rtake_at G S B t A n c M Ld W h.sps hn hL hok hfew).mono ?_
  rintro e w' ⟨A1, c1, M1, A2, c2, M2, rfl, p1, p2, r1, r2, b, m1, m2, hf⟩
  exact ⟨A1, c1, M1, A2, c2, M2, rfl, p1, p2, r1, b, h.doc b r2 (.inr hf) fun y hm => .inl (m2 y hm)⟩
/-- the same spans -/
theorem Ph.psame (h : Ph w0 sp G S B L U A c M W) (hn : M.length = n) (hL : pns M = L) (hfew : L.length < 50) (hG : G ≤ MT) : Calls Tryz.prog 21 #[.pointer (some ⟨sp, 0, none⟩), sag G S B A n c] W fun e w' => e = .returned (.bool true) ∧ Below W.heap.size W w' := by
  obtain ⟨col, p, h1, h2, h3, h4, h5, h6, h7⟩ := h.ex
  exact lsame_at h1.sd G S B A n c M h7.sps hn hL hfew h2 hG
theorem ad_few {x : Pn} {k : Int} {T g : List Pn} (h : Ad G S B L x k L' T g) (hs : So L) (hb : X15.big S B L = false) : L'.length ≤ L.length + 1 := by
  rcases h with ⟨_, _, rfl, _, _⟩ | ⟨_, _, rfl, _, _⟩
  · rw [add_puts hb]
    have h1 := shrink_len (G := G) (S := S) (B := B) (puts L x).1
    have h2 := puts_len L x hs
    show (shrink G S B (puts L x).1).1.length ≤ _
    omega
  · omega
/-- all that is told may be -/
theorem add_all {x : Pn} (hs : So L) (hok : ∀ y ∈ L, Okx y) (hx : Okx x) : (∀ y ∈ (add G S B L x).2.1, Okx y) ∧ (∀ y ∈ (add G S B L x).2.2, Okx y) ∧ (add G S B L x).2.1.length ≤ 1 ∧ (add G S B L x).2.2.length ≤ L.length + 1 := by
  have hput : ∀ y ∈ X15.put L x, Okx y := fun y hy => by
    rcases mem_put.1 hy with rfl | hy
    · exact hx
    · exact hok y hy.1
  have h2 : (∀ y ∈ (shrink G S B (X15.put L x)).2, Okx y) ∧ (shrink G S B (X15.put L x)).2.length ≤ L.length + 1 := by
    refine ⟨fun y hy => hput y (shrink_gone y hy), ?_⟩
    have h1 := shrink_len (G := G) (S := S) (B := B) (X15.put L x)
    have h3 := (put_perm L x).length_eq
    have h4 : (era L x).length ≤ L.length := List.length_filter_le _ _
    rw [List.length_cons] at h3
    omega
  unfold add
  cases e : fnd L x with
  | none => exact ⟨fun y hy => (by cases hy), h2.1, by simp, h2.2⟩
  | some z =>
    dsimp only
    by_cases hc : cp z x ≤ 0
    · rw [if_pos hc]
      exact ⟨fun y hy => by rw [List.mem_singleton.1 hy]; exact hx, fun y hy => (by cases hy), by simp, by simp⟩
    · rw [if_neg hc]
      exact ⟨fun y hy => by rw [List.mem_singleton.1 hy]; exact hok _ (fnd_some e).1, h2.1, by simp, h2.2⟩
theorem pns_40 {M' : List Spn} {T : List Pn} (h : pns M' = T) (hT : ∀ y ∈ T, Okx y) : ∀ y ∈ M', y.l.length ≤ 40 := fun y hy => (hT y.pn (by rw [← h]; exact List.mem_map.2 ⟨y, hy, rfl⟩)).r.few
/-- the state between two acts: the same spans in both -/
structure Ps (w0 : World) (sp bm G S B : Nat) (L : List Pn) (U : List Nat) (A : Option Addr) (n c : Nat) (M : List Spn) (W : World) : Prop where
  ph : Ph w0 sp G S B L U A c M W
  pl : pns M = L
  ln : M.length = n
  kb : Bk W bm 31 (sac G S B A n c)
  mu : bm ∈ U
theorem Ps.below {bm : Nat} (h : Ps w0 sp bm G S B L U A n c M W) (hb : Below W.heap.size W W') : Ps w0 sp bm G S B L U A n c M W' := ⟨h.ph.below hb, h.pl, h.ln, h.kb.below hb, h.mu⟩
theorem Ps.push {bm : Nat} (h : Ps w0 sp bm G S B L U A n c M W) (hb : Below W.heap.size W W') {x : Nat} (hx : W.heap.size ≤ x) (hx' : x < W'.heap.size) : Ps w0 sp bm G S B L (x :: U) A n c M W' := ⟨h.ph.push hb hx hx', h.pl, h.ln, h.kb.below hb, List.mem_cons_of_mem _ h.mu⟩
theorem Ps.sub {bm : Nat} {U' : List Nat} (h : Ps w0 sp bm G S B L U A n c M W) (hU : ∀ x ∈ U', x ∈ U) (hm : bm ∈ U') : Ps w0 sp bm G S B L U' A n c M W := ⟨h.ph.sub hU, h.pl, h.ln, h.kb, hm⟩
theorem Ps.few {bm : Nat} (h : Ps w0 sp bm G S B L U A n c M W) : L.length = n := by rw [← h.pl, B07.pns_len]; exact h.ln
theorem bk_keep {b : Nat} {t : TypeId} {cs : Array Value} (h : Bk W b t cs) (e : W'.heap[b]? = W.heap[b]?) : Bk W' b t cs := by unfold Bk at *; rw [e]; exact h
/-- the document's list stored anew -/
theorem Ph.put {bm : Nat} (h : Ph w0 sp G S B L U A c M W) (hu : bm ∈ U) (hm : Bk W bm 31 (sac G S B A' n c')) (k : Nat) (hp : pns M = L) (hk : M.length = k) {Y : World}
    (hY : (((W.setCell ⟨bm, 0, none⟩ (.int .u64 (G : Int))).setCell ⟨bm, 1, none⟩ (.int .i64 (S : Int))).setCell ⟨bm, 2, none⟩ (.int .i64 (B : Int))).setCell ⟨bm, 3, none⟩ (.slice A k c) = Y) : Ps w0 sp bm G S B L U A k c M Y := by
  have F : Wd.Fr [bm] W Y := by rw [← hY]; exact (((((Fr.refl _ W).then (Fr.setCell _ ⟨bm, 0, none⟩ _ (by simp))).then (Fr.setCell _ ⟨bm, 1, none⟩ _ (by simp))).then (Fr.setCell _ ⟨bm, 2, none⟩ _ (by simp))).then (Fr.setCell _ ⟨bm, 3, none⟩ _ (by simp)))
  exact ⟨h.st hu (sac_nt hm) F, hp, hk, by rw [← hY]; exact (((hm.set 0 _).set 1 _).set 2 _).set 3 _, hu⟩
abbrev acc (K : Int) (s : Sp) (A1 : Option Addr) (m c1 N : Nat) : Array Value := #[.int .i64 K, .int .u64 s.T, .int .u64 s.I, .int .u64 s.P, .string s.sv, .string s.nm, .int .i64 s.kd, .int .i64 s.st, .int .u64 s.t0, .int .u64 s.t1, .slice A1 m c1, .int .u64 (N : Int)]
theorem acc_cells {b : Nat} {t : TypeId} {K : Int} {s : Sp} {A1 : Option Addr} {m c1 N : Nat} (h : Bk W b t (acc K s A1 m c1 N)) :
    W.cell? ⟨b, 0, none⟩ = some (.int .i64 K) ∧ W.cell? ⟨b, 1, none⟩ = some (.int .u64 s.T) ∧ W.cell? ⟨b, 2, none⟩ = some (.int .u64 s.I) ∧ W.cell? ⟨b, 3, none⟩ = some (.int .u64 s.P) ∧ W.cell? ⟨b, 4, none⟩ = some (.string s.sv) ∧ W.cell? ⟨b, 5, none⟩ = some (.string s.nm) ∧
      W.cell? ⟨b, 6, none⟩ = some (.int .i64 s.kd) ∧ W.cell? ⟨b, 7, none⟩ = some (.int .i64 s.st) ∧ W.cell? ⟨b, 8, none⟩ = some (.int .u64 s.t0) ∧ W.cell? ⟨b, 9, none⟩ = some (.int .u64 s.t1) ∧ W.cell? ⟨b, 10, none⟩ = some (.slice A1 m c1) ∧ W.cell? ⟨b, 11, none⟩ = some (.int .u64 (N : Int)) :=
  ⟨h.cell 0, h.cell 1, h.cell 2, h.cell 3, h.cell 4, h.cell 5, h.cell 6, h.cell 7, h.cell 8, h.cell 9, h.cell 10, h.cell 11⟩
theorem sac_cells {b : Nat} {t : TypeId} (h : Bk W b t (sac G S B A n c)) : W.cell? ⟨b, 0, none⟩ = some (.int .u64 (G : Int)) ∧ W.cell? ⟨b, 1, none⟩ = some (.int .i64 (S : Int)) ∧ W.cell? ⟨b, 2, none⟩ = some (.int .i64 (B : Int)) ∧ W.cell? ⟨b, 3, none⟩ = some (.slice A n c) ∧
    W.frozen? ⟨b, 0, none⟩ = false ∧ W.frozen? ⟨b, 1, none⟩ = false ∧ W.frozen? ⟨b, 2, none⟩ = false ∧ W.frozen? ⟨b, 3, none⟩ = false :=
  ⟨h.cell 0, h.cell 1, h.cell 2, h.cell 3, h.frozen 0, h.frozen 1, h.frozen 2, h.frozen 3⟩
end
end Go.Proofs.YtdmibolbpgondaaGreat.X15
end
