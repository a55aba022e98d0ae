/-
  room.put: a span taken in, unless there is one that is preferred. (Written by gen15/put.py.)
-/
import Derived.Test.YtdmibolbpgondaaGreatKX15Put
import Derived.Test.YtdmibolbpgondaaGreatKP06Region
import Derived.Test.YtdmibolbpgondaaGreatKD9Least
import Derived.BigRegion
import Derived.BigQuiet
import Derived.Deep.QuietTactic
set_option linter.unusedSimpArgs false
set_option linter.unusedVariables false
namespace Go.Proofs.YtdmibolbpgondaaGreat.X15
open Go.RowKit Go.Lib Go.Maps Go.Proofs.YtdmibolbpgondaaGreat.Wd Go.Proofs.YtdmibolbpgondaaGreat.P06
open Go.Proofs.YtdmibolbpgondaaGreat.B07 (Pn OkN OkA OkP Spn Sps pns tenA ten)
open Go.Proofs.YtdmibolbpgondaaGreat.D09 (twenty_bk cp cp_neg cp_self pick prefer_at)
open Go.Proofs.YtdmibolbpgondaaGreat.U12 (drew_below)
section
variable {w w' : World} {col col' : Nat → Nat} {p : Pr} {L : List Pn}
set_option maxRecDepth 20000 in
set_option maxHeartbeats 8000000 in
theorem put_over (h : Rm w col p L) (s : Sp) (A : Option Addr) (c n : Nat) (l : List At) (hn : l.length = n) (hok : Okx (s, l)) (hd : Hd 0 w A c l) (hc : ∀ a, A = some a → col a.block = 0) (hfew : L.length ≤ 400) (hG : p.G ≤ MT) (y : Pn) (hf : fnd L (s, l) = some y) (hc' : ¬ cp y (s, l) ≤ 0) :
    Calls Tryz.prog 32 #[.pointer (some ⟨p.r, 0, none⟩), .agg #[.int .u64 s.T, .int .u64 s.I, .int .u64 s.P, .string s.sv, .string s.nm, .int .i64 s.kd, .int .i64 s.st, .int .u64 s.t0, .int .u64 s.t1, .slice A n c]] w (PtOut w col p (X15.put L (s, l)) [y]) := by
  have mixed : Tryz.prog.follows .mixedOrders = true := by kernel_rfl
  have hheld : held L ≤ 400 * 300000 := Nat.le_trans (held_le fun x hx => (h.sm.ok x hx).r) (Nat.mul_le_mul_right _ hfew)
  have hzl := hok.r.sz
  have hn40 : n ≤ 40 := by rw [← hn]; exact hok.r.few
  obtain ⟨z, hz⟩ : ∃ z, sz (s, l) = z := ⟨_, rfl⟩
  rw [hz] at hzl
  have hsz : ∀ W, Below w.heap.size w W → Calls Tryz.prog 25 #[spv s (.slice A n c)] W fun e w' => e = .returned (.int .i64 (z : Int)) ∧ Below W.heap.size W w' := fun W hW => size_any s A c n z l W (hd.ats.below hW) hn hok.r hz
  have bx : Bk (w.alloc (.cells (spc s (.slice A n c)) 45)) w.heap.size 45 (spc s (.slice A n c)) := Bk.new w _ _
  have b0 : Below w.heap.size w (w.alloc (.cells (spc s (.slice A n c)) 45)) := (Below.refl _ _).alloc (Nat.le_refl _) _
  obtain ⟨b, ⟨s', A', c', l'⟩, hy, hyd, hyc, hl1, hl2⟩ := h.look_yes hok hf
  subst hy
  dsimp only at hyd hyc
  have hf2 : fnd L (s, l) = some (s', l') := hf
  have hoy : Okx (s', l') := h.sm.ok _ (fnd_some hf2).1
  obtain ⟨n', hn'⟩ : ∃ n', l'.length = n' := ⟨_, rfl⟩
  have hn40' : n' ≤ 40 := by rw [← hn']; exact hoy.r.few
  have hl3 := hl1 _ (b0.drew)
  have hl4 := hl2 _ (b0.drew)
  have b1 : Below w.heap.size w ((w.alloc (.cells (spc s (.slice A n c)) 45)).alloc (.cells zsp 45)).drew := (b0.alloc b0.size _).drew
  have hl5 := hl1 _ b1
  have hl6 := hl2 _ b1
  unfold sval B07.tenA at hl4 hl6
  dsimp only at hl3 hl4 hl5 hl6
  rw [hn'] at hl4 hl6
  clear hl1 hl2 b1
  have h1 := h.below b0
  have hd1 := hd.below b0
  have hyd1 := hyd.below b0
  have hcol := h.rx.new0
  have HZ := Lib.hid hz
  have HN := Lib.hid hn
  have HN' := Lib.hid hn'
  have HF := Lib.hid hf2
  have HT := Lib.hid (show ¬ cp (s', l') (s, l) ≤ 0 from hc')
  clear hc'
  clear hz hn hn' hf hf2
  have hneg : cp (s, l) (s', l') < 0 := by
    have h1 := HT.out
    have h2 := cp_neg (s', l') (s, l)
    omega
  have hpk : pick (s, l) (s', l') = (s, l) := by unfold pick; rw [if_pos hneg]
  obtain ⟨cv, hcv⟩ : ∃ cv, cmpS s s' l l' = cv := ⟨_, rfl⟩
  have hcv0 : ¬ cv = 0 := by
    have h1 : cp (s, l) (s', l') = cv := hcv
    omega
  have hcvb : (cv == 0) = false := by simpa using hcv0
  have hPf := fun W (h1 : Hd 0 W A c l) (h2 : Hd 0 W A' c' l') => prefer_at s' s A' A c' c l' l n' n W h2 h1 HN'.out HN.out hn40' hn40 hpk HN.out
  have hCm : ∀ A3 c3 W (h1 : Hd 0 W A3 c3 l) (h2 : Hd 0 W A' c' l'), Calls Tryz.prog 53 #[spv s (.slice A3 n c3), spv s' (.slice A' n' c')] W fun e w' => e = .returned (.int .i64 cv) ∧ Below W.heap.size W w' := fun A3 c3 W h1 h2 => by
    have := compare_any s s' A3 A' c3 c' l l' n n' W h1 h2 HN.out HN'.out hn40 hn40'
    rw [hcv] at this
    exact this
  clear hpk hneg hcv
  go_enter Tryz.func32, Tryz.ntmps32
  go_wp2_with fail
  obtain ⟨W, hW⟩ : ∃ W, w.alloc (.cells (spc s (.slice A n c)) 45) = W := ⟨_, rfl⟩
  obtain ⟨g, hg⟩ : ∃ g, w.heap.size = g := ⟨_, rfl⟩
  rw [hW] at bx h1 hd1 hyd1 hl3 hl4 hl5 hl6 b0 ⊢
  rw [hg] at bx hcol ⊢
  obtain ⟨x0, x1, x2, x3, x4, x5, x6, x7, x8, x9⟩ := ten_cells bx
  have c5 := h1.rx.cl.c5
  have hgl : g < W.heap.size := World.block_lt_of_cell? _ _ x0
  have hrl : p.r < W.heap.size := World.block_lt_of_cell? _ _ c5
  go_region
  all_goals
    obtain ⟨k, hk⟩ : ∃ k, W.heap.size = k := ⟨_, rfl⟩
    have hcolk : col k = 0 := by rw [← hk]; exact h1.rx.new0
    generalize hV : (W.alloc (.cells #[.int .u64 s'.T, .int .u64 s'.I, .int .u64 s'.P, .string s'.sv, .string s'.nm, .int .i64 s'.kd, .int .i64 s'.st, .int .u64 s'.t0, .int .u64 s'.t1, .slice A' n' c'] 45)).drew = V
    have b2 : Below W.heap.size W V := by subst hV; exact ((Below.refl _ _).alloc (Nat.le_refl _) _).drew
    have by2 : Bk V k 45 (spc s' (.slice A' n' c')) := by subst hV; subst hk; exact (Bk.new W _ _).below (drew_below _)
    rw [hk]
    have bx2 := bx.below b2
    have hd2 := hd1.below b2
    have hyd2 := hyd1.below b2
    have bw2 := b0.trans (b2.mono b0.size)
    clear hV hl3 hl4 hl5 hl6 x0 x1 x2 x3 x4 x5 x6 x7 x8 x9 c5 hgl hrl bx h1 hd1 hyd1 b0 b2 hW hg hk
    go_wp2_with fail
    have KA := bx2.below (drew_below V)
    have KB := by2.below (drew_below V)
    have ha := hd2.below (drew_below V)
    have hb := hyd2.below (drew_below V)
    have B0 := bw2.trans ((drew_below V).mono bw2.size)
    clear bx2 by2 hd2 hyd2 bw2
    go_region_held3 (fun w' => w'.cell? ⟨g, 0, none⟩ = some (.int .u64 s.T) ∧ w'.cell? ⟨g, 1, none⟩ = some (.int .u64 s.I) ∧ w'.cell? ⟨g, 2, none⟩ = some (.int .u64 s.P) ∧ w'.cell? ⟨g, 3, none⟩ = some (.string s.sv) ∧ w'.cell? ⟨g, 4, none⟩ = some (.string s.nm) ∧ w'.cell? ⟨g, 5, none⟩ = some (.int .i64 s.kd) ∧ w'.cell? ⟨g, 6, none⟩ = some (.int .i64 s.st) ∧ w'.cell? ⟨g, 7, none⟩ = some (.int .u64 s.t0) ∧ w'.cell? ⟨g, 8, none⟩ = some (.int .u64 s.t1) ∧ w'.cell? ⟨g, 9, none⟩ = some (.slice A n c) ∧ w'.cell? ⟨k, 0, none⟩ = some (.int .u64 s'.T) ∧ w'.cell? ⟨k, 1, none⟩ = some (.int .u64 s'.I) ∧ w'.cell? ⟨k, 2, none⟩ = some (.int .u64 s'.P) ∧ w'.cell? ⟨k, 3, none⟩ = some (.string s'.sv) ∧ w'.cell? ⟨k, 4, none⟩ = some (.string s'.nm) ∧ w'.cell? ⟨k, 5, none⟩ = some (.int .i64 s'.kd) ∧ w'.cell? ⟨k, 6, none⟩ = some (.int .i64 s'.st) ∧ w'.cell? ⟨k, 7, none⟩ = some (.int .u64 s'.t0) ∧ w'.cell? ⟨k, 8, none⟩ = some (.int .u64 s'.t1) ∧ w'.cell? ⟨k, 9, none⟩ = some (.slice A' n' c'))
      (first | exact twenty_bk KA2 KB2 | exact twenty_bk KA1 KB1 | exact twenty_bk KA KB | go_keep)
      (first
        | (go_at_call 54; (with_reducible refine (hPf _ ha hb).mono ?_); rintro e v1 ⟨A3, c3, rfl, H3, B1⟩; have KA1 := KA.below B1; have KB1 := KB.below B1; have hb1 := hb.below B1)
        | (go_at_call 53; (with_reducible refine (hCm A3 c3 v1 (H3.low (Nat.zero_le _)) hb1).mono ?_); rintro e v2 ⟨rfl, B2⟩; have KA2 := KA1.below B2; have KB2 := KB1.below B2))
    rename_i hHeld
    clear hHeld
    have BV := B0.trans ((B1.trans (B2.mono B1.size)).mono B0.size)
    clear KA KB KA1 KB1 ha hb hb1 H3 B1 B2 hPf hCm B0
    have h2 := h.below BV
    have hd2 := hd.below BV
    have hyd2 := hyd.below BV
    have F2 : Fs w v2 col col := Fs.below BV
    have hset := set_at h2.rx h2.sm ⟨s, A, c, l⟩ n HN.out hok hd2 hc (by omega) hG
    dsimp only at hset
    have hzl' := hoy.r.sz
    obtain ⟨z', hz'⟩ : ∃ z', sz (s', l') = z' := ⟨_, rfl⟩
    rw [hz'] at hzl'
    have hold := put_old h.sm.so (fnd_some HF.out).1 (fnd_some HF.out).2
    rw [HZ.out, hz'] at hold
    obtain ⟨hh, hhd⟩ : ∃ hh, held L = hh := ⟨_, rfl⟩
    have hph : p.h = hh := by rw [h.h, hhd]
    have hpn : p.n = L.length := h.n
    obtain ⟨H2, hH2⟩ : ∃ H2, held (X15.put L (s, l)) = H2 := ⟨_, rfl⟩
    rw [hhd, hH2] at hold
    rw [hhd] at hheld
    have e4 : (H2 : Int) = (hh : Int) + ((z : Int) - (z' : Int)) := by omega
    have HOL := Lib.hid hold
    have HZ' := Lib.hid hz'
    have HHD := Lib.hid hhd
    have HH2 := Lib.hid hH2
    have HPH := Lib.hid hph
    have HPN := Lib.hid hpn
    have HF2 := Lib.hid F2
    have HE4 := Lib.hid e4
    clear h2 F2 hz' hold hhd hph hpn hH2 e4
    obtain ⟨x0, x1, x2, x3, x4, x5, x6, x7, x8, x9⟩ := ten_cells KA2
    go_wp2_with fail
    refine hset.mono ?_
    rintro e w2 ⟨rfl, col2, p2, hR2, hS2, FS, fx, hn2, hh2⟩
    have HF3 := Lib.hid (HF2.out.trans FS)
    obtain ⟨bx3, hcol3⟩ := bk_fs KA2 FS hcol
    obtain ⟨by3, hcolk3⟩ := bk_fs KB2 FS hcolk
    obtain ⟨hd3, hc3⟩ := hd_fs hd2 FS hc
    obtain ⟨hyd3, hyc3⟩ := hd_fs hyd2 FS hyc
    have HR2 := Lib.hid hR2
    have HS2 := Lib.hid hS2
    have HX := Lib.hid (And.intro bx3 (And.intro by3 (And.intro hd3 hyd3)))
    have HYC := Lib.hid hyc3
    have HCK := Lib.hid hcolk3
    have c4 : w2.cell? ⟨p.r, 4, none⟩ = some (.int .i64 (hh : Int)) := by have := hR2.cl.c4; rw [hh2, HPH.out, fx.r] at this; exact this
    have HN2 := Lib.hid (hn2.trans HPN.out)
    clear x0 x1 x2 x3 x4 x5 x6 x7 x8 x9 KA2 KB2 hset hR2 hS2 FS hn2 hh2 hd2 hyd2 bx3 by3 hd3 hc3 hyd3 hyc3 hcol hcol3 hcolk hcolk3 HF2
    go_wp2_with fail
    have kw1 : IntKind.i64.wrap ((z : Int) - (z' : Int)) = (z : Int) - (z' : Int) := by rw [IntKind.wrap_i64]; omega
    have kw2 : IntKind.i64.wrap ((hh : Int) + ((z : Int) - (z' : Int))) = (hh : Int) + ((z : Int) - (z' : Int)) := by rw [IntKind.wrap_i64]; omega
    have TW : w2.drew.cell? ⟨p.r, 4, none⟩ = some (.int .i64 (hh : Int)) ∧ Bk w2.drew g 45 (spc s (.slice A n c)) ∧ Bk w2.drew k 45 (spc s' (.slice A' n' c')) := ⟨c4, HX.out.1.below (drew_below _), HX.out.2.1.below (drew_below _)⟩
    refine wp_zed (S := fun w' => w'.cell? ⟨p.r, 4, none⟩ = some (.int .i64 (hh : Int)) ∧ Bk w' g 45 (spc s (.slice A n c)) ∧ Bk w' k 45 (spc s' (.slice A' n' c'))) (z := 14) mixed ?_
    refine Zed.take (i := 0) (v := .pointer (some ⟨p.r, 0, none⟩)) rfl (by kernel_rfl) rfl (by kernel_rfl) (by kernel_rfl) (by kernel_rfl) (fun _ _ _ h => h) ?_ TW ?_
    · refine .inl ⟨rfl, fun W hW => ?_⟩
      obtain ⟨q1, q2, q3⟩ := hW
      go_simp
    (try simp only [Act.put, List.setIfInBounds_toArray, List.set_cons_zero, List.set_cons_succ])
    refine Zed.take (i := 1) (v := .pointer (some ⟨p.r, 0, none⟩)) rfl (by kernel_rfl) rfl (by kernel_rfl) (by kernel_rfl) (by kernel_rfl) (fun _ _ _ h => h) ?_ TW ?_
    · refine .inl ⟨rfl, fun W hW => ?_⟩
      obtain ⟨q1, q2, q3⟩ := hW
      go_simp
    (try simp only [Act.put, List.setIfInBounds_toArray, List.set_cons_zero, List.set_cons_succ])
    refine Zed.take (i := 2) (v := .pointer (some ⟨p.r, 3, none⟩)) rfl (by kernel_rfl) rfl (by kernel_rfl) (by kernel_rfl) (by kernel_rfl) (fun _ _ _ h => h) ?_ TW ?_
    · refine .inl ⟨rfl, fun W hW => ?_⟩
      obtain ⟨q1, q2, q3⟩ := hW
      go_simp
    (try simp only [Act.put, List.setIfInBounds_toArray, List.set_cons_zero, List.set_cons_succ])
    refine Zed.take (i := 3) (v := .pointer (some ⟨p.r, 4, none⟩)) rfl (by kernel_rfl) rfl (by kernel_rfl) (by kernel_rfl) (by kernel_rfl) (fun _ _ _ h => h) ?_ TW ?_
    · refine .inl ⟨rfl, fun W hW => ?_⟩
      obtain ⟨q1, q2, q3⟩ := hW
      go_simp
    (try simp only [Act.put, List.setIfInBounds_toArray, List.set_cons_zero, List.set_cons_succ])
    refine Zed.take (i := 4) (v := .int .i64 (hh : Int)) rfl (by kernel_rfl) rfl (by kernel_rfl) (by kernel_rfl) (by kernel_rfl) (fun _ _ _ h => h) ?_ TW ?_
    · refine .inl ⟨rfl, fun W hW => ?_⟩
      obtain ⟨q1, q2, q3⟩ := hW
      go_simp
    (try simp only [Act.put, List.setIfInBounds_toArray, List.set_cons_zero, List.set_cons_succ])
    refine Zed.take (i := 5) (v := .agg #[.int .u64 s.T, .int .u64 s.I, .int .u64 s.P, .string s.sv, .string s.nm, .int .i64 s.kd, .int .i64 s.st, .int .u64 s.t0, .int .u64 s.t1, .slice A n c]) rfl (by kernel_rfl) rfl (by kernel_rfl) (by kernel_rfl) (by kernel_rfl) (fun _ _ _ h => h) ?_ TW ?_
    · refine .inl ⟨rfl, fun W hW => ?_⟩
      obtain ⟨q1, q2, q3⟩ := hW
      obtain ⟨x0, x1, x2, x3, x4, x5, x6, x7, x8, x9⟩ := ten_cells q2
      go_simp
    (try simp only [Act.put, List.setIfInBounds_toArray, List.set_cons_zero, List.set_cons_succ])
    refine Zed.take (i := 7) (v := .agg #[.int .u64 s'.T, .int .u64 s'.I, .int .u64 s'.P, .string s'.sv, .string s'.nm, .int .i64 s'.kd, .int .i64 s'.st, .int .u64 s'.t0, .int .u64 s'.t1, .slice A' n' c']) rfl (by kernel_rfl) rfl (by kernel_rfl) (by kernel_rfl) (by kernel_rfl) (fun _ _ _ h => h) ?_ TW ?_
    · refine .inl ⟨rfl, fun W hW => ?_⟩
      obtain ⟨q1, q2, q3⟩ := hW
      obtain ⟨x0, x1, x2, x3, x4, x5, x6, x7, x8, x9⟩ := ten_cells q3
      go_simp
    (try simp only [Act.put, List.setIfInBounds_toArray, List.set_cons_zero, List.set_cons_succ])
    refine Zed.step (i := 6) (by kernel_rfl) rfl rfl (fun K hK => ?_)
    go_simp
    refine (size_any s A c n z l _ ((HX.out.2.2.1.below (drew_below _)).ats) HN.out hok.r HZ.out).mono ?_
    rintro e v4 ⟨rfl, B4⟩
    have q1 := (B4.cell (World.block_lt_of_cell? _ _ TW.1)).trans TW.1
    have q2 := TW.2.1.below B4
    have q3 := TW.2.2.below B4
    refine hK _ _ ⟨.inr ⟨q1, q2, q3⟩, ?_⟩
    clear hK K TW
    have TW := And.intro q1 (And.intro q2 q3)
    clear q1 q2 q3
    (try simp only [Act.put, List.setIfInBounds_toArray, List.set_cons_zero, List.set_cons_succ])
    refine Zed.step (i := 8) (by kernel_rfl) rfl rfl (fun K hK => ?_)
    go_simp
    refine (size_any s' A' c' n' z' l' _ (((HX.out.2.2.2.below (drew_below _)).below B4).ats) HN'.out hoy.r HZ'.out).mono ?_
    rintro e v3 ⟨rfl, B5⟩
    have q1 := (B5.cell (World.block_lt_of_cell? _ _ TW.1)).trans TW.1
    have q2 := TW.2.1.below B5
    have q3 := TW.2.2.below B5
    refine hK _ _ ⟨.inr ⟨q1, q2, q3⟩, ?_⟩
    clear hK K TW
    have TW := And.intro q1 (And.intro q2 q3)
    clear q1 q2 q3
    (try simp only [Act.put, List.setIfInBounds_toArray, List.set_cons_zero, List.set_cons_succ])
    refine Zed.take (i := 9) (v := .int .i64 ((z : Int) - (z' : Int))) rfl (by kernel_rfl) rfl (by kernel_rfl) (by kernel_rfl) (by kernel_rfl) (fun _ _ _ h => h) ?_ TW ?_
    · refine .inl ⟨rfl, fun W hW => ?_⟩
      obtain ⟨q1, q2, q3⟩ := hW
      go_simp
    (try simp only [Act.put, List.setIfInBounds_toArray, List.set_cons_zero, List.set_cons_succ])
    refine Zed.take (i := 10) (v := .int .i64 ((hh : Int) + ((z : Int) - (z' : Int)))) rfl (by kernel_rfl) rfl (by kernel_rfl) (by kernel_rfl) (by kernel_rfl) (fun _ _ _ h => h) ?_ TW ?_
    · refine .inl ⟨rfl, fun W hW => ?_⟩
      obtain ⟨q1, q2, q3⟩ := hW
      go_simp
    (try simp only [Act.put, List.setIfInBounds_toArray, List.set_cons_zero, List.set_cons_succ])
    refine Zed.step (i := 11) (by kernel_rfl) rfl rfl (fun K hK => ?_)
    go_simp
    refine hK _ _ ⟨.inr TW, ?_⟩
    clear hK K
    (try simp only [Act.put, List.setIfInBounds_toArray, List.set_cons_zero, List.set_cons_succ])
    refine Zed.step (i := 12) (by kernel_rfl) rfl rfl (fun K hK => ?_)
    go_simp
    refine hK _ _ ⟨.inr TW, ?_⟩
    clear hK K
    (try simp only [Act.put, List.setIfInBounds_toArray, List.set_cons_zero, List.set_cons_succ])
    refine Zed.step (i := 13) (by kernel_rfl) rfl rfl (fun K hK => ?_)
    go_simp
    refine hK _ _ ⟨.inr TW, ?_⟩
    clear hK K
    (try simp only [Act.put, List.setIfInBounds_toArray, List.set_cons_zero, List.set_cons_succ])
    have hcolk4 : col2 k = 0 := HCK.out
    have f4 : v3.frozen? ⟨p.r, 4, none⟩ = false := by have := (((HR2.out.below (drew_below _)).below B4).below B5).cl.f 4; rw [fx.r] at this; exact this
    refine Zed.step (i := 14) (by kernel_rfl) rfl rfl (fun K hK => ?_)
    go_simp
    refine hK _ _ ⟨.inl rfl, Zed.done (by kernel_rfl) ?_ _⟩
    clear hK K
    (try simp only [Act.put, List.setIfInBounds_toArray, List.set_cons_zero, List.set_cons_succ])
    have hR4 := (HR2.out.below (drew_below _)).below ((B4.trans (B5.mono B4.size)))
    obtain ⟨hR6, F6⟩ := hR4.set4 H2
    (try dsimp only at hR6 F6)
    rw [HE4.out, fx.r] at hR6 F6
    have FB := (Fs.below (col := col2) (drew_below w2)).trans (Fs.below (B4.trans (B5.mono B4.size)))
    have FA := HF3.out.trans (FB.trans F6)
    have S7 := HS2.out.fs (FB.trans F6)
    obtain ⟨hyd7, hyc7⟩ := hd_fs (hyd.below (Below.refl _ _)) FA hyc
    obtain ⟨by7, _⟩ := bk_fs (TW.2.2) F6 hcolk4
    have HFin := Lib.hid (show PtOut w col p (X15.put L (s, l)) [(s', l')] (.returned (.slice (some ⟨v3.heap.size, 0, none⟩) 1 1)) ((v3.setCell ⟨p.r, 4, none⟩ (.int .i64 ((hh : Int) + ((z : Int) - (z' : Int))))).alloc (.cells (spc s' (.slice A' n' c')) 45)) from by
      have o := Out.one (y := ⟨s', A', c', l'⟩) hR6 hyd7 hyc7
      have es : (v3.setCell ⟨p.r, 4, none⟩ (.int .i64 ((hh : Int) + ((z : Int) - (z' : Int))))).heap.size = v3.heap.size := by simp
      rw [es] at o
      unfold B07.tenA at o
      dsimp only at o
      rw [HN'.out] at o
      have b : Below (v3.setCell ⟨p.r, 4, none⟩ (.int .i64 ((hh : Int) + ((z : Int) - (z' : Int))))).heap.size (v3.setCell ⟨p.r, 4, none⟩ (.int .i64 ((hh : Int) + ((z : Int) - (z' : Int))))) ((v3.setCell ⟨p.r, 4, none⟩ (.int .i64 ((hh : Int) + ((z : Int) - (z' : Int))))).alloc (.cells (spc s' (.slice A' n' c')) 45)) := (Below.refl _ _).alloc (Nat.le_refl _) _
      have R8 := Rm.below (L := X15.put L (s, l)) ⟨hR6, ⟨S7.so, S7.ok, S7.bi, S7.qi, S7.nt, S7.ne, S7.fi, S7.fn, S7.ni, S7.mi, S7.dq⟩, by show p2.n = _; rw [HN2.out]; exact HOL.out.1.symm, by show H2 = _; rw [HH2.out]⟩ b
      exact ⟨_, 1, [⟨s', A', c', l'⟩], col2, _, rfl, rfl, o, R8, FA.trans (Fs.below b), ⟨rfl, fx.G, fx.S, fx.B⟩⟩)
    obtain ⟨x0, x1, x2, x3, x4, x5, x6, x7, x8, x9⟩ := ten_cells by7
    clear hR4 hR6 F6 FB FA S7 TW f4 B4 B5 by7 hyd7 hyc7
    go_wp2
    go_returns
    exact HFin.out
end
end Go.Proofs.YtdmibolbpgondaaGreat.X15
