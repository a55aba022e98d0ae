/-
  room.put: a span taken in, unless there is one that is preferred. (Written by gen15/put.py.)
  room.put: a span taken in, unless there is one that is preferred. (Written by gen15/put.py.)
-/
import Derived.Test.YtdmibolbpgondaaGreatKX15Shd
import Derived.Test.YtdmibolbpgondaaGreatKP06Region
import Derived.Test.YtdmibolbpgondaaGreatKD9Least
import Derived.BigRegion
import Derived.BigQuiet
import Derived.Deep.QuietTactic
section
set_option linter.unusedSimpArgs false
set_option linter.unusedVariables false
namespace Go.Proofs.YtdmibolbpgondaaGreat.X15
open Go.RowKit Go.Lib Go.Maps Go.Proofs.YtdmibolbpgondaaGreat.Wd Go.Proofs.YtdmibolbpgondaaGreat.P06
open Go.Proofs.YtdmibolbpgondaaGreat.B07 (Pn OkN OkA OkP Spn Sps pns tenA ten)
open Go.Proofs.YtdmibolbpgondaaGreat.D09 (cp cp_neg cp_self pick prefer_at)
open Go.Proofs.YtdmibolbpgondaaGreat.U12 (drew_below)
section
variable {w w' : World} {col col' : Nat → Nat} {p : Pr} {L : List Pn}
/-- what put leaves -/
def PtOut (w : World) (col : Nat → Nat) (p : Pr) (L : List Pn) (tw : List Pn) (e : Ending) (w' : World) : Prop :=
  ∃ A c M col' p', e = .returned (.slice A tw.length c) ∧ pns M = tw ∧ Out w' col' A c M ∧ Rm w' col' p' L ∧ Fs w w' col col' ∧ Fix p p'
theorem ten_cells {W : World} {g : Nat} {t : TypeId} {s : Sp} {v : Value} (h : Bk W g t (spc s v)) : W.cell? ⟨g, 0, none⟩ = some (.int .u64 s.T) ∧ W.cell? ⟨g, 1, none⟩ = some (.int .u64 s.I) ∧ W.cell? ⟨g, 2, none⟩ = some (.int .u64 s.P) ∧ W.cell? ⟨g, 3, none⟩ = some (.string s.sv) ∧ W.cell? ⟨g, 4, none⟩ = some (.string s.nm) ∧ W.cell? ⟨g, 5, none⟩ = some (.int .i64 s.kd) ∧ W.cell? ⟨g, 6, none⟩ = some (.int .i64 s.st) ∧ W.cell? ⟨g, 7, none⟩ = some (.int .u64 s.t0) ∧ W.cell? ⟨g, 8, none⟩ = some (.int .u64 s.t1) ∧ W.cell? ⟨g, 9, none⟩ = some v :=
  ⟨h.cell 0, h.cell 1, h.cell 2, h.cell 3, h.cell 4, h.cell 5, h.cell 6, h.cell 7, h.cell 8, h.cell 9⟩
set_option maxRecDepth 20000 in
set_option maxHeartbeats 8000000 in
theorem put_fresh (h : Rm w col p L) (s : Sp) (A : Option Addr) (c n : Nat) (l : List At) (hn : l.length = n) (hok : Okx (s, l)) (hd : Hd 0 w A c l) (hc : ∀ a, A = some a → col a.block = 0) (hfew : L.length ≤ 400) (hG : p.G ≤ MT) (hf : fnd L (s, l) = none) :
    Calls Tryz.prog 32 #[.pointer (some ⟨p.r, 0, none⟩), .agg #[.int .u64 s.T, .int .u64 s.I, .int .u64 s.P, .string s.sv, .string s.nm, .int .i64 s.kd, .int .i64 s.st, .int .u64 s.t0, .int .u64 s.t1, .slice A n c]] w (PtOut w col p (X15.put L (s, l)) []) := by
  have mixed : Tryz.prog.follows .mixedOrders = true := by kernel_rfl
  have hheld : held L ≤ 400 * 300000 := Nat.le_trans (held_le fun x hx => (h.sm.ok x hx).r) (Nat.mul_le_mul_right _ hfew)
  have hzl := hok.r.sz
  have hn40 : n ≤ 40 := by rw [← hn]; exact hok.r.few
  obtain ⟨z, hz⟩ : ∃ z, sz (s, l) = z := ⟨_, rfl⟩
  rw [hz] at hzl
  have hsz : ∀ W, Below w.heap.size w W → Calls Tryz.prog 25 #[spv s (.slice A n c)] W fun e w' => e = .returned (.int .i64 (z : Int)) ∧ Below W.heap.size W w' := fun W hW => size_any s A c n z l W (hd.ats.below hW) hn hok.r hz
  have bx : Bk (w.alloc (.cells (spc s (.slice A n c)) 45)) w.heap.size 45 (spc s (.slice A n c)) := Bk.new w _ _
  have b0 : Below w.heap.size w (w.alloc (.cells (spc s (.slice A n c)) 45)) := (Below.refl _ _).alloc (Nat.le_refl _) _
  obtain ⟨mv, hl1, hl2⟩ := h.look_no hok hf
  have hl3 := hl1 _ (b0.drew)
  have hl4 := hl2 _ (b0.drew)
  have b1 : Below w.heap.size w ((w.alloc (.cells (spc s (.slice A n c)) 45)).alloc (.cells zsp 45)).drew := (b0.alloc b0.size _).drew
  have hl5 := hl1 _ b1
  have hl6 := hl2 _ b1
  dsimp only at hl3 hl4 hl5 hl6
  clear hl1 hl2 b1
  have hnew := put_new (fnd_none hf)
  have h1 := h.below b0
  have hd1 := hd.below b0
  have hcol := h.rx.new0
  have HZ := Lib.hid hz
  have HN := Lib.hid hn
  clear hz hn
  go_enter Tryz.func32, Tryz.ntmps32
  go_wp2_with fail
  obtain ⟨W, hW⟩ : ∃ W, w.alloc (.cells (spc s (.slice A n c)) 45) = W := ⟨_, rfl⟩
  obtain ⟨g, hg⟩ : ∃ g, w.heap.size = g := ⟨_, rfl⟩
  rw [hW] at bx h1 hd1 hl3 hl4 hl5 hl6 b0 ⊢
  rw [hg] at bx hcol ⊢
  obtain ⟨x0, x1, x2, x3, x4, x5, x6, x7, x8, x9⟩ := ten_cells bx
  have c5 := h1.rx.cl.c5
  have hgl : g < W.heap.size := World.block_lt_of_cell? _ _ x0
  have hrl : p.r < W.heap.size := World.block_lt_of_cell? _ _ c5
  go_region
  all_goals
    generalize hV : (W.alloc (.cells #[.int .u64 0, .int .u64 0, .int .u64 0, .string ⟨#[]⟩, .string ⟨#[]⟩, .int .i64 0, .int .i64 0, .int .u64 0, .int .u64 0, .slice none 0 0] 45)).drew = V
    have b2 : Below W.heap.size W V := by subst hV; exact ((Below.refl _ _).alloc (Nat.le_refl _) _).drew
    have h2 := h1.below b2
    have F2 : Fs w V col col := Fs.below (b0.trans (b2.mono b0.size))
    have bx2 := bx.below b2
    have hd2 := hd1.below b2
    have bw2 := b0.trans (b2.mono b0.size)
    have hset := set_at h2.rx h2.sm ⟨s, A, c, l⟩ n HN.out hok hd2 hc (by omega) hG
    dsimp only at hset
    obtain ⟨m, hm⟩ : ∃ m, L.length = m := ⟨_, rfl⟩
    obtain ⟨hh, hhd⟩ : ∃ hh, held L = hh := ⟨_, rfl⟩
    have hpn : p.n = m := by rw [h.n, hm]
    have hph : p.h = hh := by rw [h.h, hhd]
    rw [hm] at hfew
    rw [hhd] at hheld
    have HM := Lib.hid hm
    have HH := Lib.hid hhd
    have HF2 := Lib.hid F2
    clear hV hl3 hl4 hl5 hl6 x0 x1 x2 x3 x4 x5 x6 x7 x8 x9 c5 hgl hrl bx h1 hd1 b0 b2 h2 hm hhd F2 hW hg
    have HPN := Lib.hid hpn
    have HPH := Lib.hid hph
    clear hpn hph
    obtain ⟨x0, x1, x2, x3, x4, x5, x6, x7, x8, x9⟩ := ten_cells bx2
    go_wp2_with fail
    refine hset.mono ?_
    rintro e w2 ⟨rfl, col2, p2, hR2, hS2, FS, fx, hn2, hh2⟩
    have HF3 := Lib.hid (HF2.out.trans FS)
    obtain ⟨bx3, hcol3⟩ := bk_fs bx2 FS hcol
    obtain ⟨hd3, hc3⟩ := hd_fs hd2 FS hc
    have e3 : ((m + 1 : Nat) : Int) = (m : Int) + 1 := by omega
    obtain ⟨hR3, F3⟩ := hR2.set3 (m + 1)
    rw [e3, fx.r] at hR3 F3
    have c3 := hR2.cl.c3
    rw [fx.r, hn2, HPN.out] at c3
    have f3 := hR2.cl.f 3
    rw [fx.r] at f3
    have HR3 := Lib.hid hR3
    have HS3 := Lib.hid (hS2.fs F3)
    have HF4 := Lib.hid (HF3.out.trans F3)
    obtain ⟨bx4, hcol4⟩ := bk_fs bx3 F3 hcol3
    obtain ⟨hd4, hc4⟩ := hd_fs hd3 F3 hc3
    have HX := Lib.hid (And.intro bx4 (And.intro hd4 hc4))
    clear x0 x1 x2 x3 x4 x5 x6 x7 x8 x9 hset hR2 hS2 FS hn2 bx2 hd2 bx3 hd3 hc3 e3 hR3 F3 HF2 HF3 hcol hcol3 bx4 hd4 hc4 bw2
    go_wp2_with fail
    have kw : IntKind.i64.wrap ((hh : Int) + (z : Int)) = (hh : Int) + (z : Int) := by rw [IntKind.wrap_i64]; omega
    have c4 : (w2.setCell ⟨p.r, 3, none⟩ (.int .i64 ((m : Int) + 1))).cell? ⟨p.r, 4, none⟩ = some (.int .i64 (hh : Int)) := by have := HR3.out.cl.c4; dsimp only at this; rw [hh2, HPH.out] at this; exact this
    have TW : (w2.setCell ⟨p.r, 3, none⟩ (.int .i64 ((m : Int) + 1))).drew.cell? ⟨p.r, 4, none⟩ = some (.int .i64 (hh : Int)) ∧ Bk (w2.setCell ⟨p.r, 3, none⟩ (.int .i64 ((m : Int) + 1))).drew g 45 (spc s (.slice A n c)) := ⟨c4, HX.out.1.below (drew_below _)⟩
    refine wp_zed (S := fun w' => w'.cell? ⟨p.r, 4, none⟩ = some (.int .i64 (hh : Int)) ∧ Bk w' g 45 (spc s (.slice A n c))) (z := 11) mixed ?_
    refine Zed.take (i := 0) (v := .pointer (some ⟨p.r, 0, none⟩)) rfl (by kernel_rfl) rfl (by kernel_rfl) (by kernel_rfl) (by kernel_rfl) (fun _ _ _ h => h) ?_ TW ?_
    · refine .inl ⟨rfl, fun W hW => ?_⟩
      obtain ⟨q1, q2⟩ := hW
      go_simp
    (try simp only [Act.put, List.setIfInBounds_toArray, List.set_cons_zero, List.set_cons_succ])
    refine Zed.take (i := 1) (v := .pointer (some ⟨p.r, 0, none⟩)) rfl (by kernel_rfl) rfl (by kernel_rfl) (by kernel_rfl) (by kernel_rfl) (fun _ _ _ h => h) ?_ TW ?_
    · refine .inl ⟨rfl, fun W hW => ?_⟩
      obtain ⟨q1, q2⟩ := hW
      go_simp
    (try simp only [Act.put, List.setIfInBounds_toArray, List.set_cons_zero, List.set_cons_succ])
    refine Zed.take (i := 2) (v := .pointer (some ⟨p.r, 3, none⟩)) rfl (by kernel_rfl) rfl (by kernel_rfl) (by kernel_rfl) (by kernel_rfl) (fun _ _ _ h => h) ?_ TW ?_
    · refine .inl ⟨rfl, fun W hW => ?_⟩
      obtain ⟨q1, q2⟩ := hW
      go_simp
    (try simp only [Act.put, List.setIfInBounds_toArray, List.set_cons_zero, List.set_cons_succ])
    refine Zed.take (i := 3) (v := .pointer (some ⟨p.r, 4, none⟩)) rfl (by kernel_rfl) rfl (by kernel_rfl) (by kernel_rfl) (by kernel_rfl) (fun _ _ _ h => h) ?_ TW ?_
    · refine .inl ⟨rfl, fun W hW => ?_⟩
      obtain ⟨q1, q2⟩ := hW
      go_simp
    (try simp only [Act.put, List.setIfInBounds_toArray, List.set_cons_zero, List.set_cons_succ])
    refine Zed.take (i := 4) (v := .int .i64 (hh : Int)) rfl (by kernel_rfl) rfl (by kernel_rfl) (by kernel_rfl) (by kernel_rfl) (fun _ _ _ h => h) ?_ TW ?_
    · refine .inl ⟨rfl, fun W hW => ?_⟩
      obtain ⟨q1, q2⟩ := hW
      go_simp
    (try simp only [Act.put, List.setIfInBounds_toArray, List.set_cons_zero, List.set_cons_succ])
    refine Zed.take (i := 5) (v := .agg #[.int .u64 s.T, .int .u64 s.I, .int .u64 s.P, .string s.sv, .string s.nm, .int .i64 s.kd, .int .i64 s.st, .int .u64 s.t0, .int .u64 s.t1, .slice A n c]) rfl (by kernel_rfl) rfl (by kernel_rfl) (by kernel_rfl) (by kernel_rfl) (fun _ _ _ h => h) ?_ TW ?_
    · refine .inl ⟨rfl, fun W hW => ?_⟩
      obtain ⟨q1, q2⟩ := hW
      obtain ⟨x0, x1, x2, x3, x4, x5, x6, x7, x8, x9⟩ := ten_cells q2
      go_simp
    (try simp only [Act.put, List.setIfInBounds_toArray, List.set_cons_zero, List.set_cons_succ])
    refine Zed.step (i := 6) (by kernel_rfl) rfl rfl (fun K hK => ?_)
    go_simp
    refine (size_any s A c n z l _ ((HX.out.2.1.below (drew_below _)).ats) HN.out hok.r HZ.out).mono ?_
    rintro e v2 ⟨rfl, B4⟩
    have q1 := (B4.cell (World.block_lt_of_cell? _ _ TW.1)).trans TW.1
    have q2 := TW.2.below B4
    refine hK _ _ ⟨.inr ⟨q1, q2⟩, ?_⟩
    clear hK K TW
    have TW := And.intro q1 q2
    (try simp only [Act.put, List.setIfInBounds_toArray, List.set_cons_zero, List.set_cons_succ])
    refine Zed.take (i := 7) (v := .int .i64 ((hh : Int) + (z : Int))) rfl (by kernel_rfl) rfl (by kernel_rfl) (by kernel_rfl) (by kernel_rfl) (fun _ _ _ h => h) ?_ TW ?_
    · refine .inl ⟨rfl, fun W hW => ?_⟩
      obtain ⟨q1, q2⟩ := hW
      go_simp
    (try simp only [Act.put, List.setIfInBounds_toArray, List.set_cons_zero, List.set_cons_succ])
    refine Zed.step (i := 8) (by kernel_rfl) rfl rfl (fun K hK => ?_)
    go_simp
    refine hK _ _ ⟨.inr TW, ?_⟩
    clear hK K
    (try simp only [Act.put, List.setIfInBounds_toArray, List.set_cons_zero, List.set_cons_succ])
    refine Zed.step (i := 9) (by kernel_rfl) rfl rfl (fun K hK => ?_)
    go_simp
    refine hK _ _ ⟨.inr TW, ?_⟩
    clear hK K
    (try simp only [Act.put, List.setIfInBounds_toArray, List.set_cons_zero, List.set_cons_succ])
    refine Zed.step (i := 10) (by kernel_rfl) rfl rfl (fun K hK => ?_)
    go_simp
    refine hK _ _ ⟨.inr TW, ?_⟩
    clear hK K
    (try simp only [Act.put, List.setIfInBounds_toArray, List.set_cons_zero, List.set_cons_succ])
    have f4 : v2.frozen? ⟨p.r, 4, none⟩ = false := (by have := ((HR3.out.below (drew_below _)).below B4).cl.f 4; dsimp only at this; exact this)
    refine Zed.step (i := 11) (by kernel_rfl) rfl rfl (fun K hK => ?_)
    go_simp
    refine hK _ _ ⟨.inl rfl, Zed.done (by kernel_rfl) ?_ _⟩
    clear hK K
    (try simp only [Act.put, List.setIfInBounds_toArray, List.set_cons_zero, List.set_cons_succ])
    have hR5 := (HR3.out.below (drew_below _)).below B4
    have bD := drew_below (w2.setCell ⟨p.r, 3, none⟩ (.int .i64 ((m : Int) + 1)))
    obtain ⟨hR6, F6⟩ := hR5.set4 (hh + z)
    have e6 : ((hh + z : Nat) : Int) = (hh : Int) + (z : Int) := by omega
    dsimp only at hR6 F6
    rw [e6] at hR6 F6
    have FB := (Fs.below (col := col2) bD).trans (Fs.below B4)
    have S7 := HS3.out.fs (FB.trans F6)
    have HFin := Lib.hid (show PtOut w col p (X15.put L (s, l)) [] (.returned (.slice none 0 0)) _ from
      ⟨none, 0, [], col2, _, rfl, rfl, Out.nil _ _, ⟨hR6, ⟨S7.so, S7.ok, S7.bi, S7.qi, S7.nt, S7.ne, S7.fi, S7.fn, S7.ni, S7.mi, S7.dq⟩, by show m + 1 = _; rw [hnew.1, HM.out], by show hh + z = _; rw [hnew.2, HH.out, HZ.out]⟩, HF4.out.trans (FB.trans F6), ⟨rfl, fx.G, fx.S, fx.B⟩⟩)
    clear hR5 hR6 F6 FB S7 TW q1 q2 f4 B4
    go_wp2
    go_returns
    exact HFin.out
end
end Go.Proofs.YtdmibolbpgondaaGreat.X15
end

section
set_option linter.unusedSimpArgs false
set_option linter.unusedVariables false
namespace Go.Proofs.YtdmibolbpgondaaGreat.X15
open Go.RowKit Go.Lib Go.Maps Go.Proofs.YtdmibolbpgondaaGreat.Wd Go.Proofs.YtdmibolbpgondaaGreat.P06
open Go.Proofs.YtdmibolbpgondaaGreat.B07 (Pn OkN OkA OkP Spn Sps pns tenA ten)
open Go.Proofs.YtdmibolbpgondaaGreat.D09 (twenty_bk cp cp_neg cp_self pick prefer_at)
open Go.Proofs.YtdmibolbpgondaaGreat.U12 (drew_below)
section
variable {w w' : World} {col col' : Nat → Nat} {p : Pr} {L : List Pn}
set_option maxRecDepth 20000 in
set_option maxHeartbeats 8000000 in
theorem put_kept (h : Rm w col p L) (s : Sp) (A : Option Addr) (c n : Nat) (l : List At) (hn : l.length = n) (hok : Okx (s, l)) (hd : Hd 0 w A c l) (hc : ∀ a, A = some a → col a.block = 0) (hfew : L.length ≤ 400) (hG : p.G ≤ MT) (y : Pn) (hf : fnd L (s, l) = some y) (hc' : cp y (s, l) ≤ 0) :
    Calls Tryz.prog 32 #[.pointer (some ⟨p.r, 0, none⟩), .agg #[.int .u64 s.T, .int .u64 s.I, .int .u64 s.P, .string s.sv, .string s.nm, .int .i64 s.kd, .int .i64 s.st, .int .u64 s.t0, .int .u64 s.t1, .slice A n c]] w (PtOut w col p L [(s, l)]) := by
  have mixed : Tryz.prog.follows .mixedOrders = true := by kernel_rfl
  have hheld : held L ≤ 400 * 300000 := Nat.le_trans (held_le fun x hx => (h.sm.ok x hx).r) (Nat.mul_le_mul_right _ hfew)
  have hzl := hok.r.sz
  have hn40 : n ≤ 40 := by rw [← hn]; exact hok.r.few
  obtain ⟨z, hz⟩ : ∃ z, sz (s, l) = z := ⟨_, rfl⟩
  rw [hz] at hzl
  have hsz : ∀ W, Below w.heap.size w W → Calls Tryz.prog 25 #[spv s (.slice A n c)] W fun e w' => e = .returned (.int .i64 (z : Int)) ∧ Below W.heap.size W w' := fun W hW => size_any s A c n z l W (hd.ats.below hW) hn hok.r hz
  have bx : Bk (w.alloc (.cells (spc s (.slice A n c)) 45)) w.heap.size 45 (spc s (.slice A n c)) := Bk.new w _ _
  have b0 : Below w.heap.size w (w.alloc (.cells (spc s (.slice A n c)) 45)) := (Below.refl _ _).alloc (Nat.le_refl _) _
  obtain ⟨b, ⟨s', A', c', l'⟩, hy, hyd, hyc, hl1, hl2⟩ := h.look_yes hok hf
  subst hy
  dsimp only at hyd hyc
  have hf2 : fnd L (s, l) = some (s', l') := hf
  have hoy : Okx (s', l') := h.sm.ok _ (fnd_some hf2).1
  obtain ⟨n', hn'⟩ : ∃ n', l'.length = n' := ⟨_, rfl⟩
  have hn40' : n' ≤ 40 := by rw [← hn']; exact hoy.r.few
  have hl3 := hl1 _ (b0.drew)
  have hl4 := hl2 _ (b0.drew)
  have b1 : Below w.heap.size w ((w.alloc (.cells (spc s (.slice A n c)) 45)).alloc (.cells zsp 45)).drew := (b0.alloc b0.size _).drew
  have hl5 := hl1 _ b1
  have hl6 := hl2 _ b1
  unfold sval B07.tenA at hl4 hl6
  dsimp only at hl3 hl4 hl5 hl6
  rw [hn'] at hl4 hl6
  clear hl1 hl2 b1
  have h1 := h.below b0
  have hd1 := hd.below b0
  have hyd1 := hyd.below b0
  have hcol := h.rx.new0
  have HZ := Lib.hid hz
  have HN := Lib.hid hn
  have HN' := Lib.hid hn'
  have HF := Lib.hid hf2
  have HT := Lib.hid (show cp (s', l') (s, l) ≤ 0 from hc')
  clear hc'
  clear hz hn hn' hf hf2
  have hpk : pick (s, l) (s', l') = (s', l') := by
    unfold pick
    rw [if_neg]
    have h1 := HT.out
    have h2 := cp_neg (s', l') (s, l)
    omega
  have hPf := fun W (h1 : Hd 0 W A c l) (h2 : Hd 0 W A' c' l') => prefer_at s' s A' A c' c l' l n' n W h2 h1 HN'.out HN.out hn40' hn40 hpk HN'.out
  have hCm : ∀ A3 c3 W (h1 : Hd 0 W A3 c3 l') (h2 : Hd 0 W A' c' l'), Calls Tryz.prog 53 #[spv s' (.slice A3 n' c3), spv s' (.slice A' n' c')] W fun e w' => e = .returned (.int .i64 0) ∧ Below W.heap.size W w' := fun A3 c3 W h1 h2 => by
    have := compare_any s' s' A3 A' c3 c' l' l' n' n' W h1 h2 HN'.out HN'.out hn40' hn40'
    rw [cmpS_self] at this
    exact this
  clear hpk
  have HFin := Lib.hid (show ∀ W, Below w.heap.size w W → PtOut w col p L [(s, l)] (.returned (.slice (some ⟨W.heap.size, 0, none⟩) 1 1)) (W.alloc (.cells (spc s (.slice A n c)) 45)) from fun W hW => by
    have o := Out.one (y := ⟨s, A, c, l⟩) (h.below hW).rx (hd.below hW) hc
    unfold B07.tenA at o
    dsimp only at o
    rw [HN.out] at o
    have b : Below w.heap.size w (W.alloc (.cells (spc s (.slice A n c)) 45)) := hW.alloc hW.size _
    exact ⟨_, 1, [⟨s, A, c, l⟩], col, p, rfl, rfl, o, h.below b, Fs.below b, Fix.refl p⟩)
  go_enter Tryz.func32, Tryz.ntmps32
  go_wp2_with fail
  obtain ⟨W, hW⟩ : ∃ W, w.alloc (.cells (spc s (.slice A n c)) 45) = W := ⟨_, rfl⟩
  obtain ⟨g, hg⟩ : ∃ g, w.heap.size = g := ⟨_, rfl⟩
  rw [hW] at bx h1 hd1 hyd1 hl3 hl4 hl5 hl6 b0 ⊢
  rw [hg] at bx hcol ⊢
  obtain ⟨x0, x1, x2, x3, x4, x5, x6, x7, x8, x9⟩ := ten_cells bx
  have c5 := h1.rx.cl.c5
  have hgl : g < W.heap.size := World.block_lt_of_cell? _ _ x0
  have hrl : p.r < W.heap.size := World.block_lt_of_cell? _ _ c5
  go_region
  all_goals
    obtain ⟨k, hk⟩ : ∃ k, W.heap.size = k := ⟨_, rfl⟩
    have hcolk : col k = 0 := by rw [← hk]; exact h1.rx.new0
    generalize hV : (W.alloc (.cells #[.int .u64 s'.T, .int .u64 s'.I, .int .u64 s'.P, .string s'.sv, .string s'.nm, .int .i64 s'.kd, .int .i64 s'.st, .int .u64 s'.t0, .int .u64 s'.t1, .slice A' n' c'] 45)).drew = V
    have b2 : Below W.heap.size W V := by subst hV; exact ((Below.refl _ _).alloc (Nat.le_refl _) _).drew
    have by2 : Bk V k 45 (spc s' (.slice A' n' c')) := by subst hV; subst hk; exact (Bk.new W _ _).below (drew_below _)
    rw [hk]
    have bx2 := bx.below b2
    have hd2 := hd1.below b2
    have hyd2 := hyd1.below b2
    have bw2 := b0.trans (b2.mono b0.size)
    clear hV hl3 hl4 hl5 hl6 x0 x1 x2 x3 x4 x5 x6 x7 x8 x9 c5 hgl hrl bx h1 hd1 hyd1 b0 b2 hW hg hk
    go_wp2_with fail
    have KA := bx2.below (drew_below V)
    have KB := by2.below (drew_below V)
    have ha := hd2.below (drew_below V)
    have hb := hyd2.below (drew_below V)
    have B0 := bw2.trans ((drew_below V).mono bw2.size)
    clear bx2 by2 hd2 hyd2 bw2
    go_region_held3 (fun w' => w'.cell? ⟨g, 0, none⟩ = some (.int .u64 s.T) ∧ w'.cell? ⟨g, 1, none⟩ = some (.int .u64 s.I) ∧ w'.cell? ⟨g, 2, none⟩ = some (.int .u64 s.P) ∧ w'.cell? ⟨g, 3, none⟩ = some (.string s.sv) ∧ w'.cell? ⟨g, 4, none⟩ = some (.string s.nm) ∧ w'.cell? ⟨g, 5, none⟩ = some (.int .i64 s.kd) ∧ w'.cell? ⟨g, 6, none⟩ = some (.int .i64 s.st) ∧ w'.cell? ⟨g, 7, none⟩ = some (.int .u64 s.t0) ∧ w'.cell? ⟨g, 8, none⟩ = some (.int .u64 s.t1) ∧ w'.cell? ⟨g, 9, none⟩ = some (.slice A n c) ∧ w'.cell? ⟨k, 0, none⟩ = some (.int .u64 s'.T) ∧ w'.cell? ⟨k, 1, none⟩ = some (.int .u64 s'.I) ∧ w'.cell? ⟨k, 2, none⟩ = some (.int .u64 s'.P) ∧ w'.cell? ⟨k, 3, none⟩ = some (.string s'.sv) ∧ w'.cell? ⟨k, 4, none⟩ = some (.string s'.nm) ∧ w'.cell? ⟨k, 5, none⟩ = some (.int .i64 s'.kd) ∧ w'.cell? ⟨k, 6, none⟩ = some (.int .i64 s'.st) ∧ w'.cell? ⟨k, 7, none⟩ = some (.int .u64 s'.t0) ∧ w'.cell? ⟨k, 8, none⟩ = some (.int .u64 s'.t1) ∧ w'.cell? ⟨k, 9, none⟩ = some (.slice A' n' c'))
      (first | exact twenty_bk KA2 KB2 | exact twenty_bk KA1 KB1 | exact twenty_bk KA KB | go_keep)
      (first
        | (go_at_call 54; (with_reducible refine (hPf _ ha hb).mono ?_); rintro e v1 ⟨A3, c3, rfl, H3, B1⟩; have KA1 := KA.below B1; have KB1 := KB.below B1; have hb1 := hb.below B1)
        | (go_at_call 53; (with_reducible refine (hCm A3 c3 v1 (H3.low (Nat.zero_le _)) hb1).mono ?_); rintro e v2 ⟨rfl, B2⟩; have KA2 := KA1.below B2; have KB2 := KB1.below B2))
    rename_i hHeld
    clear hHeld
    have BV := B0.trans ((B1.trans (B2.mono B1.size)).mono B0.size)
    clear KA KB KA1 KB1 ha hb hb1 H3 B1 B2 hPf hCm B0
    obtain ⟨x0, x1, x2, x3, x4, x5, x6, x7, x8, x9⟩ := ten_cells KA2
    go_wp2
    go_returns
    exact HFin.out _ BV
end
end Go.Proofs.YtdmibolbpgondaaGreat.X15
end
