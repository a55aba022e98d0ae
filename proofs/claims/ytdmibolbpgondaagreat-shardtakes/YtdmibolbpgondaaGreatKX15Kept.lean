/-
  room.put: a span taken in, unless there is one that is preferred. (Written by gen15/put.py.)
-/
import Derived.Test.YtdmibolbpgondaaGreatKX15Put
import Derived.Test.YtdmibolbpgondaaGreatKP06Region
import Derived.Test.YtdmibolbpgondaaGreatKD9Least
import Derived.BigRegion
import Derived.BigQuiet
import Derived.Deep.QuietTactic
set_option linter.unusedSimpArgs false
set_option linter.unusedVariables false
namespace Go.Proofs.YtdmibolbpgondaaGreat.X15
open Go.RowKit Go.Lib Go.Maps Go.Proofs.YtdmibolbpgondaaGreat.Wd Go.Proofs.YtdmibolbpgondaaGreat.P06
open Go.Proofs.YtdmibolbpgondaaGreat.B07 (Pn OkN OkA OkP Spn Sps pns tenA ten)
open Go.Proofs.YtdmibolbpgondaaGreat.D09 (twenty_bk cp cp_neg cp_self pick prefer_at)
open Go.Proofs.YtdmibolbpgondaaGreat.U12 (drew_below)
section
variable {w w' : World} {col col' : Nat → Nat} {p : Pr} {L : List Pn}
set_option maxRecDepth 20000 in
set_option maxHeartbeats 8000000 in
theorem put_kept (h : Rm w col p L) (s : Sp) (A : Option Addr) (c n : Nat) (l : List At) (hn : l.length = n) (hok : Okx (s, l)) (hd : Hd 0 w A c l) (hc : ∀ a, A = some a → col a.block = 0) (hfew : L.length ≤ 400) (hG : p.G ≤ MT) (y : Pn) (hf : fnd L (s, l) = some y) (hc' : cp y (s, l) ≤ 0) :
    Calls Tryz.prog 32 #[.pointer (some ⟨p.r, 0, none⟩), .agg #[.int .u64 s.T, .int .u64 s.I, .int .u64 s.P, .string s.sv, .string s.nm, .int .i64 s.kd, .int .i64 s.st, .int .u64 s.t0, .int .u64 s.t1, .slice A n c]] w (PtOut w col p L [(s, l)]) := by
  have mixed : Tryz.prog.follows .mixedOrders = true := by kernel_rfl
  have hheld : held L ≤ 400 * 300000 := Nat.le_trans (held_le fun x hx => (h.sm.ok x hx).r) (Nat.mul_le_mul_right _ hfew)
  have hzl := hok.r.sz
  have hn40 : n ≤ 40 := by rw [← hn]; exact hok.r.few
  obtain ⟨z, hz⟩ : ∃ z, sz (s, l) = z := ⟨_, rfl⟩
  rw [hz] at hzl
  have hsz : ∀ W, Below w.heap.size w W → Calls Tryz.prog 25 #[spv s (.slice A n c)] W fun e w' => e = .returned (.int .i64 (z : Int)) ∧ Below W.heap.size W w' := fun W hW => size_any s A c n z l W (hd.ats.below hW) hn hok.r hz
  have bx : Bk (w.alloc (.cells (spc s (.slice A n c)) 45)) w.heap.size 45 (spc s (.slice A n c)) := Bk.new w _ _
  have b0 : Below w.heap.size w (w.alloc (.cells (spc s (.slice A n c)) 45)) := (Below.refl _ _).alloc (Nat.le_refl _) _
  obtain ⟨b, ⟨s', A', c', l'⟩, hy, hyd, hyc, hl1, hl2⟩ := h.look_yes hok hf
  subst hy
  dsimp only at hyd hyc
  have hf2 : fnd L (s, l) = some (s', l') := hf
  have hoy : Okx (s', l') := h.sm.ok _ (fnd_some hf2).1
  obtain ⟨n', hn'⟩ : ∃ n', l'.length = n' := ⟨_, rfl⟩
  have hn40' : n' ≤ 40 := by rw [← hn']; exact hoy.r.few
  have hl3 := hl1 _ (b0.drew)
  have hl4 := hl2 _ (b0.drew)
  have b1 : Below w.heap.size w ((w.alloc (.cells (spc s (.slice A n c)) 45)).alloc (.cells zsp 45)).drew := (b0.alloc b0.size _).drew
  have hl5 := hl1 _ b1
  have hl6 := hl2 _ b1
  unfold sval B07.tenA at hl4 hl6
  dsimp only at hl3 hl4 hl5 hl6
  rw [hn'] at hl4 hl6
  clear hl1 hl2 b1
  have h1 := h.below b0
  have hd1 := hd.below b0
  have hyd1 := hyd.below b0
  have hcol := h.rx.new0
  have HZ := Lib.hid hz
  have HN := Lib.hid hn
  have HN' := Lib.hid hn'
  have HF := Lib.hid hf2
  have HT := Lib.hid (show cp (s', l') (s, l) ≤ 0 from hc')
  clear hc'
  clear hz hn hn' hf hf2
  have hpk : pick (s, l) (s', l') = (s', l') := by
    unfold pick
    rw [if_neg]
    have h1 := HT.out
    have h2 := cp_neg (s', l') (s, l)
    omega
  have hPf := fun W (h1 : Hd 0 W A c l) (h2 : Hd 0 W A' c' l') => prefer_at s' s A' A c' c l' l n' n W h2 h1 HN'.out HN.out hn40' hn40 hpk HN'.out
  have hCm : ∀ A3 c3 W (h1 : Hd 0 W A3 c3 l') (h2 : Hd 0 W A' c' l'), Calls Tryz.prog 53 #[spv s' (.slice A3 n' c3), spv s' (.slice A' n' c')] W fun e w' => e = .returned (.int .i64 0) ∧ Below W.heap.size W w' := fun A3 c3 W h1 h2 => by
    have := compare_any s' s' A3 A' c3 c' l' l' n' n' W h1 h2 HN'.out HN'.out hn40' hn40'
    rw [cmpS_self] at this
    exact this
  clear hpk
  have HFin := Lib.hid (show ∀ W, Below w.heap.size w W → PtOut w col p L [(s, l)] (.returned (.slice (some ⟨W.heap.size, 0, none⟩) 1 1)) (W.alloc (.cells (spc s (.slice A n c)) 45)) from fun W hW => by
    have o := Out.one (y := ⟨s, A, c, l⟩) (h.below hW).rx (hd.below hW) hc
    unfold B07.tenA at o
    dsimp only at o
    rw [HN.out] at o
    have b : Below w.heap.size w (W.alloc (.cells (spc s (.slice A n c)) 45)) := hW.alloc hW.size _
    exact ⟨_, 1, [⟨s, A, c, l⟩], col, p, rfl, rfl, o, h.below b, Fs.below b, Fix.refl p⟩)
  go_enter Tryz.func32, Tryz.ntmps32
  go_wp2_with fail
  obtain ⟨W, hW⟩ : ∃ W, w.alloc (.cells (spc s (.slice A n c)) 45) = W := ⟨_, rfl⟩
  obtain ⟨g, hg⟩ : ∃ g, w.heap.size = g := ⟨_, rfl⟩
  rw [hW] at bx h1 hd1 hyd1 hl3 hl4 hl5 hl6 b0 ⊢
  rw [hg] at bx hcol ⊢
  obtain ⟨x0, x1, x2, x3, x4, x5, x6, x7, x8, x9⟩ := ten_cells bx
  have c5 := h1.rx.cl.c5
  have hgl : g < W.heap.size := World.block_lt_of_cell? _ _ x0
  have hrl : p.r < W.heap.size := World.block_lt_of_cell? _ _ c5
  go_region
  all_goals
    obtain ⟨k, hk⟩ : ∃ k, W.heap.size = k := ⟨_, rfl⟩
    have hcolk : col k = 0 := by rw [← hk]; exact h1.rx.new0
    generalize hV : (W.alloc (.cells #[.int .u64 s'.T, .int .u64 s'.I, .int .u64 s'.P, .string s'.sv, .string s'.nm, .int .i64 s'.kd, .int .i64 s'.st, .int .u64 s'.t0, .int .u64 s'.t1, .slice A' n' c'] 45)).drew = V
    have b2 : Below W.heap.size W V := by subst hV; exact ((Below.refl _ _).alloc (Nat.le_refl _) _).drew
    have by2 : Bk V k 45 (spc s' (.slice A' n' c')) := by subst hV; subst hk; exact (Bk.new W _ _).below (drew_below _)
    rw [hk]
    have bx2 := bx.below b2
    have hd2 := hd1.below b2
    have hyd2 := hyd1.below b2
    have bw2 := b0.trans (b2.mono b0.size)
    clear hV hl3 hl4 hl5 hl6 x0 x1 x2 x3 x4 x5 x6 x7 x8 x9 c5 hgl hrl bx h1 hd1 hyd1 b0 b2 hW hg hk
    go_wp2_with fail
    have KA := bx2.below (drew_below V)
    have KB := by2.below (drew_below V)
    have ha := hd2.below (drew_below V)
    have hb := hyd2.below (drew_below V)
    have B0 := bw2.trans ((drew_below V).mono bw2.size)
    clear bx2 by2 hd2 hyd2 bw2
    go_region_held3 (fun w' => w'.cell? ⟨g, 0, none⟩ = some (.int .u64 s.T) ∧ w'.cell? ⟨g, 1, none⟩ = some (.int .u64 s.I) ∧ w'.cell? ⟨g, 2, none⟩ = some (.int .u64 s.P) ∧ w'.cell? ⟨g, 3, none⟩ = some (.string s.sv) ∧ w'.cell? ⟨g, 4, none⟩ = some (.string s.nm) ∧ w'.cell? ⟨g, 5, none⟩ = some (.int .i64 s.kd) ∧ w'.cell? ⟨g, 6, none⟩ = some (.int .i64 s.st) ∧ w'.cell? ⟨g, 7, none⟩ = some (.int .u64 s.t0) ∧ w'.cell? ⟨g, 8, none⟩ = some (.int .u64 s.t1) ∧ w'.cell? ⟨g, 9, none⟩ = some (.slice A n c) ∧ w'.cell? ⟨k, 0, none⟩ = some (.int .u64 s'.T) ∧ w'.cell? ⟨k, 1, none⟩ = some (.int .u64 s'.I) ∧ w'.cell? ⟨k, 2, none⟩ = some (.int .u64 s'.P) ∧ w'.cell? ⟨k, 3, none⟩ = some (.string s'.sv) ∧ w'.cell? ⟨k, 4, none⟩ = some (.string s'.nm) ∧ w'.cell? ⟨k, 5, none⟩ = some (.int .i64 s'.kd) ∧ w'.cell? ⟨k, 6, none⟩ = some (.int .i64 s'.st) ∧ w'.cell? ⟨k, 7, none⟩ = some (.int .u64 s'.t0) ∧ w'.cell? ⟨k, 8, none⟩ = some (.int .u64 s'.t1) ∧ w'.cell? ⟨k, 9, none⟩ = some (.slice A' n' c'))
      (first | exact twenty_bk KA2 KB2 | exact twenty_bk KA1 KB1 | exact twenty_bk KA KB | go_keep)
      (first
        | (go_at_call 54; (with_reducible refine (hPf _ ha hb).mono ?_); rintro e v1 ⟨A3, c3, rfl, H3, B1⟩; have KA1 := KA.below B1; have KB1 := KB.below B1; have hb1 := hb.below B1)
        | (go_at_call 53; (with_reducible refine (hCm A3 c3 v1 (H3.low (Nat.zero_le _)) hb1).mono ?_); rintro e v2 ⟨rfl, B2⟩; have KA2 := KA1.below B2; have KB2 := KB1.below B2))
    rename_i hHeld
    clear hHeld
    have BV := B0.trans ((B1.trans (B2.mono B1.size)).mono B0.size)
    clear KA KB KA1 KB1 ha hb hb1 H3 B1 B2 hPf hCm B0
    obtain ⟨x0, x1, x2, x3, x4, x5, x6, x7, x8, x9⟩ := ten_cells KA2
    go_wp2
    go_returns
    exact HFin.out _ BV
end
end Go.Proofs.YtdmibolbpgondaaGreat.X15
