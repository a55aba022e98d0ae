/-
  See, Tick, Idle of a clock.
-/
import Derived.Test.YtmonjlnmkkdnfaaW13Adv
set_option linter.unusedSimpArgs false
set_option linter.unusedVariables false
namespace Go.Proofs.Ytmonjlnmkkdnfaa.W13
open Go.RowKit Go.Lib Go.Proofs.Ytmonjlnmkkdnfaa.Wd

section
variable {w w' : World} {p g lo hi : Nat} {c : Cl}
/-- what a call leaves of a clock -/
def CiOut (p lo hi : Nat) (c : Cl) (w : World) (e : Ending) (w' : World) : Prop := e = .returned (.int .i64 0) ∧ Ci w' p lo hi c ∧ Fx lo hi w w'
theorem ck_in (h : Ck w p g c) {s : Nat} (hs : s < c.N) (e : Nat) : Ck ((w.setCell ⟨g, s * 2, none⟩ (.int .u64 ((max (c.K s).1 e : Nat) : Int))).setCell ⟨g, s * 2 + 1, none⟩ (.int .u64 (c.now : Int))) p g (c.said s e) := by
  have h1 := h.setEnd hs (max (c.K s).1 e)
  have h2 := h1.setLast (s := s) hs c.now
  refine h2.eq ?_
  unfold Cl.said
  simp only [Cl.mk.injEq, true_and]
  funext k
  show up1 (up1 c.K s (max (c.K s).1 e, (c.K s).2)) s ((up1 c.K s (max (c.K s).1 e, (c.K s).2) s).1, c.now) k = up1 c.K s (max (c.K s).1 e, c.now) k
  by_cases q : k = s
  · subst q
    rw [up1_same, up1_same, up1_same]
  · rw [up1_other _ _ q, up1_other _ _ q, up1_other _ _ q]
set_option maxRecDepth 20000 in
set_option maxHeartbeats 2000000 in
theorem see_at (s e : Nat) (h0 : Ci w p lo hi c) (hs : s < c.N) (he : e ≤ 4611686018427387904) :
    Calls Try.prog 11 #[.pointer (some ⟨p, 0, none⟩), .int .i64 (s : Int), .int .u64 (e : Int)] w (CiOut p lo hi (c.see s e) w) := by
  obtain ⟨g, h, k, b1, b2, b3, b4⟩ := h0
  have hh := has_at h (s : Int)
  have hi_ : isS c (s : Int) = true := by unfold isS; exact decide_eq_true ⟨by omega, by omega⟩
  rw [hi_] at hh
  have c0 := h.c0
  have c3 := h.c3
  have x0 := h.s0 s hs
  have x1 := h.s1 s hs
  have f0 := h.f0 s hs
  have f1 := h.f1 s hs
  have hk := k.end_ s hs
  have hN := k.n1
  have hput := ck_in h hs e
  have hF : Fx lo hi w ((w.setCell ⟨g, s * 2, none⟩ (.int .u64 ((max (c.K s).1 e : Nat) : Int))).setCell ⟨g, s * 2 + 1, none⟩ (.int .u64 (c.now : Int))) := (Fx.setCell _ _ _ b3 b4).trans (Fx.setCell _ _ _ b3 b4)
  have k2 := k.said s e he
  have hne := h.ne
  obtain ⟨m, hm⟩ : ∃ m, max (c.K s).1 e = m := ⟨_, rfl⟩
  rw [hm] at hput hF
  have HA := Lib.hid (advance_at hput k2)
  have HF := Lib.hid hF
  have y0 : (0 : Int) ≤ (s : Int) := by omega
  have y1 : ((s : Int)).toNat = s := by omega
  have HS := Lib.hid hs
  obtain ⟨N, hN2⟩ : ∃ N, c.N = N := ⟨_, rfl⟩
  rw [hN2] at c0 hs
  have K2 := Lib.hid k2
  obtain ⟨x, hx⟩ : ∃ x, c.K s = x := ⟨_, rfl⟩
  rw [hx] at x0 x1 hm hk
  have he2 : ¬ (4611686018427387904 : Int) < (e : Int) := by omega
  have hc3 : ∀ v, (w.setCell ⟨g, s * 2, none⟩ v).cell? ⟨p, 3, none⟩ = some (.int .u64 (c.now : Int)) := fun v => cell_set_other v c3 (addr_ne (.inl (Ne.symm hne)))
  clear hput hF k2 hi_ h k hx hN2
  by_cases hxe : x.1 < e
  · have e1 : m = e := by omega
    rw [e1] at HA HF
    clear e1
    go_enter Try.func11, Try.ntmps11
    go_wp2_with fail
    refine hh.mono ?_
    rintro e' w1 ⟨rfl, rfl⟩
    clear hh hm
    go_wp2_with fail
    refine HA.out.mono ?_
    rintro e' w2 ⟨rfl, C2, F2⟩
    have hout := Lib.hid (show CiOut p lo hi (c.see s e) w (.returned (.int .i64 0)) w2 from ⟨rfl, ⟨g, C2, K2.out.adv, b1, b2, b3, b4⟩, HF.out.trans (F2 lo hi b1 b2)⟩)
    clear C2 F2 HA HF hc3 c3
    go_wp2
    go_ret
    exact hout.out
  · have e1 : m = x.1 := by omega
    rw [e1] at HA HF
    clear e1
    go_enter Try.func11, Try.ntmps11
    go_wp2_with fail
    refine hh.mono ?_
    rintro e' w1 ⟨rfl, rfl⟩
    clear hh hm
    go_wp2_with fail
    refine HA.out.mono ?_
    rintro e' w2 ⟨rfl, C2, F2⟩
    have hout := Lib.hid (show CiOut p lo hi (c.see s e) w (.returned (.int .i64 0)) w2 from ⟨rfl, ⟨g, C2, K2.out.adv, b1, b2, b3, b4⟩, HF.out.trans (F2 lo hi b1 b2)⟩)
    clear C2 F2 HA HF hc3 c3
    go_wp2
    go_ret
    exact hout.out
set_option maxRecDepth 20000 in
/-- what isn't a source, or too great an end -/
theorem see_wrong (s : Int) (e : Nat) (h0 : Ci w p lo hi c) (h : isS c s = false ∨ 4611686018427387904 < e) :
    Calls Try.prog 11 #[.pointer (some ⟨p, 0, none⟩), .int .i64 s, .int .u64 (e : Int)] w fun e' w' => e' = .returned (.int .i64 1) ∧ w = w' := by
  obtain ⟨g, h1, k, _⟩ := h0
  have hh := has_at h1 s
  clear h1 k
  cases hb : isS c s with
  | false =>
    rw [hb] at hh
    clear h hb
    go_enter Try.func11, Try.ntmps11
    go_wp2_with fail
    refine hh.mono ?_
    rintro e' w1 ⟨rfl, rfl⟩
    clear hh
    go_wp2
    go_ret
    exact ⟨rfl, rfl⟩
  | true =>
    rw [hb] at hh h
    have he : (4611686018427387904 : Int) < (e : Int) := by
      rcases h with h | h
      · cases h
      · omega
    clear h hb
    go_enter Try.func11, Try.ntmps11
    go_wp2_with fail
    refine hh.mono ?_
    rintro e' w1 ⟨rfl, rfl⟩
    clear hh
    go_wp2
    go_ret
    exact ⟨rfl, rfl⟩
set_option maxRecDepth 20000 in
theorem tick_at (h0 : Ci w p lo hi c) (hn : c.now < 100000) : Calls Try.prog 10 #[.pointer (some ⟨p, 0, none⟩)] w (CiOut p lo hi c.tick w) := by
  obtain ⟨g, h, k, b1, b2, b3, b4⟩ := h0
  have c3 := h.c3
  have f3 := h.f3
  have hput := h.setNow (c.now + 1)
  have k2 := k.ticked hn
  have HF := Lib.hid (Fx.setCell (lo := lo) (hi := hi) w ⟨p, 3, none⟩ (.int .u64 ((c.now + 1 : Nat) : Int)) b1 b2)
  have HA := Lib.hid (advance_at hput k2)
  have K2 := Lib.hid k2
  have hw : IntKind.u64.wrap ((c.now : Int) + 1) = ((c.now + 1 : Nat) : Int) := IntWalk.u64_in _ (by omega)
  clear hput k2 h k
  go_enter Try.func10, Try.ntmps10
  go_wp2_with fail
  refine HA.out.mono ?_
  rintro e' w2 ⟨rfl, C2, F2⟩
  have hout := Lib.hid (show CiOut p lo hi c.tick w (.returned (.int .i64 0)) w2 from ⟨rfl, ⟨g, C2, K2.out.adv, b1, b2, b3, b4⟩, HF.out.trans (F2 lo hi b1 b2)⟩)
  clear C2 F2 HA HF c3 f3
  go_wp2
  go_ret
  exact hout.out
end
end Go.Proofs.Ytmonjlnmkkdnfaa.W13
