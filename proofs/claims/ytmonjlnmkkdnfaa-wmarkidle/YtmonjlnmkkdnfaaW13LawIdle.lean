/-
  The walk of WmarkIdle.
-/
import Derived.Test.YtmonjlnmkkdnfaaW13Cw
set_option linter.unusedSimpArgs false
set_option linter.unusedVariables false
namespace Go.Proofs.Ytmonjlnmkkdnfaa.W13
open Go.RowKit Go.Lib Go.Proofs.Ytmonjlnmkkdnfaa.Wd

theorem mark_two {c : Cl} (h : c.N = 2) : c.adv.mark = up c.mark (omin (c.mk_ 0) (c.mk_ 1)) := by
  show up c.mark (lo c.mk_ c.N) = _
  rw [h]
  rfl
theorem mk_t {c : Cl} {s : Nat} (h : c.idle ≠ 0 ∧ (c.K s).2 + c.idle ≤ c.now) : c.mk_ s = none := by unfold Cl.mk_; rw [qt_true.2 h]; rfl
theorem mk_f {c : Cl} {s : Nat} (h : ¬ (c.idle ≠ 0 ∧ (c.K s).2 + c.idle ≤ c.now)) : c.mk_ s = some ((c.K s).1 - c.late) := by unfold Cl.mk_; rw [qt_false h]; rfl
/-- ahead of round j: of two sources 0 has said e (or nothing), 1 nothing -/
structure Iv (n l e j : Nat) (c : Cl) : Prop where
  N : c.N = 2
  late : c.late = l
  idle : c.idle = n
  now : c.now = j
  mark0 : j < n → c.mark = 0
  mark : c.mark ≤ e - l
  k0 : (c.K 0).1 ≤ e
  k1 : c.K 1 = (0, 0)
theorem Iv.init (n l e : Nat) : Iv n l e 0 (Cl.init 2 l n) := ⟨rfl, rfl, rfl, rfl, fun _ => rfl, Nat.zero_le _, Nat.zero_le _, rfl⟩
theorem said0 (c : Cl) (e : Nat) (h : (c.K 0).1 ≤ e) : (c.said 0 e).K 0 = (e, c.now) ∧ (c.said 0 e).K 1 = c.K 1 := by
  constructor
  · show up1 c.K 0 (max (c.K 0).1 e, c.now) 0 = _
    rw [up1_same, Nat.max_eq_right h]
  · exact up1_other c.K (k := 1) (i := 0) (max (c.K 0).1 e, c.now) (by omega)
section
variable {n l e j : Nat} {c : Cl}
theorem Iv.see (h : Iv n l e j c) (hj : j < n) : Iv n l e j (c.see 0 e) ∧ ((c.see 0 e).K 0).2 = j ∧ (c.see 0 e).mark = 0 := by
  obtain ⟨s0, s1⟩ := said0 c e h.k0
  have m1 : (c.said 0 e).mk_ 1 = some 0 := by
    rw [mk_f (by rw [s1, h.k1]; show ¬ (c.idle ≠ 0 ∧ 0 + c.idle ≤ c.now); rw [h.idle, h.now]; omega), s1, h.k1]
    simp
  have hm : (c.see 0 e).mark = 0 := by
    show (c.said 0 e).adv.mark = 0
    rw [mark_two (show (c.said 0 e).N = 2 from h.N), m1]
    show up c.mark _ = 0
    rw [h.mark0 hj]
    cases (c.said 0 e).mk_ 0 with
    | none => rfl
    | some a => show max 0 (min a 0) = 0; omega
  have e0 : (c.see 0 e).K 0 = (e, c.now) := s0
  refine ⟨⟨h.N, h.late, h.idle, h.now, fun _ => hm, by rw [hm]; omega, by rw [e0]; exact Nat.le_refl _, s1.trans h.k1⟩, by rw [e0]; exact h.now, hm⟩
theorem Iv.tick (h : Iv n l e j c) (hj : j < n) (hl : (c.K 0).2 = j) : Iv n l e (j + 1) c.tick := by
  have hm := h.mark0 hj
  have hN : ({ c with now := c.now + 1 } : Cl).N = 2 := h.N
  have hk : c.tick.mark = up 0 (omin (({ c with now := c.now + 1 } : Cl).mk_ 0) (({ c with now := c.now + 1 } : Cl).mk_ 1)) := by
    show ({ c with now := c.now + 1 } : Cl).adv.mark = _
    rw [mark_two hN]
    show up c.mark _ = _
    rw [hm]
  have h0 : ∀ a, ({ c with now := c.now + 1 } : Cl).mk_ 0 = some a → a ≤ e - l := fun a ha => by
    unfold Cl.mk_ at ha
    split at ha
    · cases ha
    · injection ha with ha
      have h1 : (c.K 0).1 - c.late = a := ha
      have := h.k0
      have := h.late
      omega
  by_cases hj2 : j + 1 < n
  · have m1 : ({ c with now := c.now + 1 } : Cl).mk_ 1 = some 0 := by
      rw [mk_f (by show ¬ (c.idle ≠ 0 ∧ (c.K 1).2 + c.idle ≤ c.now + 1); rw [h.k1, h.idle, h.now]; show ¬ (n ≠ 0 ∧ 0 + n ≤ j + 1); omega)]
      show some ((c.K 1).1 - c.late) = _
      rw [h.k1]
      simp
    have hz : c.tick.mark = 0 := by
      rw [hk, m1]
      cases ({ c with now := c.now + 1 } : Cl).mk_ 0 with
      | none => rfl
      | some a => show max 0 (min a 0) = 0; omega
    exact ⟨h.N, h.late, h.idle, by show c.now + 1 = _; rw [h.now], fun _ => hz, by rw [hz]; omega, h.k0, h.k1⟩
  · have m1 : ({ c with now := c.now + 1 } : Cl).mk_ 1 = none := by
      rw [mk_t (by show (c.idle ≠ 0 ∧ (c.K 1).2 + c.idle ≤ c.now + 1); rw [h.k1, h.idle, h.now]; show (n ≠ 0 ∧ 0 + n ≤ j + 1); omega)]
    have hz : c.tick.mark ≤ e - l := by
      rw [hk, m1]
      cases ha : ({ c with now := c.now + 1 } : Cl).mk_ 0 with
      | none => exact Nat.zero_le _
      | some a => show max 0 a ≤ _; have := h0 a ha; omega
    exact ⟨h.N, h.late, h.idle, by show c.now + 1 = _; rw [h.now], fun h => absurd h hj2, hz, h.k0, h.k1⟩
/-- behind the loop -/
theorem Iv.last (h : Iv n l e n c) (hn : 0 < n) : (c.see 0 e).mark = e - l ∧ qt (c.see 0 e).now (c.see 0 e).idle ((c.see 0 e).K 1) = true ∧ qt (c.see 0 e).now (c.see 0 e).idle ((c.see 0 e).K 0) = false ∧ (c.see 0 e).now = n ∧
    ((c.see 0 e).see 1 0).mark = e - l ∧ qt ((c.see 0 e).see 1 0).now ((c.see 0 e).see 1 0).idle (((c.see 0 e).see 1 0).K 1) = false := by
  obtain ⟨s0, s1⟩ := said0 c e h.k0
  have m0 : (c.said 0 e).mk_ 0 = some (e - l) := by
    rw [mk_f (by rw [s0]; show ¬ (c.idle ≠ 0 ∧ c.now + c.idle ≤ c.now); rw [h.idle]; omega), s0]
    show some (e - c.late) = _
    rw [h.late]
  have m1 : (c.said 0 e).mk_ 1 = none := mk_t (by rw [s1, h.k1]; show (c.idle ≠ 0 ∧ 0 + c.idle ≤ c.now); rw [h.idle, h.now]; omega)
  have hm : (c.see 0 e).mark = e - l := by
    show (c.said 0 e).adv.mark = _
    rw [mark_two (show (c.said 0 e).N = 2 from h.N), m0, m1]
    show max c.mark (e - l) = _
    have := h.mark
    omega
  have e0 : (c.see 0 e).K 0 = (e, c.now) := s0
  have e1 : (c.see 0 e).K 1 = (0, 0) := s1.trans h.k1
  have en : (c.see 0 e).now = n := h.now
  have ei : (c.see 0 e).idle = n := h.idle
  have f1 : ((c.see 0 e).said 1 0).K 1 = (0, n) := by
    show up1 (c.see 0 e).K 1 (max ((c.see 0 e).K 1).1 0, (c.see 0 e).now) 1 = _
    rw [up1_same, e1, en]
    rfl
  have f0 : ((c.see 0 e).said 1 0).K 0 = (e, n) := by
    show up1 (c.see 0 e).K 1 (max ((c.see 0 e).K 1).1 0, (c.see 0 e).now) 0 = _
    rw [up1_other _ _ (by omega), e0, h.now]
  refine ⟨hm, qt_true.2 ⟨by rw [ei]; omega, by rw [e1, ei, en]; omega⟩, qt_false (by rw [e0, ei, en, h.now]; show ¬ (n ≠ 0 ∧ n + n ≤ n); omega), en, ?_, ?_⟩
  · show ((c.see 0 e).said 1 0).adv.mark = _
    rw [mark_two (show ((c.see 0 e).said 1 0).N = 2 from h.N)]
    have a0 : ((c.see 0 e).said 1 0).mk_ 0 = some (e - l) := by
      rw [mk_f (by rw [f0]; show ¬ ((c.see 0 e).idle ≠ 0 ∧ n + (c.see 0 e).idle ≤ (c.see 0 e).now); rw [ei, en]; omega), f0]
      show some (e - c.late) = _
      rw [h.late]
    have a1 : ((c.see 0 e).said 1 0).mk_ 1 = some 0 := by
      rw [mk_f (by rw [f1]; show ¬ ((c.see 0 e).idle ≠ 0 ∧ n + (c.see 0 e).idle ≤ (c.see 0 e).now); rw [ei, en]; omega), f1]
      simp
    rw [a0, a1]
    show max (c.see 0 e).mark (min (e - l) 0) = _
    rw [hm]
    omega
  · have g1 : ((c.see 0 e).see 1 0).K 1 = (0, n) := f1
    exact qt_false (by rw [g1]; show ¬ ((c.see 0 e).idle ≠ 0 ∧ n + (c.see 0 e).idle ≤ (c.see 0 e).now); rw [ei, en]; omega)
end
set_option maxRecDepth 20000 in
set_option maxHeartbeats 2000000 in
theorem idle_law (d e l : Nat) (w : World) (hd : d ≤ 255) (he : e ≤ 4294967295) (hl : l ≤ 65535) :
    Calls Try.prog 7 #[.int .u8 (d : Int), .int .u32 (e : Int), .int .u16 (l : Int)] w fun r w' => r = .returned (.bool true) ∧ Below w.heap.size w w' := by
  go_enter Try.func7, Try.ntmps7
  go_wp2_with fail
  refine (alive_any _).mono ?_
  rintro r w1 ⟨rfl, b0⟩
  obtain ⟨n, hn⟩ : ∃ n, 1 + d = n := ⟨_, rfl⟩
  have hnw : IntKind.u64.wrap (1 + (d : Int)) = (n : Int) := by rw [IntWalk.u64_in _ (by omega)]; omega
  have hR : Rt (2 : Int) l n := by unfold Rt; omega
  have hnew := new_right 2 l n w1 (by unfold Rt; omega)
  have hn1 : 0 < n := by omega
  have hn2 : n ≤ 256 := by omega
  clear hn
  go_wp2_with fail
  refine hnew.mono ?_
  rintro r w2 ⟨p, rfl, C, b1⟩
  have C0 := Lib.hid (Cw.new b0 C (Nat.le_refl _) b1)
  have I0 := Lib.hid (Iv.init n l e)
  clear hnew b0 b1 C hR
  go_wp2
  go_loopw [10] (fun v wr => ∃ (j : Nat) (c : Cl), v = .int .u64 (j : Int) ∧ j ≤ n ∧ Hid (Cw w wr p c) ∧ Hid (Iv n l e j c)) (fun v _ => n - (intOf v).toNat)
  case atStart => exact ⟨0, _, rfl, Nat.zero_le _, C0, I0⟩
  case round =>
    clear C0 I0
    obtain ⟨j, c, rfl, hj, C, I⟩ := hrel
    by_cases hlt : j < n
    · obtain ⟨I1, hl, hm0⟩ := I.out.see hlt
      have I2 := Lib.hid (I1.tick hlt hl)
      have hs := C.out.see 0 e (by rw [I.out.N]; omega) (by omega)
      have hN : (c.see 0 e).N = 2 := I1.N
      have hq : qt (c.see 0 e).now (c.see 0 e).idle ((c.see 0 e).K 1) = false := qt_false (by rw [I1.k1, I1.idle, I1.now]; show ¬ (n ≠ 0 ∧ 0 + n ≤ j); omega)
      have hnow : (c.see 0 e).now < 100000 := by rw [I1.now]; omega
      clear I C hl I1
      generalize c.see 0 e = d at *
      go_wp2_with fail
      refine hs.mono ?_
      rintro r w3 ⟨rfl, C⟩
      have hm := C.mark 0 hm0
      have hi := C.idle 1 false (by rw [hN]; omega) hq
      clear hs
      go_wp2_with fail
      refine hm.mono ?_
      rintro r w4 ⟨rfl, rfl⟩
      clear hm
      go_wp2_with fail
      refine hi.mono ?_
      rintro r w4 ⟨rfl, C2⟩
      have ht := C2.tick hnow
      clear hi C C2
      go_wp2_with fail
      refine ht.mono ?_
      rintro r w5 ⟨rfl, C3⟩
      have C4 := Lib.hid C3
      have hw : IntKind.u64.wrap ((j : Int) + 1) = (j : Int) + 1 := IntWalk.u64_in _ (by omega)
      clear ht C3
      go_wp2
      go_roundw
      case rel => exact ⟨j + 1, _, by go_num, by omega, C4, I2⟩
      case measure => first | go_num | (simp [intOf]; omega)
    · have e1 : j = n := by omega
      subst e1
      obtain ⟨m1, q1, q0, hnow, m2, q2⟩ := I.out.last hn1
      have hs := C.out.see 0 e (by rw [I.out.N]; omega) (by omega)
      have hN : (c.see 0 e).N = 2 := I.out.N
      have hM2 := Lib.hid m2
      have hQ2 := Lib.hid q2
      clear m2 q2 I C
      generalize c.see 0 e = d at *
      go_wp2_with fail
      refine hs.mono ?_
      rintro r w3 ⟨rfl, C⟩
      have h1 := C.idle 1 true (by rw [hN]; omega) q1
      clear hs q1
      obtain ⟨wt, hwt⟩ : ∃ m, e - l = m := ⟨_, rfl⟩
      rw [hwt] at m1 hM2
      by_cases hle : (l : Int) < (e : Int)
      · have hw : IntKind.u64.wrap ((e : Int) - (l : Int)) = (wt : Int) := by rw [IntWalk.u64_in _ (by omega)]; omega
        clear hwt
        go_wp2_with fail
        refine h1.mono ?_
        rintro r w4 ⟨rfl, C4⟩
        have h2 := C4.idle 0 false (by rw [hN]; omega) q0
        clear h1 q0 C
        go_wp2_with fail
        refine h2.mono ?_
        rintro r w5 ⟨rfl, C5⟩
        have h3 := C5.mark wt m1
        have h4 := C5.now _ hnow
        have h5 := C5.see 1 0 (by rw [hN]; omega) (by omega)
        clear h2 C4 C5 m1 hnow
        go_wp2_with fail
        refine h3.mono ?_
        rintro r w6 ⟨rfl, rfl⟩
        go_wp2_with fail
        refine h4.mono ?_
        rintro r w6 ⟨rfl, rfl⟩
        clear h3 h4
        go_wp2_with fail
        refine h5.mono ?_
        rintro r w6 ⟨rfl, C6⟩
        have h6 := C6.idle 1 false (by show 1 < d.N; rw [hN]; omega) hQ2.out
        clear h5 C6
        go_wp2_with fail
        refine h6.mono ?_
        rintro r w7 ⟨rfl, C7⟩
        have h7 := C7.mark wt hM2.out
        have hb := C7.bel
        clear h6 C7
        go_wp2_with fail
        refine h7.mono ?_
        rintro r w8 ⟨rfl, rfl⟩
        clear h7
        go_wp2
        go_ret
        exact ⟨rfl, hb⟩
      · have hw0 : wt = 0 := by omega
        subst hw0
        clear hwt
        go_wp2_with fail
        refine h1.mono ?_
        rintro r w4 ⟨rfl, C4⟩
        have h2 := C4.idle 0 false (by rw [hN]; omega) q0
        clear h1 q0 C
        go_wp2_with fail
        refine h2.mono ?_
        rintro r w5 ⟨rfl, C5⟩
        have h3 := C5.mark 0 m1
        have h4 := C5.now _ hnow
        have h5 := C5.see 1 0 (by rw [hN]; omega) (by omega)
        clear h2 C4 C5 m1 hnow
        go_wp2_with fail
        refine h3.mono ?_
        rintro r w6 ⟨rfl, rfl⟩
        go_wp2_with fail
        refine h4.mono ?_
        rintro r w6 ⟨rfl, rfl⟩
        clear h3 h4
        go_wp2_with fail
        refine h5.mono ?_
        rintro r w6 ⟨rfl, C6⟩
        have h6 := C6.idle 1 false (by show 1 < d.N; rw [hN]; omega) hQ2.out
        clear h5 C6
        go_wp2_with fail
        refine h6.mono ?_
        rintro r w7 ⟨rfl, C7⟩
        have h7 := C7.mark 0 hM2.out
        have hb := C7.bel
        clear h6 C7
        go_wp2_with fail
        refine h7.mono ?_
        rintro r w8 ⟨rfl, rfl⟩
        clear h7
        go_wp2
        go_ret
        exact ⟨rfl, hb⟩
end Go.Proofs.Ytmonjlnmkkdnfaa.W13
