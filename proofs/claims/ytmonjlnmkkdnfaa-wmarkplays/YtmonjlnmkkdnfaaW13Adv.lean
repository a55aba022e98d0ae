/-
  advance of a clock: the mark goes up.
-/
import Derived.Test.YtmonjlnmkkdnfaaW13Small
set_option linter.unusedSimpArgs false
set_option linter.unusedVariables false
namespace Go.Proofs.Ytmonjlnmkkdnfaa.W13
open Go.RowKit Go.Lib Go.Proofs.Ytmonjlnmkkdnfaa.Wd

section
variable {w w' : World} {p g : Nat} {c : Cl}
/-- the least one so far, as advance keeps it -/
def lv (o : Option Nat) : Nat := o.getD 4611686018427387904
theorem lv_step (c : Cl) (k : c.Ok) {s : Nat} (hs : s < c.N) : (qt c.now c.idle (c.K s) = true → lo c.mk_ (s + 1) = lo c.mk_ s) ∧
    (qt c.now c.idle (c.K s) = false → lv (lo c.mk_ (s + 1)) = min (lv (lo c.mk_ s)) ((c.K s).1 - c.late) ∧ (lo c.mk_ (s + 1)).isSome = true) := by
  constructor
  · intro h
    have e : c.mk_ s = none := by unfold Cl.mk_; rw [h]; rfl
    show omin (lo c.mk_ s) (c.mk_ s) = _
    rw [e]
    cases lo c.mk_ s <;> rfl
  · intro h
    have e : c.mk_ s = some ((c.K s).1 - c.late) := by unfold Cl.mk_; rw [h]; rfl
    have h1 := k.end_ s hs
    have e2 : lo c.mk_ (s + 1) = omin (lo c.mk_ s) (c.mk_ s) := rfl
    rw [e2, e]
    cases lo c.mk_ s with
    | none => exact ⟨by show (c.K s).1 - c.late = min 4611686018427387904 _; omega, rfl⟩
    | some a => exact ⟨rfl, rfl⟩
theorem lv_end (c : Cl) (k : c.Ok) : (c.adv).mark = if (lo c.mk_ c.N).isSome then max c.mark (lv (lo c.mk_ c.N)) else c.mark := by
  show up c.mark (lo c.mk_ c.N) = _
  cases lo c.mk_ c.N <;> rfl
/-- what advance leaves -/
def AdOut (p g : Nat) (c : Cl) (w : World) (e : Ending) (w' : World) : Prop := e = .returned (.tuple #[]) ∧ Ck w' p g c.adv ∧ ∀ lo hi, lo ≤ p → p < hi → Fx lo hi w w'
set_option maxRecDepth 20000 in
set_option maxHeartbeats 2000000 in
theorem advance_at (h : Ck w p g c) (k : c.Ok) : Calls Try.prog 18 #[.pointer (some ⟨p, 0, none⟩)] w (AdOut p g c w) := by
  have HC := Lib.hid h
  have B0 := Lib.hid (Below.refl w.heap.size w)
  have c0 := h.c0
  have n0 := k.n0
  have n1 := k.n1
  have HK := Lib.hid k
  have HS := Lib.hid (fun s (hs : s < c.N) => lv_step c k hs)
  have HE := Lib.hid (lv_end c k)
  have hL0 := Lib.hid (show (4611686018427387904 : Int) = ((lv (lo c.mk_ 0) : Nat) : Int) from rfl)
  have hF0 := Lib.hid (show false = (lo c.mk_ 0).isSome from rfl)
  obtain ⟨N, hN⟩ : ∃ N, c.N = N := ⟨_, rfl⟩
  rw [hN] at c0 n0 n1
  have HN := Lib.hid hN
  clear h k hN
  go_enter Try.func18, Try.ntmps18
  go_wp2
  go_loopw [2, 3, 11] (fun v2 v3 v11 wr => ∃ (s : Nat), v2 = .int .u64 ((lv (lo c.mk_ s) : Nat) : Int) ∧ v3 = .bool (lo c.mk_ s).isSome ∧ v11 = .int .i64 (s : Int) ∧ s ≤ N ∧ Hid (Below w.heap.size w wr)) (fun _ _ v11 _ => N - (intOf v11).toNat)
  case atStart => exact ⟨0, by rw [← hL0.out], by rw [← hF0.out], rfl, Nat.zero_le _, B0⟩
  case round =>
    clear B0 hL0 hF0
    obtain ⟨s, rfl, rfl, rfl, hs, B⟩ := hrel
    by_cases hlt : s < N
    · have C := HC.out.below B.out
      have hsN : s < c.N := by rw [HN.out]; exact hlt
      have x0 := C.s0 s hsN
      have x1 := C.s1 s hsN
      obtain ⟨st, sf⟩ := HS.out s hsN
      have hx1 : (c.K s).2 ≤ 100000 := Nat.le_trans (HK.out.last s hsN) HK.out.now
      have hx0 := HK.out.end_ s hsN
      obtain ⟨x, hx⟩ : ∃ x, c.K s = x := ⟨_, rfl⟩
      rw [hx] at x0 x1 st sf hx1 hx0
      have bx := below_box wr (.cells #[.int .u64 (x.1 : Int), .int .u64 (x.2 : Int)] 51)
      have hq := quiet_at (C.below bx) HK.out x hx1
      have C2 := Lib.hid (C.below bx)
      have B2 := Lib.hid (B.out.trans (bx.mono B.out.size))
      have hh := heap_alloc_new wr (.cells #[.int .u64 (x.1 : Int), .int .u64 (x.2 : Int)] 51)
      have hbl : wr.heap.size < (wr.alloc (.cells #[.int .u64 (x.1 : Int), .int .u64 (x.2 : Int)] 51)).heap.size := by simp
      have z0 : (0 : Int) ≤ (s : Int) := by omega
      have z1 : ((s : Int)).toNat = s := by omega
      clear C hx bx B
      go_wp2_with fail
      refine hq.mono ?_
      rintro e w2 ⟨rfl, b2⟩
      have y0 := (b2.cell (p := ⟨wr.heap.size, 0, none⟩) hbl).trans (cell_of (i := 0) hh rfl)
      have y1 := (b2.cell (p := ⟨wr.heap.size, 1, none⟩) hbl).trans (cell_of (i := 1) hh rfl)
      have C3 := C2.out.below b2
      have B3 := B2.out.trans (b2.mono B2.out.size)
      obtain ⟨bB, hbB⟩ : ∃ bB, wr.heap.size = bB := ⟨_, rfl⟩
      rw [hbB] at y0 y1 ⊢
      have hm := markof_at C3 HK.out x hx0
      clear hq x0 x1 hh hbl C2 B2 b2 hbB C3
      cases hqt : qt c.now c.idle x with
      | true =>
        have e1 := Lib.hid (st hqt)
        have BB := Lib.hid B3
        clear hqt st sf hm y0 y1
        go_wp2
        go_roundw
        case rel => exact ⟨s + 1, by rw [e1.out], by rw [e1.out], by go_num, by omega, BB⟩
        case measure => first | go_num | (simp [intOf]; omega)
      | false =>
        have e1 := Lib.hid (sf hqt)
        have BB := Lib.hid B3
        clear hqt st sf
        go_wp2_with fail
        refine hm.mono ?_
        rintro e w3 ⟨rfl, b3⟩
        have B4 := Lib.hid (BB.out.trans (b3.mono BB.out.size))
        clear hm y0 y1 BB b3
        obtain ⟨A, hA⟩ : ∃ A, lv (lo c.mk_ s) = A := ⟨_, rfl⟩
        obtain ⟨B, hB⟩ : ∃ B, x.1 - c.late = B := ⟨_, rfl⟩
        rw [hA, hB] at e1
        rw [hA, hB]
        obtain ⟨m, hm⟩ : ∃ m, min A B = m := ⟨_, rfl⟩
        have hmi : min (A : Int) (B : Int) = (m : Int) := by omega
        rw [hm] at e1
        clear hA hB hm
        go_wp2
        go_roundw
        case rel => exact ⟨s + 1, by rw [e1.out.1]; congr 1; split <;> omega, by rw [e1.out.2], by go_num, by omega, B4⟩
        case measure => first | go_num | (simp [intOf]; omega)
    · have e : s = N := by omega
      subst e
      have C := HC.out.below B.out
      have c4 := C.c4
      have f4 := C.f4
      have h2 := HE.out
      rw [HN.out] at h2
      cases hl : (lo c.mk_ s).isSome with
      | false =>
        rw [hl] at h2
        have h3 : c.adv.mark = c.mark := h2
        have hout := Lib.hid (show AdOut p g c w (.returned (.tuple #[])) wr from ⟨rfl, C.eq (by
          have : c.adv = { c with mark := c.adv.mark } := rfl
          rw [this, h3]), fun lo hi _ _ => Fx.of B.out lo hi⟩)
        clear C h2 h3 hl
        go_wp2
        go_returns
        exact hout.out
      | true =>
        rw [hl] at h2
        have h3 : c.adv.mark = max c.mark (lv (lo c.mk_ s)) := h2
        obtain ⟨M, hM⟩ : ∃ M, lv (lo c.mk_ s) = M := ⟨_, rfl⟩
        rw [hM] at h3
        have hput : ∀ m, max c.mark M = m → AdOut p g c w (.returned (.tuple #[])) (wr.setCell ⟨p, 4, none⟩ (.int .u64 (m : Int))) := fun m hm => ⟨rfl, (C.setMark m).eq (by
          have : c.adv = { c with mark := c.adv.mark } := rfl
          rw [this, h3, hm]), fun lo hi h1 h2 => (Fx.of B.out lo hi).trans (Fx.setCell _ _ _ h1 h2)⟩
        rw [hM]
        by_cases hcm : c.mark < M
        · have hout := Lib.hid (hput M (by omega))
          clear C h2 h3 hl hM B HE HC HS HN hput
          go_wp2
          go_returns
          exact hout.out
        · have hout := Lib.hid (hput c.mark (by omega))
          clear C h2 h3 hl hM B HE HC HS HN hput
          go_wp2
          go_returns
          exact hout.out
end
end Go.Proofs.Ytmonjlnmkkdnfaa.W13
