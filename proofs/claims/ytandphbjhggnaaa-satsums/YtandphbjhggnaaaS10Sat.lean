/-
  sat.Add, Join, Right, Sum.
-/
import Derived.Test.YtandphbjhggnaaaS10Cnt
set_option linter.unusedSimpArgs false
set_option linter.unusedVariables false
namespace Go.Proofs.Ytandphbjhggnaaa.S10
open Go.RowKit Go.Lib Go.Proofs.Ytandphbjhggnaaa.Wd

theorem full_at (w : World) : Calls Try.prog 14 #[] w fun e w' => e = .returned (ct 9223372036854775807 true) ∧ Below w.heap.size w w' := by
  go_enter Try.func14, Try.ntmps14
  go_wp2
  go_returns
  exact ⟨rfl, by go_grown⟩
/-- a block behind two others -/
theorem second {B : Nat} {W W' : World} {n : Int} {f : Bool} (h : W.heap.size = B) (hb : Below (B + 1) (W.alloc (.cells (cb n f) 28)) W') : Cb W' B n f := by
  have k := Cb.new W n f
  rw [h] at k
  unfold Cb
  rw [hb.block B (by omega)]
  exact k
set_option maxRecDepth 20000 in
theorem add_at (S n m n' : Int) (f f' : Bool) (w : World) (h : Is S n f) (m0 : 0 ≤ m) (m1 : m ≤ 18446744073709551615) (h' : Is (S + m) n' f') :
    Calls Try.prog 12 #[ct n f, .int .u64 m] w fun e w' => e = .returned (ct n' f') ∧ Below w.heap.size w w' := by
  have n0 := h.low
  have n1 := h.max
  cases f with
  | true =>
    obtain ⟨e1, e2⟩ := h.great rfl
    obtain ⟨q1, q2⟩ := h'.over (by omega)
    subst q1 q2
    clear h h' e2
    go_enter Try.func12, Try.ntmps12
    go_wp2_with fail
    refine (full_at _).mono ?_
    rintro e w1 ⟨rfl, b1⟩
    have C : Cb w1 (w.heap.size + 1) 0 false := second (by simp) (b1.mono (by simp))
    have b0 : Below w.heap.size w w1 := Below.trans (by go_grown) (b1.mono (by simp; omega))
    have c0 := C.c0
    have c1 := C.c1
    have f0 := C.f0
    have f1 := C.f1
    have C2 := C.put 9223372036854775807 true
    have b2 := below_put b0 (g := w.heap.size + 1) (by omega) 9223372036854775807 true
    clear b1 C b0
    go_wp2
    unfold S10.put at C2 b2
    generalize (w1.setCell ⟨w.heap.size + 1, 0, none⟩ (.int .u64 9223372036854775807)).setCell ⟨w.heap.size + 1, 1, none⟩ (.bool true) = W at *
    clear c0 c1 f0 f1
    have c0 := C2.c0
    have c1 := C2.c1
    (try simp only [Exit.inBlock, Exit.then])
    refine bodyPost_ret (by simp [results, Try.results12, go_sem, c0, c1]; try rfl) rfl ?_
    exact ⟨rfl, b2⟩
  | false =>
    have e1 := h.small rfl
    subst e1
    by_cases k : 9223372036854775807 - n < m
    · obtain ⟨q1, q2⟩ := h'.over (by omega)
      subst q1 q2
      clear h h'
      have k1 : IntKind.u64.wrap (9223372036854775807 - n) = 9223372036854775807 - n := IntWalk.u64_in _ (by omega)
      have k2 : ¬ (9223372036854775807 < n) := by omega
      go_enter Try.func12, Try.ntmps12
      go_wp2_with fail
      refine (full_at _).mono ?_
      rintro e w1 ⟨rfl, b1⟩
      have C : Cb w1 (w.heap.size + 1) 0 false := second (by simp) (b1.mono (by simp))
      have b0 : Below w.heap.size w w1 := Below.trans (by go_grown) (b1.mono (by simp; omega))
      have c0 := C.c0
      have c1 := C.c1
      have f0 := C.f0
      have f1 := C.f1
      have C2 := C.put 9223372036854775807 true
      have b2 := below_put b0 (g := w.heap.size + 1) (by omega) 9223372036854775807 true
      clear b1 C b0
      go_wp2
      unfold S10.put at C2 b2
      generalize (w1.setCell ⟨w.heap.size + 1, 0, none⟩ (.int .u64 9223372036854775807)).setCell ⟨w.heap.size + 1, 1, none⟩ (.bool true) = W at *
      clear c0 c1 f0 f1
      have c0 := C2.c0
      have c1 := C2.c1
      (try simp only [Exit.inBlock, Exit.then])
      refine bodyPost_ret (by simp [results, Try.results12, go_sem, c0, c1]; try rfl) rfl ?_
      exact ⟨rfl, b2⟩
    · obtain ⟨q1, q2⟩ := h'.under (by omega)
      subst q1 q2
      clear h h'
      have k1 : IntKind.u64.wrap (9223372036854775807 - n) = 9223372036854775807 - n := IntWalk.u64_in _ (by omega)
      have k2 : ¬ (9223372036854775807 < n) := by omega
      have k3 : IntKind.u64.wrap (n + m) = n + m := IntWalk.u64_in _ (by omega)
      go_enter Try.func12, Try.ntmps12
      go_wp2
      go_returns
      exact ⟨rfl, by go_grown⟩
set_option maxRecDepth 20000 in
theorem join_at (S T n m n' : Int) (f g f' : Bool) (w : World) (h : Is S n f) (k : Is T m g) (h' : Is (S + T) n' f') :
    Calls Try.prog 10 #[ct n f, ct m g] w fun e w' => e = .returned (ct n' f') ∧ Below w.heap.size w w' := by
  have s0 := h.pos
  have n0 := h.low
  have n1 := h.max
  have m0 := k.low
  have m1 := k.max
  cases g with
  | true =>
    obtain ⟨e1, e2⟩ := k.great rfl
    obtain ⟨q1, q2⟩ := h'.over (by omega)
    subst q1 q2
    clear h h' e2 k s0
    go_enter Try.func10, Try.ntmps10
    go_wp2_with fail
    refine (full_at _).mono ?_
    rintro e w1 ⟨rfl, b1⟩
    have C : Cb w1 (w.heap.size + 1 + 1) 0 false := second (by simp) (b1.mono (by simp))
    have b0 : Below w.heap.size w w1 := Below.trans (by go_grown) (b1.mono (by simp; omega))
    have c0 := C.c0
    have c1 := C.c1
    have f0 := C.f0
    have f1 := C.f1
    have C2 := C.put 9223372036854775807 true
    have b2 := below_put b0 (g := w.heap.size + 1 + 1) (by omega) 9223372036854775807 true
    clear b1 C b0
    go_wp2
    unfold S10.put at C2 b2
    generalize (w1.setCell ⟨w.heap.size + 1 + 1, 0, none⟩ (.int .u64 9223372036854775807)).setCell ⟨w.heap.size + 1 + 1, 1, none⟩ (.bool true) = W at *
    clear c0 c1 f0 f1
    have c0 := C2.c0
    have c1 := C2.c1
    (try simp only [Exit.inBlock, Exit.then])
    refine bodyPost_ret (by simp [results, Try.results10, go_sem, c0, c1]; try rfl) rfl ?_
    exact ⟨rfl, b2⟩
  | false =>
    have e1 := k.small rfl
    subst e1
    have hA := fun W => add_at S n m n' f f' W h m0 (by omega) h'
    clear h h' k s0
    go_enter Try.func10, Try.ntmps10
    go_wp2_with fail
    refine (hA _).mono ?_
    rintro e w1 ⟨rfl, b1⟩
    have C : Cb w1 (w.heap.size + 1 + 1) 0 false := second (by simp) (b1.mono (by simp))
    have b0 : Below w.heap.size w w1 := Below.trans (by go_grown) (b1.mono (by simp; omega))
    have c0 := C.c0
    have c1 := C.c1
    have f0 := C.f0
    have f1 := C.f1
    have C2 := C.put n' f'
    have b2 := below_put b0 (g := w.heap.size + 1 + 1) (by omega) n' f'
    clear b1 C b0 hA
    go_wp2
    unfold S10.put at C2 b2
    generalize (w1.setCell ⟨w.heap.size + 1 + 1, 0, none⟩ (.int .u64 n')).setCell ⟨w.heap.size + 1 + 1, 1, none⟩ (.bool f') = W at *
    clear c0 c1 f0 f1
    have c0 := C2.c0
    have c1 := C2.c1
    (try simp only [Exit.inBlock, Exit.then])
    refine bodyPost_ret (by simp [results, Try.results10, go_sem, c0, c1]; try rfl) rfl ?_
    exact ⟨rfl, b2⟩

/-- may it be? -/
def right (n : Int) (f : Bool) : Bool := if f then n == 9223372036854775807 else decide (n ≤ 9223372036854775807)
theorem Is.right {S n : Int} {f : Bool} (h : Is S n f) : right n f = true := by
  have := h.max
  unfold S10.right
  cases f
  · simp; omega
  · simp [(h.great rfl).1]
/-- a count that may be is that of a sum -/
theorem Is.of_right {n : Int} {f : Bool} (h0 : 0 ≤ n) (h : S10.right n f = true) : Is (if f then n + 1 else n) n f := by
  unfold S10.right at h
  cases f
  · simp at h
    exact ⟨by simpa using h0, h0, h, fun _ => rfl, fun e => by cases e⟩
  · simp at h
    subst h
    exact ⟨by simp, by omega, by omega, (fun e => by cases e), fun _ => ⟨rfl, by simp⟩⟩
set_option maxRecDepth 20000 in
theorem right_at (n : Int) (f b : Bool) (w : World) (h : S10.right n f = b) :
    Calls Try.prog 11 #[ct n f] w fun e w' => e = .returned (.bool b) ∧ Below w.heap.size w w' := by
  have H := Lib.hid h
  unfold S10.right at H
  clear h
  cases f with
  | true =>
    go_enter Try.func11, Try.ntmps11
    go_wp2
    go_ret
    exact ⟨ret_b (by rw [← H.out]; simp), by go_grown⟩
  | false =>
    go_enter Try.func11, Try.ntmps11
    go_wp2
    go_ret
    exact ⟨ret_b (by rw [← H.out]; simp), by go_grown⟩

set_option maxRecDepth 20000 in
set_option maxHeartbeats 1000000 in
theorem sum_at (A : Option Addr) (c N : Nat) (l : List Nat) (n : Int) (f : Bool) (w : World) (ha : Us w A c l) (hN : l.length = N) (h : Is (tot l) n f) :
    Calls Try.prog 9 #[.slice A N c] w fun e w' => e = .returned (ct n f) ∧ Below w.heap.size w w' := by
  have hmx : N ≤ 9223372036854775807 := by have := ha.1.cap; have := ha.1.max; unfold maxLen at this; omega
  have b0 : Below w.heap.size w ((w.alloc (.cells (cb 0 false) 28)).alloc (.cells (cb 0 false) 28)) := by go_grown
  have C0 : Cb ((w.alloc (.cells (cb 0 false) 28)).alloc (.cells (cb 0 false) 28)) w.heap.size 0 false := (Cb.new w 0 false).old _
  have C1 : Cb ((w.alloc (.cells (cb 0 false) 28)).alloc (.cells (cb 0 false) 28)) (w.heap.size + 1) 0 false := second (by simp) (Below.refl _ _)
  have I0 := Lib.hid (show Is (tot (l.take 0)) 0 false from Is.zero)
  have HN := Lib.hid hN
  have HI := Lib.hid h
  clear hN h
  go_enter Try.func9, Try.ntmps9
  go_wp2
  go_loopw [8] (fun i wr => ∃ (k : Nat) (m : Int) (g : Bool), i = .int .i64 (k : Int) ∧ k ≤ N ∧ Hid (Is (tot (l.take k)) m g) ∧ Cb wr w.heap.size 0 false ∧ Cb wr (w.heap.size + 1) m g ∧ Below w.heap.size w wr) (fun i _ => N - (intOf i).toNat)
  case atStart => exact ⟨0, 0, false, rfl, by omega, I0, C0, C1, b0⟩
  case round =>
    clear I0 C0 C1 b0
    obtain ⟨k, m, g, rfl, hk, I, C0, C1, b0⟩ := hrel
    by_cases hlt : k < N
    · have hkl : k < l.length := by rw [HN.out]; exact hlt
      obtain ⟨ad, rfl, hcell, hx⟩ := (ha.below b0).get hkl
      obtain ⟨m2, g2, I2⟩ := Is.of _ (tot_pos (l.take (k + 1)))
      have hA := fun W => add_at _ m (l[k] : Nat) m2 g g2 W I.out (by omega) hx (by rw [tot_take hkl]; exact I2)
      have I3 := Lib.hid I2
      generalize l[k] = x at hcell hx hA
      have c0 := C1.c0
      have c1 := C1.c1
      clear I2 I
      go_wp2_with fail
      refine (hA _).mono ?_
      rintro e w1 ⟨rfl, b1⟩
      replace b0 := b0.trans (b1.mono b0.size)
      replace C0 := C0.below b1
      replace C1 := C1.below b1
      clear c0 c1 b1 hA hcell
      have c0 := C1.c0
      have c1 := C1.c1
      have f0 := C1.f0
      have f1 := C1.f1
      replace C0 := C0.other (b := w.heap.size + 1) (by omega) m2 g2
      replace C1 := C1.put m2 g2
      replace b0 := below_put b0 (g := w.heap.size + 1) (by omega) m2 g2
      unfold S10.put at C0 C1 b0
      go_wp2
      go_roundw
      case rel => exact ⟨k + 1, m2, g2, by go_num, by omega, I3, C0, C1, b0⟩
      case measure => first | go_num | (simp [intOf]; omega)
    · have hkn : k = N := by omega
      subst hkn
      have I2 : Is (tot l) m g := by have := I.out; rwa [List.take_of_length_le (by rw [HN.out]; exact Nat.le_refl _)] at this
      obtain ⟨e1, e2⟩ := I2.same HI.out
      subst e1 e2
      clear I I2
      have c0 := C1.c0
      have c1 := C1.c1
      have d0 := C0.c0
      have d1 := C0.c1
      have f0 := C0.f0
      have f1 := C0.f1
      have C2 := C0.put n f
      have b2 := below_put b0 (g := w.heap.size) (by omega) n f
      clear C0 C1 b0
      go_wp2
      unfold S10.put at C2 b2
      generalize (wr.setCell ⟨w.heap.size, 0, none⟩ (.int .u64 n)).setCell ⟨w.heap.size, 1, none⟩ (.bool f) = W at *
      clear c0 c1 d0 d1 f0 f1
      have c0 := C2.c0
      have c1 := C2.c1
      (try simp only [Exit.inBlock, Exit.then])
      refine bodyPost_ret (by simp [results, Try.results9, go_sem, c0, c1]; try rfl) rfl ?_
      exact ⟨rfl, b2⟩
end Go.Proofs.Ytandphbjhggnaaa.S10
