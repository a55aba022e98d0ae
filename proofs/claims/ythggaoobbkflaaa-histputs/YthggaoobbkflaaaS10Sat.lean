/-
  sat.Add, Join, Right, Sum.
-/
import Derived.Test.YthggaoobbkflaaaS10Cnt
set_option linter.unusedSimpArgs false
set_option linter.unusedVariables false
namespace Go.Proofs.Ythggaoobbkflaaa.S10
open Go.RowKit Go.Lib Go.Proofs.Ythggaoobbkflaaa.Wd

theorem full_at (w : World) : Calls Try.prog 28 #[] w fun e w' => e = .returned (ct 9223372036854775807 true) ∧ Below w.heap.size w w' := by
  go_enter Try.func28, Try.ntmps28
  go_wp2
  go_returns
  exact ⟨rfl, by go_grown⟩
/-- a block behind two others -/
theorem second {B : Nat} {W W' : World} {n : Int} {f : Bool} (h : W.heap.size = B) (hb : Below (B + 1) (W.alloc (.cells (cb n f) 37)) W') : Cb W' B n f := by
  have k := Cb.new W n f
  rw [h] at k
  unfold Cb
  rw [hb.block B (by omega)]
  exact k
set_option maxRecDepth 20000 in
theorem add_at (S n m n' : Int) (f f' : Bool) (w : World) (h : Is S n f) (m0 : 0 ≤ m) (m1 : m ≤ 18446744073709551615) (h' : Is (S + m) n' f') :
    Calls Try.prog 20 #[ct n f, .int .u64 m] w fun e w' => e = .returned (ct n' f') ∧ Below w.heap.size w w' := by
  have n0 := h.low
  have n1 := h.max
  cases f with
  | true =>
    obtain ⟨e1, e2⟩ := h.great rfl
    obtain ⟨q1, q2⟩ := h'.over (by omega)
    subst q1 q2
    clear h h' e2
    go_enter Try.func20, Try.ntmps20
    go_wp2_with fail
    refine (full_at _).mono ?_
    rintro e w1 ⟨rfl, b1⟩
    have C : Cb w1 (w.heap.size + 1) 0 false := second (by simp) (b1.mono (by simp))
    have b0 : Below w.heap.size w w1 := Below.trans (by go_grown) (b1.mono (by simp; omega))
    have c0 := C.c0
    have c1 := C.c1
    have f0 := C.f0
    have f1 := C.f1
    have C2 := C.put 9223372036854775807 true
    have b2 := below_put b0 (g := w.heap.size + 1) (by omega) 9223372036854775807 true
    clear b1 C b0
    go_wp2
    unfold S10.put at C2 b2
    generalize (w1.setCell ⟨w.heap.size + 1, 0, none⟩ (.int .u64 9223372036854775807)).setCell ⟨w.heap.size + 1, 1, none⟩ (.bool true) = W at *
    clear c0 c1 f0 f1
    have c0 := C2.c0
    have c1 := C2.c1
    (try simp only [Exit.inBlock, Exit.then])
    refine bodyPost_ret (by simp [results, Try.results20, go_sem, c0, c1]; try rfl) rfl ?_
    exact ⟨rfl, b2⟩
  | false =>
    have e1 := h.small rfl
    subst e1
    by_cases k : 9223372036854775807 - n < m
    · obtain ⟨q1, q2⟩ := h'.over (by omega)
      subst q1 q2
      clear h h'
      have k1 : IntKind.u64.wrap (9223372036854775807 - n) = 9223372036854775807 - n := IntWalk.u64_in _ (by omega)
      have k2 : ¬ (9223372036854775807 < n) := by omega
      go_enter Try.func20, Try.ntmps20
      go_wp2_with fail
      refine (full_at _).mono ?_
      rintro e w1 ⟨rfl, b1⟩
      have C : Cb w1 (w.heap.size + 1) 0 false := second (by simp) (b1.mono (by simp))
      have b0 : Below w.heap.size w w1 := Below.trans (by go_grown) (b1.mono (by simp; omega))
      have c0 := C.c0
      have c1 := C.c1
      have f0 := C.f0
      have f1 := C.f1
      have C2 := C.put 9223372036854775807 true
      have b2 := below_put b0 (g := w.heap.size + 1) (by omega) 9223372036854775807 true
      clear b1 C b0
      go_wp2
      unfold S10.put at C2 b2
      generalize (w1.setCell ⟨w.heap.size + 1, 0, none⟩ (.int .u64 9223372036854775807)).setCell ⟨w.heap.size + 1, 1, none⟩ (.bool true) = W at *
      clear c0 c1 f0 f1
      have c0 := C2.c0
      have c1 := C2.c1
      (try simp only [Exit.inBlock, Exit.then])
      refine bodyPost_ret (by simp [results, Try.results20, go_sem, c0, c1]; try rfl) rfl ?_
      exact ⟨rfl, b2⟩
    · obtain ⟨q1, q2⟩ := h'.under (by omega)
      subst q1 q2
      clear h h'
      have k1 : IntKind.u64.wrap (9223372036854775807 - n) = 9223372036854775807 - n := IntWalk.u64_in _ (by omega)
      have k2 : ¬ (9223372036854775807 < n) := by omega
      have k3 : IntKind.u64.wrap (n + m) = n + m := IntWalk.u64_in _ (by omega)
      go_enter Try.func20, Try.ntmps20
      go_wp2
      go_returns
      exact ⟨rfl, by go_grown⟩
set_option maxRecDepth 20000 in
theorem join_at (S T n m n' : Int) (f g f' : Bool) (w : World) (h : Is S n f) (k : Is T m g) (h' : Is (S + T) n' f') :
    Calls Try.prog 23 #[ct n f, ct m g] w fun e w' => e = .returned (ct n' f') ∧ Below w.heap.size w w' := by
  have s0 := h.pos
  have n0 := h.low
  have n1 := h.max
  have m0 := k.low
  have m1 := k.max
  cases g with
  | true =>
    obtain ⟨e1, e2⟩ := k.great rfl
    obtain ⟨q1, q2⟩ := h'.over (by omega)
    subst q1 q2
    clear h h' e2 k s0
    go_enter Try.func23, Try.ntmps23
    go_wp2_with fail
    refine (full_at _).mono ?_
    rintro e w1 ⟨rfl, b1⟩
    have C : Cb w1 (w.heap.size + 1 + 1) 0 false := second (by simp) (b1.mono (by simp))
    have b0 : Below w.heap.size w w1 := Below.trans (by go_grown) (b1.mono (by simp; omega))
    have c0 := C.c0
    have c1 := C.c1
    have f0 := C.f0
    have f1 := C.f1
    have C2 := C.put 9223372036854775807 true
    have b2 := below_put b0 (g := w.heap.size + 1 + 1) (by omega) 9223372036854775807 true
    clear b1 C b0
    go_wp2
    unfold S10.put at C2 b2
    generalize (w1.setCell ⟨w.heap.size + 1 + 1, 0, none⟩ (.int .u64 9223372036854775807)).setCell ⟨w.heap.size + 1 + 1, 1, none⟩ (.bool true) = W at *
    clear c0 c1 f0 f1
    have c0 := C2.c0
    have c1 := C2.c1
    (try simp only [Exit.inBlock, Exit.then])
    refine bodyPost_ret (by simp [results, Try.results23, go_sem, c0, c1]; try rfl) rfl ?_
    exact ⟨rfl, b2⟩
  | false =>
    have e1 := k.small rfl
    subst e1
    have hA := fun W => add_at S n m n' f f' W h m0 (by omega) h'
    clear h h' k s0
    go_enter Try.func23, Try.ntmps23
    go_wp2_with fail
    refine (hA _).mono ?_
    rintro e w1 ⟨rfl, b1⟩
    have C : Cb w1 (w.heap.size + 1 + 1) 0 false := second (by simp) (b1.mono (by simp))
    have b0 : Below w.heap.size w w1 := Below.trans (by go_grown) (b1.mono (by simp; omega))
    have c0 := C.c0
    have c1 := C.c1
    have f0 := C.f0
    have f1 := C.f1
    have C2 := C.put n' f'
    have b2 := below_put b0 (g := w.heap.size + 1 + 1) (by omega) n' f'
    clear b1 C b0 hA
    go_wp2
    unfold S10.put at C2 b2
    generalize (w1.setCell ⟨w.heap.size + 1 + 1, 0, none⟩ (.int .u64 n')).setCell ⟨w.heap.size + 1 + 1, 1, none⟩ (.bool f') = W at *
    clear c0 c1 f0 f1
    have c0 := C2.c0
    have c1 := C2.c1
    (try simp only [Exit.inBlock, Exit.then])
    refine bodyPost_ret (by simp [results, Try.results23, go_sem, c0, c1]; try rfl) rfl ?_
    exact ⟨rfl, b2⟩

/-- may it be? -/
def right (n : Int) (f : Bool) : Bool := if f then n == 9223372036854775807 else decide (n ≤ 9223372036854775807)
theorem Is.right {S n : Int} {f : Bool} (h : Is S n f) : right n f = true := by
  have := h.max
  unfold S10.right
  cases f
  · simp; omega
  · simp [(h.great rfl).1]
/-- a count that may be is that of a sum -/
theorem Is.of_right {n : Int} {f : Bool} (h0 : 0 ≤ n) (h : S10.right n f = true) : Is (if f then n + 1 else n) n f := by
  unfold S10.right at h
  cases f
  · simp at h
    exact ⟨by simpa using h0, h0, h, fun _ => rfl, fun e => by cases e⟩
  · simp at h
    subst h
    exact ⟨by simp, by omega, by omega, (fun e => by cases e), fun _ => ⟨rfl, by simp⟩⟩
end Go.Proofs.Ythggaoobbkflaaa.S10
