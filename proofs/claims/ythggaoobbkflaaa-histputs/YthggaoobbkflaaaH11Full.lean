/-
  slices.ContainsFunc of counts that are full; Buckets and Full of a histogram.
-/
import Derived.Test.YthggaoobbkflaaaH11Row
import Derived.Deep.CutRange
set_option linter.unusedSimpArgs false
set_option linter.unusedVariables false
namespace Go.Proofs.Ythggaoobbkflaaa.H11
open Go.RowKit Go.Lib Go.Proofs.Ythggaoobbkflaaa.Wd Go.Proofs.Ythggaoobbkflaaa.S10

/-- counts in a block, one behind the other -/
structure Co (w : World) (g : Nat) (cs : List Nat) : Prop where
  lt : g < w.heap.size
  at_ : ∀ i (h : i < cs.length), w.cell? ⟨g, i * 2, none⟩ = some (.int .u64 (sn cs[i])) ∧ w.cell? ⟨g, i * 2 + 1, none⟩ = some (.bool (sf cs[i]))
theorem Co.below {w w' : World} {g : Nat} {cs : List Nat} (h : Co w g cs) (hb : Below w.heap.size w w') : Co w' g cs :=
  ⟨Nat.lt_of_lt_of_le h.lt hb.size, fun i hi => ⟨(hb.cell (p := ⟨g, i * 2, none⟩) h.lt).trans (h.at_ i hi).1, (hb.cell (p := ⟨g, i * 2 + 1, none⟩) h.lt).trans (h.at_ i hi).2⟩⟩
theorem own_co {w : World} {B c n : Nat} {e : TypeId} {A : Option Addr} {cs : List Nat} (h : w.ownsRow B e 2 (.slice A n c) n (crow cs)) (hl : cs.length = n) (hn : 0 < n) : ∃ g, A = some ⟨g, 0, none⟩ ∧ B ≤ g ∧ Co w g cs := by
  rcases h.2 with ⟨hv, h0⟩ | ⟨g, cap, cur, hv, hb, hg, _⟩
  · omega
  · injection hv with h1 h2 h3
    subst h1; subst h3
    refine ⟨g, rfl, hb, (Array.getElem?_eq_some_iff.1 hg).1, fun i hi => ?_⟩
    have k := crow_get cs i hi
    have k1 := World.ownsRow.cellAt h (2 * i) (by omega)
    have k2 := World.ownsRow.cellAt h (2 * i + 1) (by omega)
    rw [k.1, Nat.mul_comm] at k1
    rw [k.2, Nat.mul_comm] at k2
    exact ⟨k1, k2⟩
theorem closure_at (n : Int) (f : Bool) (w : World) : Calls Try.prog 26 #[ct n f] w fun e w' => e = .returned (.bool f) ∧ Below w.heap.size w w' := by
  go_enter Try.func26, Try.ntmps26
  go_wp2
  go_ret
  exact ⟨rfl, by go_grown⟩
/-- where the first is, or -1 -/
def IxOut (b : Bool) (w : World) (e : Ending) (w' : World) : Prop := ∃ r : Int, e = .returned (.int .i64 r) ∧ (0 ≤ r ↔ b = true) ∧ Below w.heap.size w w'
theorem IxOut.of {b : Bool} {w w' : World} (r : Int) (h : 0 ≤ r ↔ b = true) (hb : Below w.heap.size w w') : IxOut b w (.returned (.int .i64 r)) w' := ⟨r, rfl, h, hb⟩
set_option maxRecDepth 20000 in
set_option maxHeartbeats 1000000 in
theorem indexf_at (g c n : Nat) (cs : List Nat) (w : World) (h : Co w g cs) (hn : cs.length = n) (hm : n ≤ 100) :
    Calls Try.prog 31 #[.slice (some ⟨g, 0, none⟩) n c, .func (.func 26) #[] #[]] w (IxOut (cs.any sf) w) := by
  have HN := Lib.hid hn
  have b0 := Below.refl w.heap.size w
  have I0 := Lib.hid (show ∀ j (hj : j < cs.length), j < 0 → sf cs[j] = false from fun j hj k => by omega)
  obtain ⟨b, hb⟩ : ∃ b, cs.any sf = b := ⟨_, rfl⟩
  rw [hb]
  have HB := Lib.hid hb
  clear hn hb
  go_enter Try.func31, Try.ntmps31
  go_wp2
  go_loopw [8] (fun v wr => ∃ k : Nat, v = .int .i64 k ∧ k ≤ n ∧ Below w.heap.size w wr ∧ Hid (∀ j (hj : j < cs.length), j < k → sf cs[j] = false)) (fun v _ => n - (intOf v).toNat)
  case atStart => exact ⟨0, rfl, Nat.zero_le _, b0, I0⟩
  case round =>
    clear b0 I0
    obtain ⟨k, rfl, hk, b0, I⟩ := hrel
    by_cases hlt : k < n
    · have hkl : k < cs.length := by rw [HN.out]; exact hlt
      have hltz : (k : Int) < (n : Int) := by omega
      obtain ⟨c0, c1⟩ := (h.below b0).at_ k hkl
      have hgl := Nat.lt_of_lt_of_le h.lt b0.size
      have H1 := Lib.hid (show sf cs[k] = true → b = true from fun hf => by rw [← HB.out]; exact List.any_eq_true.2 ⟨cs[k], List.getElem_mem hkl, hf⟩)
      have H2 := Lib.hid (show sf cs[k] = false → ∀ j (hj : j < cs.length), j < k + 1 → sf cs[j] = false from fun hf j hj hjk => by
        by_cases e : j = k
        · subst e; exact hf
        · exact I.out j hj (by omega))
      generalize sn cs[k] = x at c0
      generalize sf cs[k] = f at c1 H1 H2
      cases f with
      | true =>
        have e := H1.out rfl
        subst e
        clear H1 H2 I
        go_wp2_with fail
        refine (closure_at _ _ _).mono ?_
        rintro e w2 ⟨rfl, b2⟩
        go_wp2
        go_ret
        exact IxOut.of _ (by simp) (b0.trans (b2.mono b0.size))
      | false =>
        have I2 := Lib.hid (H2.out rfl)
        clear H1 H2 I
        go_wp2_with fail
        refine (closure_at _ _ _).mono ?_
        rintro e w2 ⟨rfl, b2⟩
        go_wp2
        go_roundw
        case rel => exact ⟨k + 1, by go_num, by omega, b0.trans (b2.mono b0.size), I2⟩
        case measure => first | go_num | (simp [intOf]; omega)
    · have hltz : ¬ ((k : Int) < (n : Int)) := by omega
      have e : b = false := by
        rw [← HB.out, List.any_eq_false]
        intro x hx
        obtain ⟨j, hj, rfl⟩ := List.mem_iff_getElem.1 hx
        rw [I.out j hj (by have := HN.out; omega)]
        simp
      subst e
      clear I
      go_wp2
      go_ret
      exact IxOut.of _ (by simp) b0
set_option maxRecDepth 20000 in
theorem containsf_at (g c n : Nat) (cs : List Nat) (b : Bool) (w : World) (h : Co w g cs) (hn : cs.length = n) (hm : n ≤ 100) (hb : cs.any sf = b) :
    Calls Try.prog 25 #[.slice (some ⟨g, 0, none⟩) n c, .func (.func 26) #[] #[]] w fun e w' => e = .returned (.bool b) ∧ Below w.heap.size w w' := by
  have hc := indexf_at g c n cs w h hn hm
  rw [hb] at hc
  clear h hn hb
  go_enter Try.func25, Try.ntmps25
  go_wp2_with fail
  refine hc.mono ?_
  rintro e w2 ⟨r, rfl, hr, b2⟩
  have HR := Lib.hid hr
  clear hr
  go_wp2
  go_ret
  exact ⟨ret_bool (by cases b <;> simp [HR.out]), b2⟩
end Go.Proofs.Ythggaoobbkflaaa.H11
