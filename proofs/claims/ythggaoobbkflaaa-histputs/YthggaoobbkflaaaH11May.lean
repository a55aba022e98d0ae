/-
  hist.mayBe, hist.Bucket; the document's Right and Bucket; Count, Sum, bucket.
-/
import Derived.Test.YthggaoobbkflaaaH11Small
set_option linter.unusedSimpArgs false
set_option linter.unusedVariables false
namespace Go.Proofs.Ythggaoobbkflaaa.H11
open Go.RowKit Go.Lib Go.Proofs.Ythggaoobbkflaaa.Wd Go.Proofs.Ythggaoobbkflaaa.S10

set_option maxRecDepth 20000 in
theorem bucket_at (A : Option Addr) (c N n k : Nat) (bs : List Nat) (w : World) (ha : Us w A c bs) (hN : bs.length = N) (hr : Up bs bs.length) (hn : (n : Int) ≤ 18446744073709551615) (hm : N ≤ 60) (hk : bk bs n = k) :
    Calls Try.prog 16 #[.slice A N c, .int .u64 (n : Int)] w fun e w' => e = .returned (.int .i64 (k : Int)) ∧ w = w' := by
  have hS := fun W h => search_at A c N n bs W h hN hr hn hm
  subst hk
  go_enter Try.func16, Try.ntmps16
  go_wp2_with fail
  refine (hS _ ha).mono ?_
  rintro e w1 ⟨q, rfl, rfl⟩
  go_wp2
  go_ret
  exact ⟨rfl, rfl⟩
set_option maxRecDepth 20000 in
set_option maxHeartbeats 1000000 in
theorem rbucket_at (A : Option Addr) (c N n k : Nat) (bs : List Nat) (w : World) (ha : Us w A c bs) (hN : bs.length = N) (hn : (n : Int) ≤ 18446744073709551615) (hk : bk bs n = k) :
    Calls Try.prog 29 #[.slice A N c, .int .u64 (n : Int)] w fun e w' => e = .returned (.int .i64 (k : Int)) ∧ w = w' := by
  have hmx := us_max ha hN
  have HN := Lib.hid hN
  have HK := Lib.hid hk
  have I0 := Lib.hid (show bk (bs.take 0) n = 0 from rfl)
  clear hN hk
  go_enter Try.func29, Try.ntmps29
  go_wp2
  go_loop [5, 6] (fun a b => ∃ (i j : Nat), a = .int .i64 (j : Int) ∧ b = .int .i64 (i : Int) ∧ i ≤ N ∧ j ≤ i ∧ Hid (bk (bs.take i) n = j)) (fun a b => N - (intOf b).toNat)
  case atStart => exact ⟨0, 0, rfl, rfl, by omega, by omega, I0⟩
  case round =>
    clear I0
    obtain ⟨i, j, rfl, rfl, hi, hj, I⟩ := hrel
    by_cases hlt : i < N
    · have hkl : i < bs.length := by rw [HN.out]; exact hlt
      obtain ⟨ad, rfl, hcell, hx⟩ := ha.get hkl
      have J := bk_take (n := n) hkl
      generalize bs[i] = x at hcell hx J
      by_cases hb : x < n
      · rw [if_pos hb, I.out] at J
        have J2 := Lib.hid J
        clear J I
        go_wp2
        go_round
        case rel => exact ⟨i + 1, j + 1, by go_num, by go_num, by omega, by omega, J2⟩
        case measure => first | go_num | (simp [intOf]; omega)
      · rw [if_neg hb, I.out] at J
        have J2 := Lib.hid J
        clear J I
        go_wp2
        go_round
        case rel => exact ⟨i + 1, j, rfl, by go_num, by omega, by omega, J2⟩
        case measure => first | go_num | (simp [intOf]; omega)
    · have hij : i = N := by omega
      subst hij
      have e : j = k := by
        have := I.out
        rwa [List.take_of_length_le (by rw [HN.out]; exact Nat.le_refl _), HK.out, eq_comm] at this
      subst e
      clear I
      go_wp2
      go_ret
      exact ⟨rfl, rfl⟩
set_option maxRecDepth 20000 in
set_option maxHeartbeats 1000000 in
theorem may_at (A : Option Addr) (c N : Nat) (bs : List Nat) (b : Bool) (w : World) (ha : Us w A c bs) (hN : bs.length = N) (hb : b = true ↔ Right bs) :
    Calls Try.prog 17 #[.slice A N c] w fun e w' => e = .returned (.bool b) ∧ Below w.heap.size w w' := by
  have hmx := us_max ha hN
  have HN := Lib.hid hN
  have HB := Lib.hid hb
  have b0 := Below.refl w.heap.size w
  clear hb
  by_cases hlong : 32 < N
  · have e : b = false := by
      cases b
      · rfl
      · have := (HB.out.1 rfl).few; omega
    subst e
    clear hN
    go_enter Try.func17, Try.ntmps17
    go_wp2
    go_ret
    exact ⟨rfl, b0⟩
  have I0 := Lib.hid (show Up bs 1 from fun i h k => by omega)
  clear hN
  go_enter Try.func17, Try.ntmps17
  go_wp2
  go_loopw [3] (fun v wr => ∃ (k j : Nat), v = .int .i64 (k : Int) ∧ Hid (k = j + 1) ∧ (k ≤ N ∨ k = 1) ∧ Hid (Up bs k) ∧ Below w.heap.size w wr) (fun v _ => N - (intOf v).toNat)
  case atStart => exact ⟨1, 0, rfl, rfl, .inr rfl, I0, b0⟩
  case round =>
    clear I0 b0
    obtain ⟨k, j, rfl, hkj, hk, I, b0⟩ := hrel
    by_cases hlt : k < N
    · have hkl : k < bs.length := by rw [HN.out]; exact hlt
      have hjl : j < bs.length := by have := hkj.out; omega
      have e1 : (k : Int) - 1 = (j : Int) := by have := hkj.out; omega
      have hw : IntKind.i64.wrap ((k : Int) - 1) = (j : Int) := by rw [e1, IntKind.wrap_i64]; omega
      have hjN : j < N := by rw [← HN.out]; exact hjl
      have hj0 : (0 : Int) ≤ (j : Int) := by omega
      have hjNz : (j : Int) < (N : Int) := by omega
      have hx1 := (ha.below b0).get hkl
      have hx2 := (ha.below b0).get hjl
      obtain ⟨ad, rfl, hcell, hx⟩ := hx1
      obtain ⟨ad2, e2, hcell2, hy⟩ := hx2
      injection e2 with e2
      subst e2
      have U : bs[k - 1]'(by omega) < bs[k] → Up bs (k + 1) := fun h1 => I.out.more (by omega) (by have := hkj.out; omega) h1
      have V : ¬ bs[k - 1]'(by omega) < bs[k] → Up bs bs.length → False := fun h1 => Up.not hkl (by have := hkj.out; omega) h1
      have ej : bs[k - 1]'(by omega) = bs[j] := by congr 1; have := hkj.out; omega
      rw [ej] at U V
      have HU := Lib.hid U
      have HV := Lib.hid V
      clear U V ej
      generalize bs[k] = x at hcell hx HU HV
      generalize bs[j] = y at hcell2 hy HU HV
      by_cases hxy : x ≤ y
      · have e : b = false := by
          cases b
          · rfl
          · exact (HV.out (by omega) (HB.out.1 rfl).up).elim
        subst e
        clear HU HV I
        go_wp2_with fail
        go_quiet (fail)
        go_wp2
        go_ret
        exact ⟨rfl, below_dn b0 _⟩
      · have I2 := Lib.hid (HU.out (by omega))
        clear HU HV I
        go_wp2_with fail
        go_quiet (fail)
        go_wp2
        go_roundw
        case rel => exact ⟨k + 1, k, by go_num, rfl, .inl (by omega), I2, below_dn b0 _⟩
        case measure => first | go_num | (simp [intOf]; omega)
    · have e : b = true := by
        refine HB.out.2 ⟨by rw [HN.out]; omega, fun i h hi => ?_⟩
        rw [HN.out] at h hi
        rcases hk with hk | hk
        · exact I.out i (by rw [HN.out]; omega) (by omega)
        · omega
      subst e
      clear I
      go_wp2
      go_ret
      exact ⟨rfl, b0⟩
set_option maxRecDepth 20000 in
set_option maxHeartbeats 1000000 in
theorem rright_at (A : Option Addr) (c N : Nat) (bs : List Nat) (b : Bool) (w : World) (ha : Us w A c bs) (hN : bs.length = N) (hb : b = true ↔ Right bs) :
    Calls Try.prog 8 #[.slice A N c] w fun e w' => e = .returned (.bool b) ∧ Below w.heap.size w w' := by
  have hmx := us_max ha hN
  have HN := Lib.hid hN
  have HB := Lib.hid hb
  have b0 := Below.refl w.heap.size w
  clear hb
  have I0 := Lib.hid (show Up bs 1 from fun i h k => by omega)
  clear hN
  go_enter Try.func8, Try.ntmps8
  go_wp2
  go_loopw [3] (fun v wr => ∃ (k j : Nat), v = .int .i64 (k : Int) ∧ Hid (k = j + 1) ∧ (k ≤ N ∨ k = 1) ∧ Hid (Up bs k) ∧ Below w.heap.size w wr) (fun v _ => N - (intOf v).toNat)
  case atStart => exact ⟨1, 0, rfl, rfl, .inr rfl, I0, b0⟩
  case round =>
    clear I0 b0
    obtain ⟨k, j, rfl, hkj, hk, I, b0⟩ := hrel
    by_cases hlt : k < N
    · have hkl : k < bs.length := by rw [HN.out]; exact hlt
      have hjl : j < bs.length := by have := hkj.out; omega
      have e1 : (k : Int) - 1 = (j : Int) := by have := hkj.out; omega
      have hw : IntKind.i64.wrap ((k : Int) - 1) = (j : Int) := by rw [e1, IntKind.wrap_i64]; omega
      have hjN : j < N := by rw [← HN.out]; exact hjl
      have hj0 : (0 : Int) ≤ (j : Int) := by omega
      have hjNz : (j : Int) < (N : Int) := by omega
      have hx1 := (ha.below b0).get hkl
      have hx2 := (ha.below b0).get hjl
      obtain ⟨ad, rfl, hcell, hx⟩ := hx1
      obtain ⟨ad2, e2, hcell2, hy⟩ := hx2
      injection e2 with e2
      subst e2
      have U : bs[k - 1]'(by omega) < bs[k] → Up bs (k + 1) := fun h1 => I.out.more (by omega) (by have := hkj.out; omega) h1
      have V : ¬ bs[k - 1]'(by omega) < bs[k] → Up bs bs.length → False := fun h1 => Up.not hkl (by have := hkj.out; omega) h1
      have ej : bs[k - 1]'(by omega) = bs[j] := by congr 1; have := hkj.out; omega
      rw [ej] at U V
      have HU := Lib.hid U
      have HV := Lib.hid V
      clear U V ej
      generalize bs[k] = x at hcell hx HU HV
      generalize bs[j] = y at hcell2 hy HU HV
      by_cases hxy : x ≤ y
      · have e : b = false := by
          cases b
          · rfl
          · exact (HV.out (by omega) (HB.out.1 rfl).up).elim
        subst e
        clear HU HV I
        go_wp2_with fail
        go_quiet (fail)
        go_wp2
        go_ret
        exact ⟨rfl, below_dn b0 _⟩
      · have I2 := Lib.hid (HU.out (by omega))
        clear HU HV I
        go_wp2_with fail
        go_quiet (fail)
        go_wp2
        go_roundw
        case rel => exact ⟨k + 1, k, by go_num, rfl, .inl (by omega), I2, below_dn b0 _⟩
        case measure => first | go_num | (simp [intOf]; omega)
    · have hup : Up bs bs.length := by
        intro i h hi
        rw [HN.out] at h hi
        rcases hk with hk | hk
        · exact I.out i (by rw [HN.out]; omega) (by omega)
        · omega
      have e : decide ((N : Int) ≤ 32) = b := by
        by_cases h : N ≤ 32
        · rw [HB.out.2 ⟨by rw [HN.out]; exact h, hup⟩]
          simpa using (by omega : (N : Int) ≤ 32)
        · have : b = false := by
            cases b
            · rfl
            · have := (HB.out.1 rfl).few; have := HN.out; omega
          rw [this]
          simpa using (by omega : ¬ (N : Int) ≤ 32)
      have E := Lib.hid e
      clear I e hup
      go_wp2
      go_ret
      exact ⟨ret_bool E.out, b0⟩

set_option maxRecDepth 20000 in
theorem count_at (p g c : Nat) (A : Option Addr) (bs : List Nat) (K : Nat → Nat) (N S : Nat) (w : World) (h : Hr w p g A c bs K N S) :
    Calls Try.prog 13 #[.pointer (some ⟨p, 0, none⟩)] w fun e w' => e = .returned (ct (sn N) (sf N)) ∧ Below w.heap.size w w' := by
  have c0 := h.n.c0
  have c1 : w.cell? ⟨p, 5, none⟩ = some (.bool (sf N)) := h.n.c1
  have hp := h.n.lt
  clear h
  generalize sn N = n at *
  generalize sf N = f at *
  go_enter Try.func13, Try.ntmps13
  go_wp2
  go_returns
  exact ⟨rfl, by go_grown⟩
set_option maxRecDepth 20000 in
theorem hsum_at (p g c : Nat) (A : Option Addr) (bs : List Nat) (K : Nat → Nat) (N S : Nat) (w : World) (h : Hr w p g A c bs K N S) :
    Calls Try.prog 14 #[.pointer (some ⟨p, 0, none⟩)] w fun e w' => e = .returned (ct (sn S) (sf S)) ∧ Below w.heap.size w w' := by
  have c0 := h.s.c0
  have c1 : w.cell? ⟨p, 7, none⟩ = some (.bool (sf S)) := h.s.c1
  have hp := h.s.lt
  clear h
  generalize sn S = n at *
  generalize sf S = f at *
  go_enter Try.func14, Try.ntmps14
  go_wp2
  go_returns
  exact ⟨rfl, by go_grown⟩
/-- of none -/
theorem count_nil (w : World) : Calls Try.prog 13 #[.pointer none] w fun e w' => e = .returned (ct 0 false) ∧ Below w.heap.size w w' := by
  go_enter Try.func13, Try.ntmps13
  go_wp2
  go_returns
  exact ⟨rfl, by go_grown⟩
theorem sum_nil (w : World) : Calls Try.prog 14 #[.pointer none] w fun e w' => e = .returned (ct 0 false) ∧ Below w.heap.size w w' := by
  go_enter Try.func14, Try.ntmps14
  go_wp2
  go_returns
  exact ⟨rfl, by go_grown⟩
theorem put_nil (x : Int) (w : World) : Calls Try.prog 9 #[.pointer none, .int .u64 x] w fun e w' => e = .returned (.int .i64 3) ∧ Below w.heap.size w w' := by
  go_enter Try.func9, Try.ntmps9
  go_wp2
  go_ret
  exact ⟨rfl, Below.refl _ _⟩
theorem join_nil (x : Option Addr) (w : World) : Calls Try.prog 11 #[.pointer none, .pointer x] w fun e w' => e = .returned (.int .i64 3) ∧ Below w.heap.size w w' := by
  go_enter Try.func11, Try.ntmps11
  go_wp2
  go_ret
  exact ⟨rfl, Below.refl _ _⟩
theorem join_nil2 (a : Addr) (w : World) : Calls Try.prog 11 #[.pointer (some a), .pointer none] w fun e w' => e = .returned (.int .i64 3) ∧ Below w.heap.size w w' := by
  go_enter Try.func11, Try.ntmps11
  go_wp2
  go_ret
  exact ⟨rfl, Below.refl _ _⟩
theorem buckets_nil (w : World) : Calls Try.prog 12 #[.pointer none] w fun e w' => e = .returned (.slice none 0 0) ∧ Below w.heap.size w w' := by
  go_enter Try.func12, Try.ntmps12
  go_wp2
  go_ret
  exact ⟨rfl, Below.refl _ _⟩
set_option maxRecDepth 20000 in
/-- the i-th bucket's place -/
theorem place_at (p g c i : Nat) (A : Option Addr) (bs : List Nat) (K : Nat → Nat) (N S : Nat) (w : World) (h : Hr w p g A c bs K N S) (hi : i ≤ bs.length) :
    Calls Try.prog 19 #[.pointer (some ⟨p, 0, none⟩), .int .i64 (i : Int)] w fun e w' => e = .returned (.pointer (some ⟨bB p g bs i, bO bs i, none⟩)) ∧ w = w' := by
  have c0 := h.c1
  have hf := h.rt.few
  clear h
  unfold bB bO
  generalize hM : bs.length = M at *
  clear hM
  by_cases k : i < M
  · rw [if_pos k, if_pos k]
    go_enter Try.func19, Try.ntmps19
    go_wp2
    go_ret
    exact ⟨by simp [Addr.add, Nat.mul_comm], rfl⟩
  · rw [if_neg k, if_neg k]
    go_enter Try.func19, Try.ntmps19
    go_wp2
    go_ret
    exact ⟨rfl, rfl⟩
end Go.Proofs.Ythggaoobbkflaaa.H11
