/-
  batch.check: what is wrong in a span by itself.
-/
import Derived.Test.YtndcdidepdcmnaaKB7Pure
import Derived.Test.YtndcdidepdcmnaaKP06Of
set_option linter.unusedSimpArgs false
set_option linter.unusedVariables false
namespace Go.Proofs.Ytndcdidepdcmnaa.B07
open Go.RowKit Go.Lib Go.Proofs.Ytndcdidepdcmnaa.Wd Go.Proofs.Ytndcdidepdcmnaa.V04 Go.Proofs.Ytndcdidepdcmnaa.P06

theorem inbyte_any (z : Int) (w : World) : Calls Try.prog 42 #[.int .i64 z] w fun e w' => e = .returned (.bool (inB z)) ∧ w' = w := by
  by_cases h1 : 0 ≤ z
  · have h1' : (0 : Int) ≤ z := h1
    by_cases h2 : z ≤ 255
    · go_enter Try.func42, Try.ntmps42
      go_wp2
      go_ret
      exact ⟨ret_bool (by unfold inB; simp [h1, h2]), rfl⟩
    · go_enter Try.func42, Try.ntmps42
      go_wp2
      go_ret
      exact ⟨ret_bool (by unfold inB; simp [h1, h2]), rfl⟩
  · go_enter Try.func42, Try.ntmps42
    go_wp2
    go_ret
    exact ⟨ret_bool (by unfold inB; simp; omega), rfl⟩

set_option maxRecDepth 20000 in
set_option maxHeartbeats 1000000 in
theorem allright_any (A : Option Addr) (c n : Nat) (l : List At) (r : Bool) (w : World) (h : Ats w A c l) (hn : l.length = n) (hm : n ≤ 9223372036854775807) (hr : l.all rightA = r) :
    Calls Try.prog 43 #[.slice A n c] w fun e w' => e = .returned (.bool r) ∧ Below w.heap.size w w' := by
  have HN := Lib.hid hn
  have HR := Lib.hid hr
  clear hn hr
  go_enter Try.func43, Try.ntmps43
  go_wp2_with fail
  go_loopw [7] (fun v wr => ∃ k : Nat, v = .int .i64 k ∧ k ≤ n ∧ Below w.heap.size w wr ∧ Hid (((l.drop k).all rightA) = r)) (fun v _ => n - (intOf v).toNat)
  case atStart => exact ⟨0, rfl, Nat.zero_le _, Below.refl _ _, HR⟩
  case round =>
    obtain ⟨k, rfl, hk, bw, HI⟩ := hrel
    by_cases hlt : k < n
    · have hltz : (k : Int) < (n : Int) := by omega
      have hkl : k < l.length := by rw [un HN]; exact hlt
      obtain ⟨ad, p, rfl, hp, F⟩ := (h.below bw).get hkl
      have hI : (rightA l[k] && (l.drop (k + 1)).all rightA) = r := by
        have := un HI
        rw [List.drop_eq_getElem_cons hkl, List.all_cons] at this
        exact this
      have HJ := Lib.hid hI
      clear hI HI
      have f0 := F.c0
      have f1 := F.c1
      have f2 := F.c2
      have f3 := F.c3
      clear F h
      generalize l[k] = x at *
      obtain ⟨q, hq⟩ : ∃ q, right x.K x.N x.S = q := ⟨_, rfl⟩
      have hR := fun W => right_any x.K x.N x.S q W hq
      have HQ := Lib.hid hq
      clear hq
      go_wp2_with fail
      refine (hR _).mono ?_
      rintro e w2 ⟨rfl, rfl⟩
      have b2 : Below w.heap.size w ((wr.alloc (.cells #[.string x.key, .int .i64 x.K, .int .i64 x.N, .string x.S] 49)).alloc (box 47 x.K x.N x.S)) := (bw.alloc bw.size _).alloc (by have := bw.size; simp; omega) _
      cases q with
      | false =>
        go_wp2
        go_ret
        refine ⟨ret_bool ?_, b2⟩
        rw [← un HJ]
        unfold rightA
        rw [un HQ]
        simp
      | true =>
        go_wp2
        go_roundw
        case rel =>
          refine ⟨k + 1, by go_num, by omega, b2, ?_⟩
          have := un HJ
          unfold rightA at this
          rw [un HQ, Bool.true_and] at this
          exact Lib.hid this
        case measure => first | go_num | (simp [intOf]; omega)
    · have hltz : ¬ ((k : Int) < (n : Int)) := by omega
      have hkn : k = n := by omega
      subst hkn
      go_wp2
      go_ret
      refine ⟨ret_bool ?_, bw⟩
      rw [← un HI, List.drop_of_length_le (by rw [un HN]; exact Nat.le_refl _)]
      rfl

set_option maxRecDepth 20000 in
set_option maxHeartbeats 1000000 in
theorem check_any (s : Sp) (A : Option Addr) (c n : Nat) (l : List At) (code : Nat) (w : World) (h : Ats w A c l) (hn : l.length = n) (hm : n ≤ 9223372036854775807) (hc : code = if bad (s, l) then 1 else if 16 < n then 2 else 0) :
    Calls Try.prog 21 #[spv s (.slice A n c)] w fun e w' => e = .returned (.int .i64 code) ∧ Below w.heap.size w w' := by
  obtain ⟨r, hr⟩ : ∃ r, l.all rightA = r := ⟨_, rfl⟩
  have h1 := below_box w (.cells (spc s (.slice A n c)) 45) (Nat.le_refl _)
  have hA := allright_any A c n l r _ (h.below h1) hn hm hr
  have hi1 := fun W => inbyte_any s.kd W
  have hi2 := fun W => inbyte_any s.st W
  unfold bad at hc
  simp only [hr] at hc
  have b1 := h1
  clear h hn hr
  cases q1 : inB s.kd with
  | false =>
    have hc : code = 1 := by rw [hc, q1]; simp
    rw [q1] at hi1
    have HC := Lib.hid hc
    clear hc q1
    go_enter Try.func21, Try.ntmps21
    go_wp2_with fail
    refine (hi1 _).mono ?_
    rintro e w2 ⟨rfl, rfl⟩
    go_wp2
    go_ret
    exact ⟨by rw [HC.out]; rfl, b1⟩
  | true =>
    rw [q1] at hi1 hc
    clear q1
    cases q2 : inB s.st with
    | false =>
      have hc : code = 1 := by rw [hc, q2]; simp
      rw [q2] at hi2
      have HC := Lib.hid hc
      clear hc q2
      go_enter Try.func21, Try.ntmps21
      go_wp2_with fail
      refine (hi1 _).mono ?_
      rintro e w2 ⟨rfl, rfl⟩
      go_wp2_with fail
      refine (hi2 _).mono ?_
      rintro e w2 ⟨rfl, rfl⟩
      go_wp2
      go_ret
      exact ⟨by rw [HC.out]; rfl, b1⟩
    | true =>
      rw [q2] at hi2 hc
      clear q2
      cases r with
      | false =>
        have hc : code = 1 := by rw [hc]; simp
        have HC := Lib.hid hc
        clear hc
        go_enter Try.func21, Try.ntmps21
        go_wp2_with fail
        refine (hi1 _).mono ?_
        rintro e w2 ⟨rfl, rfl⟩
        go_wp2_with fail
        refine (hi2 _).mono ?_
        rintro e w2 ⟨rfl, rfl⟩
        go_wp2_with fail
        refine hA.mono ?_
        rintro e w2 ⟨rfl, b2⟩
        have b3 := b1.trans (b2.mono b1.size)
        go_wp2
        go_ret
        exact ⟨by rw [HC.out]; rfl, b3⟩
      | true =>
        have hB : Bk (w.alloc (.cells (spc s (.slice A n c)) 45)) w.heap.size 45 (spc s (.slice A n c)) := Bk.new w _ _
        by_cases h16 : 16 < n
        · have hc : code = 2 := by rw [hc]; simp [h16]
          have hz : (16 : Int) < (n : Int) := by omega
          have HC := Lib.hid hc
          clear hc
          go_enter Try.func21, Try.ntmps21
          go_wp2_with fail
          refine (hi1 _).mono ?_
          rintro e w2 ⟨rfl, rfl⟩
          go_wp2_with fail
          refine (hi2 _).mono ?_
          rintro e w2 ⟨rfl, rfl⟩
          go_wp2_with fail
          refine hA.mono ?_
          rintro e w2 ⟨rfl, b2⟩
          have b3 := b1.trans (b2.mono b1.size)
          have c9 : w2.cell? ⟨w.heap.size, 9, none⟩ = some (.slice A n c) := (hB.below b2).cell 9
          go_wp2
          go_ret
          exact ⟨by rw [HC.out]; rfl, b3⟩
        · have hc : code = 0 := by rw [hc]; simp [h16]
          have hz : ¬ ((16 : Int) < (n : Int)) := by omega
          have HC := Lib.hid hc
          clear hc
          go_enter Try.func21, Try.ntmps21
          go_wp2_with fail
          refine (hi1 _).mono ?_
          rintro e w2 ⟨rfl, rfl⟩
          go_wp2_with fail
          refine (hi2 _).mono ?_
          rintro e w2 ⟨rfl, rfl⟩
          go_wp2_with fail
          refine hA.mono ?_
          rintro e w2 ⟨rfl, b2⟩
          have b3 := b1.trans (b2.mono b1.size)
          have c9 : w2.cell? ⟨w.heap.size, 9, none⟩ = some (.slice A n c) := (hB.below b2).cell 9
          go_wp2
          go_ret
          exact ⟨by rw [HC.out]; rfl, b3⟩
end Go.Proofs.Ytndcdidepdcmnaa.B07
