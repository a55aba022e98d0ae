/-
  The walk of slices.symMergeCmpFunc: two sorted parts become one, equals in the order in which they came.
-/
import Derived.Test.YtpjldoahinocjaaP06Sym1
set_option linter.unusedSimpArgs false
set_option linter.unusedVariables false
namespace Go.Proofs.Ytpjldoahinocjaa.P06
open Go.Shelf Go.RowKit Go.Lib Go.Sort Go.Proofs.Ytpjldoahinocjaa.Wd Go.Proofs.Ytpjldoahinocjaa.V04

theorem sym_cut {A B : List At} (hA : Srt A) (hB : Srt B) (i j : Nat) (hi : i ≤ A.length) (hj : j ≤ B.length)
    (g1 : i = 0 ∨ j = B.length ∨ ble (kb A[i - 1]!) (kb B[j]!)) (g2 : i = A.length ∨ j = 0 ∨ ¬ ble (kb A[i]!) (kb B[j - 1]!)) :
    (∀ x ∈ A.take i, ∀ y ∈ B.drop j, ble (kb x) (kb y)) ∧ (∀ x ∈ A.drop i, ∀ y ∈ B.take j, ¬ ble (kb x) (kb y)) := by
  constructor
  · refine take_all fun t ht hti => drop_all fun u hu huj => ?_
    rcases g1 with h | h | h
    · omega
    · omega
    · rw [getElem!_pos A _ (by omega), getElem!_pos B _ (by omega)] at h
      exact ord.trans _ _ _ (hA.get ord (i := t) (j := i - 1) (by omega) (by omega)) (ord.trans _ _ _ h (hB.get ord (i := j) (j := u) huj hu))
  · refine drop_all fun t ht hti => take_all fun u hu huj => ?_
    rcases g2 with h | h | h
    · omega
    · omega
    · rw [getElem!_pos A _ (by omega), getElem!_pos B _ (by omega)] at h
      exact fun hx => h (ord.trans _ _ _ (hA.get ord (i := i) (j := t) hti ht) (ord.trans _ _ _ hx (hB.get ord (i := u) (j := j - 1) (by omega) (by omega))))

/-- what is said of it, of parts of so many elements -/
def SymSaid (P : Program) (k g : Nat) (cb : Array Value) (blk cap : Nat) (d0 : Array At) (w0 : World) (N : Nat) : Prop :=
  ∀ (w : World) (X A B Z : List At) (a m b : Nat), A.length + B.length = N → 0 < A.length → 0 < B.length → Srt A → Srt B → a = X.length → m = X.length + A.length → b = X.length + A.length + B.length →
    d0.size = X.length + A.length + B.length + Z.length → Sw k w0 blk (X ++ A ++ B ++ Z) w →
    Calls P 70 #[.slice (some ⟨blk, 0, none⟩) d0.size cap, .int .i64 a, .int .i64 m, .int .i64 b, .func (.func g) #[] cb] w fun e w' =>
      e = .returned (.tuple #[]) ∧ ∃ Y, Y.length = N ∧ Srt Y ∧ Keep (A ++ B) Y ∧ Sw k w0 blk (X ++ Y ++ Z) w'

set_option maxHeartbeats 16000000 in
set_option maxRecDepth 1000000 in
theorem sym_step {P : Program} {k : Nat} (L : Lay P k) (g : Nat) (cb : Array Value) (blk cap : Nat) (d0 : Array At) (w0 : World) (R : Rw k w0 blk d0)
    (eg : ∀ args w, (callFunc g args).run P w = .ok (.enter g args) w) (hC : CmpLays P g cb enc k cf blk 0 d0.size w0) (hsz : d0.size < 4611686018427387904)
    (N : Nat) (IH : ∀ M, M < N → SymSaid P k g cb blk cap d0 w0 M) : SymSaid P k g cb blk cap d0 w0 N := by
  intro w X A B Z a m b hN hA hB hAs hBs ha hm hb hs S
  by_cases hA1 : A.length = 1
  · obtain ⟨x, rfl⟩ := List.length_eq_one_iff.1 hA1
    refine (symleft_any L g cb blk cap d0 w0 w X B Z x a m b R eg hC hB hBs ha (by simpa using hm) (by simpa using hb) (by simpa using hs) hsz (by simpa using S)).mono ?_
    rintro e w' ⟨rfl, Y, hY, h1, h2, h3⟩
    exact ⟨rfl, Y, by rw [hY, ← hN]; simp, h1, by simpa using h2, h3⟩
  by_cases hB1 : B.length = 1
  · obtain ⟨x, rfl⟩ := List.length_eq_one_iff.1 hB1
    refine (symright_any L g cb blk cap d0 w0 w X A Z x a m b R eg hC (by omega) hAs ha hm (by simpa using hb) (by simpa using hs) hsz (by simpa using S)).mono ?_
    rintro e w' ⟨rfl, Y, hY, h1, h2, h3⟩
    exact ⟨rfl, Y, by rw [hY, ← hN]; simp, h1, h2, h3⟩
  have mixed := L.mixed; have t0 := L.t0; have a0 := L.a0; have z0 := L.z0; have v0 := L.v0; have t3 := L.t3; have a3 := L.a3; have z3 := L.z3; have v3 := L.v3; have t4 := L.t4; have a4 := L.a4; have z4 := L.z4; have v4 := L.v4; have tl := L.tl; have al := L.al; have zl := L.zl; have vl := L.vl; have tf := L.tf; have af := L.af; have zf := L.zf; have vf := L.vf; have ae := L.ae; have ze := L.ze; have tu := L.tu; have au := L.au; have zu := L.zu; have vu := L.vu
  have FG := L.f_sym
  have e77 : ∀ args w, (callFunc 77 args).run P w = .ok (.enter 77 args) w := enters_of L.f_rot (by kernel_rfl) rfl
  have e70 : ∀ args w, (callFunc 70 args).run P w = .ok (.enter 70 args) w := enters_of L.f_sym (by kernel_rfl) rfl
  have LL : Aside (Lay P k) := L
  have HI : Aside (∀ M, M < N → SymSaid P k g cb blk cap d0 w0 M) := IH
  have S0 : Aside (Sw k w0 blk (X ++ A ++ B ++ Z) w) := S
  have HC : Aside _ := hC
  have HS : Aside (Srt A ∧ Srt B) := ⟨hAs, hBs⟩
  obtain ⟨mid, hmid⟩ : ∃ mid, (a + b) / 2 = mid := ⟨_, rfl⟩
  obtain ⟨n, hn⟩ : ∃ n, mid + m = n := ⟨_, rfl⟩
  obtain ⟨p, hp⟩ : ∃ p, n - 1 = p := ⟨_, rfl⟩
  have HP : Aside (A.length + B.length = N ∧ a = X.length ∧ m = X.length + A.length ∧ b = X.length + A.length + B.length ∧ d0.size = X.length + A.length + B.length + Z.length ∧ (a + b) / 2 = mid ∧ mid + m = n ∧ n - 1 = p ∧ 2 ≤ A.length ∧ 2 ≤ B.length) := ⟨hN, ha, hm, hb, hs, hmid, hn, hp, by omega, by omega⟩
  obtain ⟨z, hz⟩ : ∃ z : Nat, m - a = z := ⟨_, rfl⟩
  obtain ⟨y, hy⟩ : ∃ y : Nat, b - m = y := ⟨_, rfl⟩
  have q0 : (m : Int) - (a : Int) = (z : Int) := by omega
  have q0' : IntKind.i64.wrap (z : Int) = (z : Int) := by rw [IntKind.wrap_i64]; omega
  have q0'' : ((z : Int) == 1) = false := beq_false_of_ne (by omega)
  have q1 : (b : Int) - (m : Int) = (y : Int) := by omega
  have q1' : IntKind.i64.wrap (y : Int) = (y : Int) := by rw [IntKind.wrap_i64]; omega
  have q1'' : ((y : Int) == 1) = false := beq_false_of_ne (by omega)
  have q2 : ((a : Int) + (b : Int)) / 2 = (mid : Int) := by omega
  have q3 : (mid : Int) + (m : Int) = (n : Int) := by omega
  have q3' : IntKind.i64.wrap (n : Int) = (n : Int) := by rw [IntKind.wrap_i64]; omega
  have q4 : (n : Int) - 1 = (p : Int) := by omega
  have q4' : IntKind.i64.wrap (p : Int) = (p : Int) := by rw [IntKind.wrap_i64]; omega
  have q5 : a < m := by omega
  have q6 : m < b := by omega
  have q7 : b ≤ d0.size := by omega
  obtain ⟨lo, hi, HF, HE, hcase⟩ : ∃ lo hi : Nat, Aside (a ≤ lo ∧ lo ≤ hi ∧ hi ≤ m ∧ (lo = a ∨ n - lo = b) ∧ (hi = m ∨ n - hi = m) ∧ n - lo ≤ b ∧ m ≤ n - hi) ∧ Aside ((mid < m ∧ hi = mid) ∨ (¬ mid < m ∧ lo = a ∧ hi = m)) ∧ ((mid < m ∧ (n : Int) - (b : Int) = (lo : Int)) ∨ ¬ mid < m) := by
    by_cases hmm : mid < m
    · exact ⟨n - b, mid, (show _ ∧ _ from ⟨by omega, by omega, by omega, by omega, by omega, by omega, by omega⟩), (show _ ∨ _ from .inl ⟨hmm, rfl⟩), .inl ⟨hmm, by omega⟩⟩
    · exact ⟨a, m, (show _ ∧ _ from ⟨by omega, by omega, by omega, by omega, by omega, by omega, by omega⟩), (show _ ∨ _ from .inr ⟨hmm, rfl, rfl⟩), .inr hmm⟩
  have hlo : lo < d0.size := by have := HF.out; omega
  have q8 : IntKind.i64.wrap (lo : Int) = (lo : Int) := by rw [IntKind.wrap_i64]; omega
  clear L IH hN hAs hBs ha hm hb hs S hA1 hB1 hC hmid hn hp hz hy hA hB
  rcases hcase with ⟨hmm, hlo2⟩ | hmm
  all_goals (
    go_enter FG, Try.ntmps70
    go_wp2
    go_loopg [20, 21] (hi - lo) (fun gg s20 s21 wr => ∃ s r : Nat, s20 = .int .i64 s ∧ s21 = .int .i64 r ∧ lo ≤ s ∧ s ≤ r ∧ r ≤ hi ∧ r - s ≤ gg ∧ Aside (s = lo ∨ ble (kb A[s - 1 - a]!) (kb B[p - (s - 1) - m]!)) ∧ Aside (r = hi ∨ ¬ ble (kb A[r - a]!) (kb B[p - r - m]!)) ∧ Aside (Sw k w0 blk (X ++ A ++ B ++ Z) wr))
    case atStart =>
      refine ⟨lo, hi, ?_, ?_, Nat.le_refl _, by have := HF.out; omega, Nat.le_refl _, Nat.le_refl _, (show _ ∨ _ from .inl rfl), (show _ ∨ _ from .inl rfl), S0⟩
      · first
          | rfl
          | (congr 1; have := HE.out; omega)
      · first
          | rfl
          | (congr 1; have := HE.out; omega)
    case round =>
      clear S0
      obtain ⟨s, r, rfl, rfl, hls, hsr, hrh, hg, I1, I2, S1⟩ := hrel
      by_cases hlt : s < r
      · have hltz : (s : Int) < (r : Int) := by omega
        obtain ⟨c, hc⟩ : ∃ c, (s + r) / 2 = c := ⟨_, rfl⟩
        have r1 : ((s : Int) + (r : Int)) / 2 = (c : Int) := by omega
        have r2 : s ≤ c := by omega
        have r3 : c < r := by omega
        have c1 : c < p + 1 ∧ c < d0.size ∧ a ≤ c ∧ c < m := by have := HF.out; have := HP.out; omega
        obtain ⟨e, he⟩ : ∃ e, p - c = e := ⟨_, rfl⟩
        have c2 : m ≤ e ∧ e < b := by have := HF.out; have := HP.out; omega
        have r4 : (0 : Int) ≤ (c : Int) := by omega
        have r5 : (c : Int) < (d0.size : Int) := by omega
        have r6 : ((c : Int)).toNat = c := by omega
        have r7 : IntKind.i64.wrap (c : Int) = (c : Int) := by rw [IntKind.wrap_i64]; omega
        have r8 : (p : Int) - (c : Int) = (e : Int) := by omega
        have r9 : (0 : Int) ≤ (e : Int) := by omega
        have r10 : (e : Int) < (d0.size : Int) := by omega
        have r11 : ((e : Int)).toNat = e := by omega
        have r12 : IntKind.i64.wrap (e : Int) = (e : Int) := by rw [IntKind.wrap_i64]; omega
        obtain ⟨dk, hdk⟩ : ∃ dk : Array At, (X ++ A ++ B ++ Z).toArray = dk := ⟨_, rfl⟩
        have hds : dk.size = d0.size := by rw [← hdk]; have := HP.out; simp; omega
        have S1' : SWK enc k w0 blk 0 dk wr := by rw [← hdk]; exact S1.out
        have eh : dk[c]! = A[c - a]! := by
          have h1 : c - a < A.length := by have := HP.out; omega
          rw [← hdk, getElem!_pos A _ h1]
          have := row_at X A (B ++ Z) (c - a) h1 c (by have := HP.out; omega)
          simpa using this
        have ea : dk[e]! = B[e - m]! := by
          have h1 : e - m < B.length := by have := HP.out; omega
          rw [← hdk, getElem!_pos B _ h1]
          exact row_at (X ++ A) B Z (e - m) h1 e (by have := HP.out; simp; omega)
        have l1 := fun n os => S1'.ld R (by omega) P c (by omega) n os
        have l2 := fun n os => S1'.ld R (by omega) P e (by omega) n os
        have hcg := fun n os => S1'.cmp HC.out (by omega) dk[e]! dk[c]! n os
        have SG : Aside (∀ n os, Sw k w0 blk (X ++ A ++ B ++ Z) (grow (wr.drewN n) os)) := fun n os => by have := S1'.grown n os; rw [← hdk] at this; exact this
        rw [eh] at l1 hcg
        rw [ea] at l2 hcg
        obtain ⟨x, hx⟩ : ∃ x, A[c - a]! = x := ⟨_, rfl⟩
        obtain ⟨v, hv⟩ : ∃ v, B[e - m]! = v := ⟨_, rfl⟩
        have HY : Aside (A[c - a]! = x ∧ B[e - m]! = v ∧ p - c = e) := ⟨hx, hv, he⟩
        rw [hx] at l1 hcg
        rw [hv] at l2 hcg
        simp only [Nat.zero_add] at l1 l2
        have n1 : (enc x).length = k := R.hk _
        have n2 : (enc v).length = k := R.hk _
        clear S1 S1' hdk hds eh ea hx hv hc he
        by_cases hlv : cf v x < 0
        · go_wp2_with fail
          go_quiet_grown (first | (go_at_fn g; refine Calls.grown_of (hcg _ _)))
          go_wp2
          all_goals try (rename_i hbad; exfalso; simp only [Bool.not_eq_false', decide_eq_true_eq] at hbad; omega)
          go_roundg (c - s)
          case measure => omega
          case rel =>
            refine ⟨s, c, rfl, rfl, hls, by omega, by omega, Nat.le_refl _, I1, (show _ ∨ _ from .inr ?_), SG.out nq osq⟩
            rw [HY.out.1, HY.out.2.2, HY.out.2.1]
            exact cf_yes v x hlv
        · go_wp2_with fail
          go_quiet_grown (first | (go_at_fn g; refine Calls.grown_of (hcg _ _)))
          go_wp2
          all_goals try (rename_i hbad; exfalso; simp only [Bool.not_eq_false', decide_eq_true_eq] at hbad; omega)
          go_roundg (r - (c + 1))
          case measure => omega
          case rel =>
            refine ⟨c + 1, r, by go_num, rfl, by omega, by omega, hrh, Nat.le_refl _, (show _ ∨ _ from .inr ?_), I2, SG.out nq osq⟩
            rw [Nat.add_sub_cancel, HY.out.1, HY.out.2.2, HY.out.2.1]
            exact cf_not v x (by omega)
      · have hltz : ¬ (s : Int) < (r : Int) := by omega
        have hje : r = s := by omega
        subst hje
        obtain ⟨en, hen⟩ : ∃ en, n - r = en := ⟨_, rfl⟩
        have c0 : r ≤ n ∧ r ≤ m ∧ a ≤ r ∧ m ≤ en ∧ en ≤ b ∧ (r : Nat) + (en - m) = mid := by have := HF.out; have := HP.out; omega
        have d1 : (n : Int) - (r : Int) = (en : Int) := by omega
        have d2 : IntKind.i64.wrap (en : Int) = (en : Int) := by rw [IntKind.wrap_i64]; omega
        have hcut := sym_cut HS.out.1 HS.out.2 (r - a) (en - m) (by have := HP.out; omega) (by have := HP.out; omega)
          (by
            rcases I1.out with h | h
            · have := HF.out; have := HP.out; omega
            · have e1 : r - a - 1 = r - 1 - a := by omega
              rcases Nat.eq_zero_or_pos (r - a) with h0 | h0
              · exact .inl h0
              · refine .inr (.inr ?_)
                have e2 : en - m = p - (r - 1) - m := by have := HP.out; omega
                rw [e1, e2]
                exact h)
          (by
            rcases I2.out with h | h
            · have := HF.out; have := HP.out; omega
            · rcases Nat.eq_zero_or_pos (en - m) with h0 | h0
              · exact .inr (.inl h0)
              · refine .inr (.inr ?_)
                have e2 : en - m - 1 = p - r - m := by have := HP.out; omega
                rw [e2]
                exact h)
        obtain ⟨A1, A2, rfl, hA1⟩ : ∃ A1 A2, A = A1 ++ A2 ∧ A1.length = r - a := ⟨A.take (r - a), A.drop (r - a), (List.take_append_drop _ _).symm, by simp; have := HP.out; omega⟩
        obtain ⟨B1, B2, rfl, hB1⟩ : ∃ B1 B2, B = B1 ++ B2 ∧ B1.length = en - m := ⟨B.take (en - m), B.drop (en - m), (List.take_append_drop _ _).symm, by simp; have := HP.out; omega⟩
        rw [← hA1, ← hB1, List.take_left', List.drop_left', List.take_left', List.drop_left'] at hcut <;> try rfl
        have hln : A1.length + A2.length + (B1.length + B2.length) = N ∧ a = X.length ∧ r = X.length + A1.length ∧ m = X.length + A1.length + A2.length ∧ mid = X.length + A1.length + B1.length ∧ en = X.length + A1.length + A2.length + B1.length ∧ b = X.length + A1.length + A2.length + B1.length + B2.length ∧ d0.size = X.length + A1.length + A2.length + B1.length + B2.length + Z.length ∧ 2 ≤ A1.length + A2.length ∧ 2 ≤ B1.length + B2.length := by have := HP.out; simp only [List.length_append] at this; omega
        -- the three calls, each where it is made
        have hc1 : ∀ W, r < m → m < en → Sw k w0 blk (X ++ (A1 ++ A2) ++ (B1 ++ B2) ++ Z) W → Calls P 77 #[.slice (some ⟨blk, 0, none⟩) d0.size cap, .int .i64 r, .int .i64 m, .int .i64 en, .func (.func g) #[] cb] W fun e w' => e = .returned (.tuple #[]) ∧ Aside (Sw k w0 blk (X ++ A1 ++ B1 ++ (A2 ++ B2 ++ Z)) w') := fun W h1 h2 hW => by
          refine (rotate_any LL.out g cb blk cap d0 w0 W (X ++ A1) A2 B1 (B2 ++ Z) r m en R (by omega) (by omega) (by simp; omega) (by simp; omega) (by simp; omega) (by simp; omega) hsz (by simpa [List.append_assoc] using hW)).mono ?_
          rintro e w' ⟨rfl, h⟩
          exact ⟨rfl, (show Sw _ _ _ _ _ by simpa [List.append_assoc] using h)⟩
        have hn1 : ∀ W, ¬ (r < m ∧ m < en) → Sw k w0 blk (X ++ (A1 ++ A2) ++ (B1 ++ B2) ++ Z) W → Aside (Sw k w0 blk (X ++ A1 ++ B1 ++ (A2 ++ B2 ++ Z)) W) := fun W h1 hW => by
          show Sw _ _ _ _ _
          rcases List.eq_nil_or_concat A2 with h | ⟨_, _, h⟩
          · subst h
            simpa [List.append_assoc] using hW
          · rcases List.eq_nil_or_concat B1 with h' | ⟨_, _, h'⟩
            · subst h'
              simpa [List.append_assoc] using hW
            · exfalso
              rw [h, h'] at hln
              simp only [List.length_concat] at hln
              omega
        have hc2 : ∀ W, a < r → r < mid → Sw k w0 blk (X ++ A1 ++ B1 ++ (A2 ++ B2 ++ Z)) W → Calls P 70 #[.slice (some ⟨blk, 0, none⟩) d0.size cap, .int .i64 a, .int .i64 r, .int .i64 mid, .func (.func g) #[] cb] W fun e w' => e = .returned (.tuple #[]) ∧ ∃ Y, Aside (Y.length = A1.length + B1.length ∧ Srt Y ∧ Keep (A1 ++ B1) Y ∧ Sw k w0 blk (X ++ Y ++ (A2 ++ B2 ++ Z)) w') := fun W h1 h2 hW =>
          HI.out (A1.length + B1.length) (by omega) W X A1 B1 (A2 ++ B2 ++ Z) a r mid rfl (by omega) (by omega) HS.out.1.left HS.out.2.left (by omega) (by omega) (by omega) (by simp; omega) hW
        have hn2 : ∀ W, ¬ (a < r ∧ r < mid) → Sw k w0 blk (X ++ A1 ++ B1 ++ (A2 ++ B2 ++ Z)) W → ∃ Y, Aside (Y.length = A1.length + B1.length ∧ Srt Y ∧ Keep (A1 ++ B1) Y ∧ Sw k w0 blk (X ++ Y ++ (A2 ++ B2 ++ Z)) W) := fun W h1 hW => by
          refine ⟨A1 ++ B1, (show _ ∧ _ from ⟨by simp, ?_, Fe.refl _, by simpa [List.append_assoc] using hW⟩)⟩
          rcases List.eq_nil_or_concat A1 with h | ⟨_, _, h⟩
          · subst h
            exact HS.out.2.left
          · rcases List.eq_nil_or_concat B1 with h' | ⟨_, _, h'⟩
            · subst h'
              rw [List.append_nil]
              exact HS.out.1.left
            · exfalso
              rw [h, h'] at hln
              simp only [List.length_concat] at hln
              omega
        have hc3 : ∀ W Y, mid < en → en < b → Y.length = A1.length + B1.length → Sw k w0 blk (X ++ Y ++ (A2 ++ B2 ++ Z)) W → Calls P 70 #[.slice (some ⟨blk, 0, none⟩) d0.size cap, .int .i64 mid, .int .i64 en, .int .i64 b, .func (.func g) #[] cb] W fun e w' => e = .returned (.tuple #[]) ∧ ∃ Y', Aside (Y'.length = A2.length + B2.length ∧ Srt Y' ∧ Keep (A2 ++ B2) Y' ∧ Sw k w0 blk (X ++ Y ++ Y' ++ Z) w') := fun W Y h1 h2 hY hW =>
          HI.out (A2.length + B2.length) (by omega) W (X ++ Y) A2 B2 Z mid en b rfl (by omega) (by omega) HS.out.1.right HS.out.2.right (by simp; omega) (by simp; omega) (by simp; omega) (by simp; omega) (by simpa [List.append_assoc] using hW)
        have hn3 : ∀ W Y, ¬ (mid < en ∧ en < b) → Sw k w0 blk (X ++ Y ++ (A2 ++ B2 ++ Z)) W → ∃ Y', Aside (Y'.length = A2.length + B2.length ∧ Srt Y' ∧ Keep (A2 ++ B2) Y' ∧ Sw k w0 blk (X ++ Y ++ Y' ++ Z) W) := fun W Y h1 hW => by
          refine ⟨A2 ++ B2, (show _ ∧ _ from ⟨by simp, ?_, Fe.refl _, by simpa [List.append_assoc] using hW⟩)⟩
          rcases List.eq_nil_or_concat A2 with h | ⟨_, _, h⟩
          · subst h
            exact HS.out.2.right
          · rcases List.eq_nil_or_concat B2 with h' | ⟨_, _, h'⟩
            · subst h'
              rw [List.append_nil]
              exact HS.out.1.right
            · exfalso
              rw [h, h'] at hln
              simp only [List.length_concat] at hln
              omega
        have hfin : ∀ W Y Y', Y.length = A1.length + B1.length ∧ Srt Y ∧ Keep (A1 ++ B1) Y → Y'.length = A2.length + B2.length ∧ Srt Y' ∧ Keep (A2 ++ B2) Y' ∧ Sw k w0 blk (X ++ Y ++ Y' ++ Z) W → ∃ T, T.length = N ∧ Srt T ∧ Keep ((A1 ++ A2) ++ (B1 ++ B2)) T ∧ Sw k w0 blk (X ++ T ++ Z) W := fun W Y Y' h1 h2 => by
          have := halves ord HS.out.1 HS.out.2 hcut.1 hcut.2 h1.2.1 h1.2.2 h2.2.1 h2.2.2.1
          exact ⟨Y ++ Y', by simp; omega, this.1, this.2, by simpa [List.append_assoc] using h2.2.2.2⟩
        have C1 : Aside _ := hc1
        have N1 : Aside _ := hn1
        have C2 : Aside _ := hc2
        have N2 : Aside _ := hn2
        have C3 : Aside _ := hc3
        have N3 : Aside _ := hn3
        have FN : Aside _ := hfin
        clear hc1 hn1 hc2 hn2 hc3 hn3 hfin hcut hln hA1 hB1 hen I1 I2 c0
        go_wp2_with fail
        all_goals first
          | (refine (C1.out _ (by omega) (by omega) S1.out).mono ?_; rintro e w1 ⟨rfl, SB⟩; go_wp2_with fail)
          | (have SB := N1.out _ (by omega) S1.out)
        all_goals first
          | (refine (C2.out _ (by omega) (by omega) SB.out).mono ?_; rintro e w2 ⟨rfl, Y1, SC⟩; go_wp2_with fail)
          | (obtain ⟨Y1, SC⟩ := N2.out _ (by omega) SB.out)
        all_goals first
          | (refine (C3.out _ Y1 (by omega) (by omega) SC.out.1 SC.out.2.2.2).mono ?_; rintro e w3 ⟨rfl, Y2, SD⟩; go_wp2_with fail)
          | (obtain ⟨Y2, SD⟩ := N3.out _ Y1 (by omega) SC.out.2.2.2)
        all_goals (
          go_end0
          refine ⟨rfl, ?_⟩
          have hf := FN.out _ Y1 Y2 ⟨SC.out.1, SC.out.2.1, SC.out.2.2.1⟩ SD.out
          simp only [List.append_assoc] at hf ⊢
          exact hf))

theorem symmerge_any {P : Program} {k : Nat} (L : Lay P k) (g : Nat) (cb : Array Value) (blk cap : Nat) (d0 : Array At) (w0 : World) (R : Rw k w0 blk d0)
    (eg : ∀ args w, (callFunc g args).run P w = .ok (.enter g args) w) (hC : CmpLays P g cb enc k cf blk 0 d0.size w0) (hsz : d0.size < 4611686018427387904) (N : Nat) : SymSaid P k g cb blk cap d0 w0 N :=
  Nat.strongRecOn N fun N IH => sym_step L g cb blk cap d0 w0 R eg hC hsz N IH
end Go.Proofs.Ytpjldoahinocjaa.P06
