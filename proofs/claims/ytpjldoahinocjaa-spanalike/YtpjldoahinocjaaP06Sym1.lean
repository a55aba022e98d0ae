/-
  The walk of slices.symMergeCmpFunc where one of the two parts has one element.
-/
import Derived.Test.YtpjldoahinocjaaP06Swap
set_option linter.unusedSimpArgs false
set_option linter.unusedVariables false
namespace Go.Proofs.Ytpjldoahinocjaa.P06
open Go.Shelf Go.RowKit Go.Lib Go.Sort Go.Proofs.Ytpjldoahinocjaa.Wd Go.Proofs.Ytpjldoahinocjaa.V04

theorem row_at (X Y Z : List At) (t : Nat) (ht : t < Y.length) (i : Nat) (hi : i = X.length + t) : (X ++ Y ++ Z).toArray[i]! = Y[t] := by
  have e : X ++ Y ++ Z = (X ++ Y.take t) ++ Y[t] :: (Y.drop (t + 1) ++ Z) := by
    rw [← List.cons_append, ← List.drop_eq_getElem_cons ht, List.append_assoc X, List.append_assoc X, ← List.append_assoc (Y.take t), List.take_append_drop]
  rw [e]
  exact at_mid' _ _ _ _ (by simp; omega)
theorem take_all {p : At → Prop} {B : List At} {n : Nat} (h : ∀ t (ht : t < B.length), t < n → p B[t]) : ∀ y ∈ B.take n, p y := by
  intro y hy
  obtain ⟨t, ht, rfl⟩ := List.mem_iff_getElem.1 hy
  simp only [List.length_take] at ht
  rw [List.getElem_take]
  exact h t (by omega) (by omega)
theorem drop_all {p : At → Prop} {B : List At} {n : Nat} (h : ∀ t (ht : t < B.length), n ≤ t → p B[t]) : ∀ y ∈ B.drop n, p y := by
  intro y hy
  obtain ⟨t, ht, rfl⟩ := List.mem_iff_getElem.1 hy
  simp only [List.length_drop] at ht
  rw [List.getElem_drop]
  exact h (n + t) (by omega) (by omega)

set_option maxHeartbeats 4000000 in
set_option maxRecDepth 1000000 in
theorem symleft_any {P : Program} {k : Nat} (L : Lay P k) (g : Nat) (cb : Array Value) (blk cap : Nat) (d0 : Array At) (w0 w : World) (X B Z : List At) (x : At) (a m b : Nat) (R : Rw k w0 blk d0)
    (eg : ∀ args w, (callFunc g args).run P w = .ok (.enter g args) w) (hC : CmpLays P g cb enc k cf blk 0 d0.size w0)
    (hB : 0 < B.length) (hBs : Srt B) (ha : a = X.length) (hm : m = X.length + 1) (hb : b = X.length + 1 + B.length)
    (hs : d0.size = X.length + 1 + B.length + Z.length) (hsz : d0.size < 4611686018427387904) (S : Sw k w0 blk (X ++ x :: B ++ Z) w) :
    Calls P 70 #[.slice (some ⟨blk, 0, none⟩) d0.size cap, .int .i64 a, .int .i64 m, .int .i64 b, .func (.func g) #[] cb] w fun e w' => e = .returned (.tuple #[]) ∧ ∃ Y, Y.length = 1 + B.length ∧ Srt Y ∧ Keep (x :: B) Y ∧ Sw k w0 blk (X ++ Y ++ Z) w' := by
  have mixed := L.mixed; have t0 := L.t0; have a0 := L.a0; have z0 := L.z0; have v0 := L.v0; have t3 := L.t3; have a3 := L.a3; have z3 := L.z3; have v3 := L.v3; have t4 := L.t4; have a4 := L.a4; have z4 := L.z4; have v4 := L.v4; have tl := L.tl; have al := L.al; have zl := L.zl; have vl := L.vl; have tf := L.tf; have af := L.af; have zf := L.zf; have vf := L.vf; have ae := L.ae; have ze := L.ze; have tu := L.tu; have au := L.au; have zu := L.zu; have vu := L.vu
  have FG := L.f_sym
  clear L
  have S0 : Aside (Sw k w0 blk (X ++ x :: B ++ Z) w) := S
  have HC : Aside _ := hC
  have HB : Aside (Srt B) := hBs
  have HP : Aside (a = X.length ∧ m = X.length + 1 ∧ b = X.length + 1 + B.length ∧ d0.size = X.length + 1 + B.length + Z.length) := ⟨ha, hm, hb, hs⟩
  have q1 : (m : Int) - (a : Int) = 1 := by omega
  have q2 : m ≤ b := by omega
  have q3 : b ≤ d0.size := by omega
  have q4 : a < m := by omega
  clear S hC hBs ha hm hb hs
  go_enter FG, Try.ntmps70
  go_wp2
  go_loopg [10, 11] (b - m) (fun gg s10 s11 wr => ∃ i j : Nat, s10 = .int .i64 i ∧ s11 = .int .i64 j ∧ m ≤ i ∧ i ≤ j ∧ j ≤ b ∧ j - i ≤ gg ∧ Aside (∀ t (ht : t < B.length), m + t < i → ¬ ble (kb x) (kb B[t])) ∧ Aside (∀ t (ht : t < B.length), j ≤ m + t → ble (kb x) (kb B[t])) ∧ Aside (Sw k w0 blk (X ++ x :: B ++ Z) wr))
  case atStart => exact ⟨m, b, rfl, rfl, Nat.le_refl _, q2, Nat.le_refl _, Nat.le_refl _, fun t ht h => absurd h (by omega), fun t ht h => absurd h (by have := HP.out; omega), S0⟩
  case round =>
    clear S0
    obtain ⟨i, j, rfl, rfl, hmi, hij, hjb, hg, I1, I2, S1⟩ := hrel
    by_cases hlt : i < j
    · have hltz : (i : Int) < (j : Int) := by omega
      obtain ⟨h, hh⟩ : ∃ h, (i + j) / 2 = h := ⟨_, rfl⟩
      have r1 : ((i : Int) + (j : Int)) / 2 = (h : Int) := by omega
      have r2 : i ≤ h := by omega
      have r3 : h < j := by omega
      have r4 : (0 : Int) ≤ (h : Int) := by omega
      have r5 : (h : Int) < (d0.size : Int) := by omega
      have r6 : ((h : Int)).toNat = h := by omega
      have r7 : IntKind.i64.wrap (h : Int) = (h : Int) := by rw [IntKind.wrap_i64]; omega
      have r8 : (0 : Int) ≤ (a : Int) := by omega
      have r9 : (a : Int) < (d0.size : Int) := by omega
      have r10 : ((a : Int)).toNat = a := by omega
      obtain ⟨dk, hdk⟩ : ∃ dk : Array At, (X ++ x :: B ++ Z).toArray = dk := ⟨_, rfl⟩
      have hds : dk.size = d0.size := by rw [← hdk]; have := HP.out; simp; omega
      have S1' : SWK enc k w0 blk 0 dk wr := by rw [← hdk]; exact S1.out
      have hBh : h - m < B.length := by have := HP.out; omega
      have eh : dk[h]! = B[h - m] := by
        rw [← hdk]
        have := row_at (X ++ [x]) B Z (h - m) hBh h (by have := HP.out; simp; omega)
        simpa using this
      have ea : dk[a]! = x := by
        rw [← hdk]
        have := row_at X [x] (B ++ Z) 0 (by simp) a (by have := HP.out; omega)
        simpa using this
      have l1 := fun n os => S1'.ld R (by omega) P h (by omega) n os
      have l2 := fun n os => S1'.ld R (by omega) P a (by omega) n os
      have hcg := fun n os => S1'.cmp HC.out (by omega) dk[h]! dk[a]! n os
      have SG : Aside (∀ n os, Sw k w0 blk (X ++ x :: B ++ Z) (grow (wr.drewN n) os)) := fun n os => by have := S1'.grown n os; rw [← hdk] at this; exact this
      rw [ea] at l2 hcg
      rw [eh] at l1 hcg
      obtain ⟨y, hy⟩ : ∃ y, B[h - m] = y := ⟨_, rfl⟩
      have HY : Aside (B[h - m] = y) := hy
      rw [hy] at l1 hcg
      simp only [Nat.zero_add] at l1 l2
      have n1 : (enc y).length = k := R.hk _
      have n2 : (enc x).length = k := R.hk _
      clear S1 S1' hdk hds eh ea hy hh
      by_cases hlv : cf y x < 0
      · go_wp2_with fail
        go_quiet_grown (first | (go_at_fn g; refine Calls.grown_of (hcg _ _)))
        go_wp2
        go_roundg (j - (h + 1))
        case measure => omega
        case rel =>
          refine ⟨h + 1, j, by go_num, rfl, by omega, by omega, hjb, Nat.le_refl _, (fun t ht hth => ?_ : ∀ t (ht : t < B.length), m + t < h + 1 → ¬ ble (kb x) (kb B[t])), I2, SG.out nq osq⟩
          intro hx
          have h1 := HB.out.get ord (i := t) (j := h - m) (by omega) hBh
          rw [HY.out] at h1
          exact cf_yes y x hlv (ord.trans _ _ _ hx h1)
      · go_wp2_with fail
        go_quiet_grown (first | (go_at_fn g; refine Calls.grown_of (hcg _ _)))
        go_wp2
        go_roundg (h - i)
        case measure => omega
        case rel =>
          refine ⟨i, h, rfl, rfl, hmi, by omega, by omega, Nat.le_refl _, I1, (fun t ht hth => ?_ : ∀ t (ht : t < B.length), h ≤ m + t → ble (kb x) (kb B[t])), SG.out nq osq⟩
          have h1 := HB.out.get ord (i := h - m) (j := t) (by omega) ht
          rw [HY.out] at h1
          exact ord.trans _ _ _ (cf_not y x (by omega)) h1
    · have hltz : ¬ (i : Int) < (j : Int) := by omega
      have hje : j = i := by omega
      subst hje
      go_wp2
      go_loopg [13] (j - m) (fun gg s13 wr => ∃ t : Nat, s13 = .int .i64 ((a + t : Nat) : Int) ∧ t ≤ j - m ∧ j - m - t ≤ gg ∧ Aside (Sw k w0 blk (X ++ (B.take t ++ x :: B.drop t) ++ Z) wr))
      case atStart => exact ⟨0, by simp, Nat.zero_le _, by omega, by simpa using S1⟩
      case round =>
        clear S1
        obtain ⟨t, rfl, htj, hg2, S1⟩ := hrel
        by_cases htl : t < j - m
        · have htB : t < B.length := by have := HP.out; omega
          obtain ⟨p, hp⟩ : ∃ p : Nat, p = a + t := ⟨_, rfl⟩
          have u1 : (j : Int) - 1 = ((j - 1 : Nat) : Int) := by omega
          have u2 : (p : Int) < ((j - 1 : Nat) : Int) := by have := HP.out; omega
          have u3 : IntKind.i64.wrap ((j - 1 : Nat) : Int) = ((j - 1 : Nat) : Int) := by rw [IntKind.wrap_i64]; omega
          have ea44 : ((p : Int)).toNat = p := by omega
          have pa44 : (0 : Int) ≤ (p : Int) := by omega
          have ba44 : (p : Int) < (d0.size : Int) := by have := HP.out; omega
          have ra44 : IntKind.i64.wrap ((p : Int)) = (p : Int) := by rw [IntKind.wrap_i64]; omega
          have ec44 : ((p : Int) + 1).toNat = p + 1 := by omega
          have pc44 : (0 : Int) ≤ (p : Int) + 1 := by omega
          have bc44 : (p : Int) + 1 < (d0.size : Int) := by have := HP.out; omega
          have rc44 : IntKind.i64.wrap ((p : Int) + 1) = (p : Int) + 1 := by rw [IntKind.wrap_i64]; omega
          obtain ⟨dk, hdk⟩ : ∃ dk : Array At, (X ++ (B.take t ++ x :: B.drop t) ++ Z).toArray = dk := ⟨_, rfl⟩
          have hds : dk.size = d0.size := by rw [← hdk]; have := HP.out; simp; omega
          have hsw : swp dk p (p + 1) = (X ++ (B.take (t + 1) ++ x :: B.drop (t + 1)) ++ Z).toArray := by
            have hv : B.drop t = B[t] :: B.drop (t + 1) := List.drop_eq_getElem_cons htB
            have e1 : B.take (t + 1) = B.take t ++ [B[t]] := (List.take_append_getElem htB).symm
            have := swp_mid (X ++ B.take t) [] (B.drop (t + 1) ++ Z) x B[t] p (p + 1) (by have := HP.out; simp; omega) (by have := HP.out; simp; omega)
            rw [← hdk, hv, e1]
            simp only [List.append_assoc, List.cons_append, List.nil_append] at this ⊢
            exact this
          have S1' : SWK enc k w0 blk 0 dk wr := by rw [← hdk]; exact S1.out
          have S2 := S1'.swapped R p (p + 1) (by omega) (by omega)
          rw [hsw] at S2
          have S3 : Aside _ := S2
          have l44a := S1'.ld1 R (by omega) P p (by omega)
          have l44b := S1'.ld1 R (by omega) P (p + 1) (by omega)
          have s44a := S1'.st1 R (by omega) P p (by omega) dk[p + 1]!
          have s44b := S1'.st2 R (by omega) P p (p + 1) (by omega) (by omega) dk[p + 1]! dk[p]!
          have n44a : (enc dk[p]!).length = k := R.hk _
          have n44b : (enc dk[p + 1]!).length = k := R.hk _
          clear S1 S1' S2 hsw hdk hds
          rw [← hp]
          have HPt : Aside (p = a + t) := hp
          clear hp
          simp only [Nat.zero_add] at S3 l44a l44b s44a s44b
          generalize enc dk[p]! = cI44 at S3 l44a s44b n44a
          generalize enc dk[p + 1]! = cJ44 at S3 l44b s44a s44b n44b
          go_wp2_with fail
          go_big_region_o
          clear l44a l44b s44a s44b
          generalize (wr.drew.setCells blk (p * k) cJ44).setCells blk ((p + 1) * k) cI44 = w2 at S3 ⊢
          go_wp2
          go_roundg (j - m - (t + 1))
          case measure => omega
          case rel => exact ⟨t + 1, by rw [HPt.out]; congr 1; try omega, by omega, Nat.le_refl _, S3⟩
        · have u1 : (j : Int) - 1 = ((j - 1 : Nat) : Int) := by omega
          have u2 : ¬ (((a + t : Nat) : Int) < ((j - 1 : Nat) : Int)) := by have := HP.out; omega
          have u3 : IntKind.i64.wrap ((j - 1 : Nat) : Int) = ((j - 1 : Nat) : Int) := by rw [IntKind.wrap_i64]; omega
          generalize ((a + t : Nat) : Int) = q at u2 ⊢
          generalize ((j - 1 : Nat) : Int) = r at u1 u2 u3 ⊢
          go_wp2
          (try simp only [Exit.inBlock, Exit.then])
          refine bodyPost_ret (results_none rfl _ _ _) rfl ?_
          have htj' : t = j - m := by omega
          have hput := put_front (le := ble) (key := kb) ord (a := B.take t) (b := B.drop t) (x := x) (by rw [List.take_append_drop]; exact HB.out) (take_all fun s hs hst => I1.out s hs (by omega)) (drop_all fun s hs hst => I2.out s hs (by omega))
          refine ⟨rfl, B.take t ++ x :: B.drop t, by have := HP.out; simp; omega, hput.1, ?_, by have := S1.out; rw [List.append_assoc] at this; first | exact this | (rw [List.append_assoc]; exact this)⟩
          have := hput.2
          rw [List.take_append_drop] at this
          exact this

set_option maxHeartbeats 4000000 in
set_option maxRecDepth 1000000 in
theorem symright_any {P : Program} {k : Nat} (L : Lay P k) (g : Nat) (cb : Array Value) (blk cap : Nat) (d0 : Array At) (w0 w : World) (X A Z : List At) (x : At) (a m b : Nat) (R : Rw k w0 blk d0)
    (eg : ∀ args w, (callFunc g args).run P w = .ok (.enter g args) w) (hC : CmpLays P g cb enc k cf blk 0 d0.size w0)
    (hA : 1 < A.length) (hAs : Srt A) (ha : a = X.length) (hm : m = X.length + A.length) (hb : b = X.length + A.length + 1)
    (hs : d0.size = X.length + A.length + 1 + Z.length) (hsz : d0.size < 4611686018427387904) (S : Sw k w0 blk (X ++ A ++ x :: Z) w) :
    Calls P 70 #[.slice (some ⟨blk, 0, none⟩) d0.size cap, .int .i64 a, .int .i64 m, .int .i64 b, .func (.func g) #[] cb] w fun e w' => e = .returned (.tuple #[]) ∧ ∃ Y, Y.length = A.length + 1 ∧ Srt Y ∧ Keep (A ++ [x]) Y ∧ Sw k w0 blk (X ++ Y ++ Z) w' := by
  have mixed := L.mixed; have t0 := L.t0; have a0 := L.a0; have z0 := L.z0; have v0 := L.v0; have t3 := L.t3; have a3 := L.a3; have z3 := L.z3; have v3 := L.v3; have t4 := L.t4; have a4 := L.a4; have z4 := L.z4; have v4 := L.v4; have tl := L.tl; have al := L.al; have zl := L.zl; have vl := L.vl; have tf := L.tf; have af := L.af; have zf := L.zf; have vf := L.vf; have ae := L.ae; have ze := L.ze; have tu := L.tu; have au := L.au; have zu := L.zu; have vu := L.vu
  have FG := L.f_sym
  clear L
  have S0 : Aside (Sw k w0 blk (X ++ A ++ x :: Z) w) := S
  have HC : Aside _ := hC
  have HB : Aside (Srt A) := hAs
  have HP : Aside (a = X.length ∧ m = X.length + A.length ∧ b = X.length + A.length + 1 ∧ d0.size = X.length + A.length + 1 + Z.length) := ⟨ha, hm, hb, hs⟩
  obtain ⟨z, hz⟩ : ∃ z : Nat, m - a = z := ⟨_, rfl⟩
  have q0 : (m : Int) - (a : Int) = (z : Int) := by omega
  have q0' : IntKind.i64.wrap (z : Int) = (z : Int) := by rw [IntKind.wrap_i64]; omega
  have q0'' : ((z : Int) == 1) = false := beq_false_of_ne (by omega)
  have q1 : (b : Int) - (m : Int) = 1 := by omega
  have q2 : m ≤ b := by omega
  have q3 : b ≤ d0.size := by omega
  have q4 : a < m := by omega
  clear S hC hAs ha hm hb hs hz
  go_enter FG, Try.ntmps70
  go_wp2
  go_loopg [14, 15] (m - a) (fun gg s14 s15 wr => ∃ i j : Nat, s14 = .int .i64 i ∧ s15 = .int .i64 j ∧ a ≤ i ∧ i ≤ j ∧ j ≤ m ∧ j - i ≤ gg ∧ Aside (∀ t (ht : t < A.length), a + t < i → ble (kb A[t]) (kb x)) ∧ Aside (∀ t (ht : t < A.length), j ≤ a + t → ¬ ble (kb A[t]) (kb x)) ∧ Aside (Sw k w0 blk (X ++ A ++ x :: Z) wr))
  case atStart => exact ⟨a, m, rfl, rfl, Nat.le_refl _, by omega, Nat.le_refl _, Nat.le_refl _, fun t ht h => absurd h (by omega), fun t ht h => absurd h (by have := HP.out; omega), S0⟩
  case round =>
    clear S0
    obtain ⟨i, j, rfl, rfl, hmi, hij, hjb, hg, I1, I2, S1⟩ := hrel
    by_cases hlt : i < j
    · have hltz : (i : Int) < (j : Int) := by omega
      obtain ⟨h, hh⟩ : ∃ h, (i + j) / 2 = h := ⟨_, rfl⟩
      have r1 : ((i : Int) + (j : Int)) / 2 = (h : Int) := by omega
      have r2 : i ≤ h := by omega
      have r3 : h < j := by omega
      have r4 : (0 : Int) ≤ (h : Int) := by omega
      have r5 : (h : Int) < (d0.size : Int) := by omega
      have r6 : ((h : Int)).toNat = h := by omega
      have r7 : IntKind.i64.wrap (h : Int) = (h : Int) := by rw [IntKind.wrap_i64]; omega
      have r8 : (0 : Int) ≤ (m : Int) := by omega
      have r9 : (m : Int) < (d0.size : Int) := by have := HP.out; omega
      have r10 : ((m : Int)).toNat = m := by omega
      obtain ⟨dk, hdk⟩ : ∃ dk : Array At, (X ++ A ++ x :: Z).toArray = dk := ⟨_, rfl⟩
      have hds : dk.size = d0.size := by rw [← hdk]; have := HP.out; simp; omega
      have S1' : SWK enc k w0 blk 0 dk wr := by rw [← hdk]; exact S1.out
      have hAh : h - a < A.length := by have := HP.out; omega
      have eh : dk[h]! = A[h - a] := by
        rw [← hdk]
        exact row_at X A (x :: Z) (h - a) hAh h (by have := HP.out; omega)
      have ea : dk[m]! = x := by
        rw [← hdk]
        have := row_at (X ++ A) [x] Z 0 (by simp) m (by have := HP.out; simp; omega)
        simpa using this
      have l1 := fun n os => S1'.ld R (by omega) P h (by omega) n os
      have l2 := fun n os => S1'.ld R (by omega) P m (by omega) n os
      have hcg := fun n os => S1'.cmp HC.out (by omega) dk[m]! dk[h]! n os
      have SG : Aside (∀ n os, Sw k w0 blk (X ++ A ++ x :: Z) (grow (wr.drewN n) os)) := fun n os => by have := S1'.grown n os; rw [← hdk] at this; exact this
      rw [ea] at l2 hcg
      rw [eh] at l1 hcg
      obtain ⟨y, hy⟩ : ∃ y, A[h - a] = y := ⟨_, rfl⟩
      have HY : Aside (A[h - a] = y) := hy
      rw [hy] at l1 hcg
      simp only [Nat.zero_add] at l1 l2
      have n1 : (enc y).length = k := R.hk _
      have n2 : (enc x).length = k := R.hk _
      clear S1 S1' hdk hds eh ea hy hh
      by_cases hlv : cf x y < 0
      · go_wp2_with fail
        go_quiet_grown (first | (go_at_fn g; refine Calls.grown_of (hcg _ _)))
        go_wp2
        all_goals try (rename_i hbad; exfalso; simp only [Bool.not_eq_false', decide_eq_true_eq] at hbad; omega)
        go_roundg (h - i)
        case measure => omega
        case rel =>
          refine ⟨i, h, rfl, rfl, hmi, by omega, by omega, Nat.le_refl _, I1, (fun t ht hth => ?_ : ∀ t (ht : t < A.length), h ≤ a + t → ¬ ble (kb A[t]) (kb x)), SG.out nq osq⟩
          intro hx
          have h1 := HB.out.get ord (i := h - a) (j := t) (by omega) ht
          rw [HY.out] at h1
          exact cf_yes x y hlv (ord.trans _ _ _ h1 hx)
      · go_wp2_with fail
        go_quiet_grown (first | (go_at_fn g; refine Calls.grown_of (hcg _ _)))
        go_wp2
        all_goals try (rename_i hbad; exfalso; simp only [Bool.not_eq_false', decide_eq_true_eq] at hbad; omega)
        go_roundg (j - (h + 1))
        case measure => omega
        case rel =>
          refine ⟨h + 1, j, by go_num, rfl, by omega, by omega, hjb, Nat.le_refl _, (fun t ht hth => ?_ : ∀ t (ht : t < A.length), a + t < h + 1 → ble (kb A[t]) (kb x)), I2, SG.out nq osq⟩
          have h1 := HB.out.get ord (i := t) (j := h - a) (by omega) hAh
          rw [HY.out] at h1
          exact ord.trans _ _ _ h1 (cf_not x y (by omega))
    · have hltz : ¬ (i : Int) < (j : Int) := by omega
      have hje : j = i := by omega
      subst hje
      go_wp2
      go_loopg [17] (m - j) (fun gg s17 wr => ∃ t : Nat, s17 = .int .i64 ((a + t : Nat) : Int) ∧ j ≤ a + t ∧ t ≤ A.length ∧ a + t - j ≤ gg ∧ Aside (Sw k w0 blk (X ++ (A.take t ++ x :: A.drop t) ++ Z) wr))
      case atStart => exact ⟨A.length, by have := HP.out; congr 1; omega, by have := HP.out; omega, Nat.le_refl _, by have := HP.out; omega, by simpa using S1⟩
      case round =>
        clear S1
        obtain ⟨t, rfl, htj, htA, hg2, S1⟩ := hrel
        by_cases htl : j < a + t
        · obtain ⟨s, rfl⟩ : ∃ s, t = s + 1 := ⟨t - 1, by omega⟩
          have htB : s < A.length := by omega
          obtain ⟨p, hp⟩ : ∃ p : Nat, p = a + s := ⟨_, rfl⟩
          have hq : ((a + (s + 1) : Nat) : Int) = ((p + 1 : Nat) : Int) := by omega
          obtain ⟨q, hqq⟩ : ∃ q : Nat, p + 1 = q := ⟨_, rfl⟩
          rw [hq, hqq]
          have u2 : (j : Int) < (q : Int) := by omega
          have u4 : (q : Int) - 1 = (p : Int) := by omega
          have ea44 : ((p : Int)).toNat = p := by omega
          have pa44 : (0 : Int) ≤ (p : Int) := by omega
          have ba44 : (p : Int) < (d0.size : Int) := by have := HP.out; omega
          have ra44 : IntKind.i64.wrap ((p : Int)) = (p : Int) := by rw [IntKind.wrap_i64]; omega
          have ec44 : ((q : Int)).toNat = q := by omega
          have pc44 : (0 : Int) ≤ (q : Int) := by omega
          have bc44 : (q : Int) < (d0.size : Int) := by have := HP.out; omega
          have rc44 : IntKind.i64.wrap ((q : Int)) = (q : Int) := by rw [IntKind.wrap_i64]; omega
          obtain ⟨dk, hdk⟩ : ∃ dk : Array At, (X ++ (A.take (s + 1) ++ x :: A.drop (s + 1)) ++ Z).toArray = dk := ⟨_, rfl⟩
          have hds : dk.size = d0.size := by rw [← hdk]; have := HP.out; simp; omega
          have hsw : swp dk q p = (X ++ (A.take s ++ x :: A.drop s) ++ Z).toArray := by
            have hv : A.drop s = A[s] :: A.drop (s + 1) := List.drop_eq_getElem_cons htB
            have e1 : A.take (s + 1) = A.take s ++ [A[s]] := (List.take_append_getElem htB).symm
            have := swp_mid' (X ++ A.take s) [] (A.drop (s + 1) ++ Z) A[s] x p q (by have := HP.out; simp; omega) (by have := HP.out; simp; omega)
            rw [← hdk, hv, e1]
            simp only [List.append_assoc, List.cons_append, List.nil_append] at this ⊢
            exact this
          have S1' : SWK enc k w0 blk 0 dk wr := by rw [← hdk]; exact S1.out
          have S2 := S1'.swapped R q p (by omega) (by omega)
          rw [hsw] at S2
          have S3 : Aside _ := S2
          have l44a := S1'.ld1 R (by omega) P p (by omega)
          have l44b := S1'.ld1 R (by omega) P q (by omega)
          have s44a := S1'.st1 R (by omega) P q (by omega) dk[p]!
          have s44b := S1'.st2 R (by omega) P q p (by omega) (by omega) dk[p]! dk[q]!
          have n44a : (enc dk[p]!).length = k := R.hk _
          have n44b : (enc dk[q]!).length = k := R.hk _
          have HPt : Aside (p = a + s ∧ p + 1 = q) := ⟨hp, hqq⟩
          clear S1 S1' S2 hsw hdk hds hp hqq hq
          simp only [Nat.zero_add] at S3 l44a l44b s44a s44b
          generalize enc dk[p]! = cI44 at S3 l44a s44a s44b n44a
          generalize enc dk[q]! = cJ44 at S3 l44b s44b n44b
          go_wp2_with fail
          go_big_region_o
          clear l44a l44b s44a s44b
          generalize (wr.drew.setCells blk (q * k) cI44).setCells blk (p * k) cJ44 = w2 at S3 ⊢
          go_wp2
          go_roundg (a + s - j)
          case measure => omega
          case rel => exact ⟨s, by have := HPt.out; congr 1; omega, by omega, by omega, Nat.le_refl _, S3⟩
        · have u2 : ¬ ((j : Int) < ((a + t : Nat) : Int)) := by omega
          have htj' : a + t = j := by omega
          have HT : Aside (a + t = j) := htj'
          clear htj'
          generalize ((a + t : Nat) : Int) = q at u2 ⊢
          go_wp2
          (try simp only [Exit.inBlock, Exit.then])
          refine bodyPost_ret (results_none rfl _ _ _) rfl ?_
          have htj' := HT.out
          have hput := put_in (le := ble) (key := kb) ord (a := A.take t) (b := A.drop t) (x := x) (by rw [List.take_append_drop]; exact HB.out) (take_all fun s hs hst => I1.out s hs (by omega)) (drop_all fun s hs hst => I2.out s hs (by omega))
          refine ⟨rfl, A.take t ++ x :: A.drop t, by simp; omega, hput.1, ?_, by have := S1.out; rw [List.append_assoc] at this; first | exact this | (rw [List.append_assoc]; exact this)⟩
          have := hput.2
          rw [List.take_append_drop] at this
          exact this
end Go.Proofs.Ytpjldoahinocjaa.P06
