/-
  The walks of slices.swapRangeCmpFunc and slices.rotateCmpFunc over a row of attributes.
-/
import Derived.Test.YtpjldoahinocjaaP06At
import Derived.Test.YtpjldoahinocjaaRows
import Derived.WalkKit
import Derived.WalkSpells
import Derived.Deep.LoopGhost
set_option linter.unusedSimpArgs false
set_option linter.unusedVariables false
namespace Go.Proofs.Ytpjldoahinocjaa.P06
open Go.Shelf Go.RowKit Go.Lib Go.Sort Go.Proofs.Ytpjldoahinocjaa.Wd Go.Proofs.Ytpjldoahinocjaa.V04

/-- the row of a sort, as it lies before it -/
abbrev Rw (k : Nat) (w0 : World) (blk : Nat) (d0 : Array At) : Prop := RowK enc k w0 blk 0 d0
/-- a world of the sort's: the row holds the list -/
abbrev Sw (k : Nat) (w0 : World) (blk : Nat) (l : List At) (w : World) : Prop := SWK enc k w0 blk 0 l.toArray w

/-- what the walks are told of the program: they run over a letter for it, so that four cells stay one run of cells -/
structure Lay (P : Program) (k : Nat) : Prop where
  prog : P = Try.prog
  four : k = 4
theorem lay : Lay Try.prog 4 := ⟨rfl, rfl⟩
namespace Lay
variable {P : Program} {k : Nat}
theorem mixed (L : Lay P k) : P.follows .mixedOrders = true := by rw [L.prog]; kernel_rfl
theorem ae (L : Lay P k) : ∀ w, (isAgg 53).run P w = .ok true w := by rw [L.prog]; exact Try.isAgg53
theorem ze (L : Lay P k) : ∀ w, (Go.sizeOf 53).run P w = .ok k w := by rw [L.prog, L.four]; exact Try.sizeOf53
theorem t0 (L : Lay P k) : P.underlying 0 = some (TypeDesc.tuple #[]) := by rw [L.prog]; exact Try.underlying0
theorem a0 (L : Lay P k) : ∀ w, (isAgg 0).run P w = .ok false w := by rw [L.prog]; exact Try.isAgg0
theorem z0 (L : Lay P k) : ∀ w, (Go.sizeOf 0).run P w = .ok 1 w := by rw [L.prog]; exact Try.sizeOf0
theorem v0 (L : Lay P k) : ∀ w, (zeroValue 0).run P w = .ok (Value.tuple #[]) w := by rw [L.prog]; exact Try.zeroValue0
theorem t3 (L : Lay P k) : P.underlying 3 = some (TypeDesc.int IntKind.i64) := by rw [L.prog]; exact Try.underlying3
theorem a3 (L : Lay P k) : ∀ w, (isAgg 3).run P w = .ok false w := by rw [L.prog]; exact Try.isAgg3
theorem z3 (L : Lay P k) : ∀ w, (Go.sizeOf 3).run P w = .ok 1 w := by rw [L.prog]; exact Try.sizeOf3
theorem v3 (L : Lay P k) : ∀ w, (zeroValue 3).run P w = .ok (Value.int IntKind.i64 0) w := by rw [L.prog]; exact Try.zeroValue3
theorem t4 (L : Lay P k) : P.underlying 4 = some (TypeDesc.bool) := by rw [L.prog]; exact Try.underlying4
theorem a4 (L : Lay P k) : ∀ w, (isAgg 4).run P w = .ok false w := by rw [L.prog]; exact Try.isAgg4
theorem z4 (L : Lay P k) : ∀ w, (Go.sizeOf 4).run P w = .ok 1 w := by rw [L.prog]; exact Try.sizeOf4
theorem v4 (L : Lay P k) : ∀ w, (zeroValue 4).run P w = .ok (Value.bool false) w := by rw [L.prog]; exact Try.zeroValue4
theorem tl (L : Lay P k) : P.underlying 28 = some (TypeDesc.slice 53) := by rw [L.prog]; exact Try.underlying28
theorem al (L : Lay P k) : ∀ w, (isAgg 28).run P w = .ok false w := by rw [L.prog]; exact Try.isAgg28
theorem zl (L : Lay P k) : ∀ w, (Go.sizeOf 28).run P w = .ok 1 w := by rw [L.prog]; exact Try.sizeOf28
theorem vl (L : Lay P k) : ∀ w, (zeroValue 28).run P w = .ok (Value.slice none 0 0) w := by rw [L.prog]; exact Try.zeroValue28
theorem tf (L : Lay P k) : P.underlying 66 = some (TypeDesc.func #[53, 53] #[3] false) := by rw [L.prog]; exact Try.underlying66
theorem af (L : Lay P k) : ∀ w, (isAgg 66).run P w = .ok false w := by rw [L.prog]; exact Try.isAgg66
theorem zf (L : Lay P k) : ∀ w, (Go.sizeOf 66).run P w = .ok 1 w := by rw [L.prog]; exact Try.sizeOf66
theorem vf (L : Lay P k) : ∀ w, (zeroValue 66).run P w = .ok (Value.nilFunc) w := by rw [L.prog]; exact Try.zeroValue66
theorem tu (L : Lay P k) : P.underlying 106 = some (TypeDesc.int IntKind.u64) := by rw [L.prog]; exact Try.underlying106
theorem au (L : Lay P k) : ∀ w, (isAgg 106).run P w = .ok false w := by rw [L.prog]; exact Try.isAgg106
theorem zu (L : Lay P k) : ∀ w, (Go.sizeOf 106).run P w = .ok 1 w := by rw [L.prog]; exact Try.sizeOf106
theorem vu (L : Lay P k) : ∀ w, (zeroValue 106).run P w = .ok (Value.int IntKind.u64 0) w := by rw [L.prog]; exact Try.zeroValue106
theorem f_swap (L : Lay P k) : P.funcs[81]? = some Try.f81 := by rw [L.prog]; exact Try.func81
theorem f_rot (L : Lay P k) : P.funcs[77]? = some Try.f77 := by rw [L.prog]; exact Try.func77
theorem f_sym (L : Lay P k) : P.funcs[70]? = some Try.f70 := by rw [L.prog]; exact Try.func70
end Lay

set_option maxHeartbeats 4000000 in
set_option maxRecDepth 1000000 in
theorem swaprange_any {P : Program} {k : Nat} (L : Lay P k) (g : Nat) (cb : Array Value) (blk cap : Nat) (d0 : Array At) (w0 w : World) (X U M V Z : List At) (n a b : Nat) (R : Rw k w0 blk d0) (hU : U.length = n) (hV : V.length = n) (ha : a = X.length) (hb : b = X.length + n + M.length)
    (hs : d0.size = n + n + X.length + M.length + Z.length) (hsz : d0.size < 4611686018427387904) (S : Sw k w0 blk (X ++ U ++ M ++ V ++ Z) w) :
    Calls P 81 #[.slice (some ⟨blk, 0, none⟩) d0.size cap, .int .i64 a, .int .i64 b, .int .i64 n, .func (.func g) #[] cb] w fun e w' => e = .returned (.tuple #[]) ∧ Sw k w0 blk (X ++ V ++ M ++ U ++ Z) w' := by
  have mixed := L.mixed; have t0 := L.t0; have a0 := L.a0; have z0 := L.z0; have v0 := L.v0; have t3 := L.t3; have a3 := L.a3; have z3 := L.z3; have v3 := L.v3; have t4 := L.t4; have a4 := L.a4; have z4 := L.z4; have v4 := L.v4; have tl := L.tl; have al := L.al; have zl := L.zl; have vl := L.vl; have tf := L.tf; have af := L.af; have zf := L.zf; have vf := L.vf; have ae := L.ae; have ze := L.ze
  have FG := L.f_swap
  clear L
  have S0 : Aside (Sw k w0 blk (X ++ U ++ M ++ V ++ Z) w) := S
  clear S
  go_enter FG, Try.ntmps81
  go_wp2
  go_loopg [10] n (fun gg s10 wr => ∃ i : Nat, s10 = .int .i64 i ∧ i ≤ n ∧ n - i ≤ gg ∧ Aside (Sw k w0 blk (X ++ (V.take i ++ U.drop i) ++ M ++ (U.take i ++ V.drop i) ++ Z) wr))
  case atStart => exact ⟨0, rfl, Nat.zero_le _, by omega, by simpa using S0⟩
  case round =>
    clear S0
    obtain ⟨i, rfl, hin, hg, S1⟩ := hrel
    by_cases hlt : i < n
    · have hltz : (i : Int) < (n : Int) := by omega
      obtain ⟨dk, hdk⟩ : ∃ dk : Array At, (X ++ (V.take i ++ U.drop i) ++ M ++ (U.take i ++ V.drop i) ++ Z).toArray = dk := ⟨_, rfl⟩
      have hds : dk.size = d0.size := by rw [← hdk]; simp; omega
      have ea44 : ((a : Int) + (i : Int)).toNat = a + i := by omega
      have pa44 : (0 : Int) ≤ (a : Int) + (i : Int) := by omega
      have ba44 : (a : Int) + (i : Int) < (d0.size : Int) := by omega
      have ra44 : IntKind.i64.wrap ((a : Int) + (i : Int)) = (a : Int) + (i : Int) := by rw [IntKind.wrap_i64]; omega
      have ec44 : ((b : Int) + (i : Int)).toNat = b + i := by omega
      have pc44 : (0 : Int) ≤ (b : Int) + (i : Int) := by omega
      have bc44 : (b : Int) + (i : Int) < (d0.size : Int) := by omega
      have rc44 : IntKind.i64.wrap ((b : Int) + (i : Int)) = (b : Int) + (i : Int) := by rw [IntKind.wrap_i64]; omega
      have hsw : swp dk (a + i) (b + i) = (X ++ (V.take (i + 1) ++ U.drop (i + 1)) ++ M ++ (U.take (i + 1) ++ V.drop (i + 1)) ++ Z).toArray := by
        have hu : U.drop i = U[i]'(by omega) :: U.drop (i + 1) := List.drop_eq_getElem_cons (by omega)
        have hv : V.drop i = V[i]'(by omega) :: V.drop (i + 1) := List.drop_eq_getElem_cons (by omega)
        have e1 : V.take (i + 1) = V.take i ++ [V[i]'(by omega)] := (List.take_append_getElem (by omega)).symm
        have e2 : U.take (i + 1) = U.take i ++ [U[i]'(by omega)] := (List.take_append_getElem (by omega)).symm
        have := swp_mid (X ++ V.take i) (U.drop (i + 1) ++ M ++ U.take i) (V.drop (i + 1) ++ Z) (U[i]'(by omega)) (V[i]'(by omega)) (a + i) (b + i) (by simp; omega) (by simp; omega)
        rw [← hdk, hu, hv, e1, e2]
        simp only [List.append_assoc, List.cons_append, List.nil_append] at this ⊢
        exact this
      have S1' : SWK enc k w0 blk 0 dk wr := by rw [← hdk]; exact S1.out
      have S2 := S1'.swapped R (a + i) (b + i) (by omega) (by omega)
      rw [hsw] at S2
      have S3 : Aside _ := S2
      have l44a := S1'.ld1 R (by omega) P (a + i) (by omega)
      have l44b := S1'.ld1 R (by omega) P (b + i) (by omega)
      have s44a := S1'.st1 R (by omega) P (a + i) (by omega) dk[b + i]!
      have s44b := S1'.st2 R (by omega) P (a + i) (b + i) (by omega) (by omega) dk[b + i]! dk[a + i]!
      have n44a : (enc dk[a + i]!).length = k := R.hk _
      have n44b : (enc dk[b + i]!).length = k := R.hk _
      clear S1 S1' S2 hsw ha hb
      simp only [Nat.zero_add] at S3 l44a l44b s44a s44b
      generalize enc dk[a + i]! = cI44 at S3 l44a s44b n44a
      generalize enc dk[b + i]! = cJ44 at S3 l44b s44a s44b n44b
      go_wp2_with fail
      go_big_region_o
      clear l44a l44b s44a s44b
      generalize (wr.drew.setCells blk ((a + i) * k) cJ44).setCells blk ((b + i) * k) cI44 = w2 at S3 ⊢
      go_wp2
      go_roundg (n - (i + 1))
      case measure => omega
      case rel => exact ⟨i + 1, by go_num, by omega, Nat.le_refl _, S3⟩
    · have hltz : ¬ (i : Int) < (n : Int) := by omega
      have hi : i = n := by omega
      subst hi
      go_wp2
      go_end0
      refine ⟨rfl, ?_⟩
      have := S1.out
      rw [List.take_of_length_le (by omega), List.drop_of_length_le (by omega), List.take_of_length_le (by omega), List.drop_of_length_le (by omega)] at this
      simpa using this

set_option maxHeartbeats 4000000 in
set_option maxRecDepth 1000000 in
theorem rotate_any {P : Program} {k : Nat} (L : Lay P k) (g : Nat) (cb : Array Value) (blk cap : Nat) (d0 : Array At) (w0 w : World) (X A B Z : List At) (a m b : Nat) (R : Rw k w0 blk d0) (hA : 0 < A.length) (hB : 0 < B.length) (ha : a = X.length) (hm : m = X.length + A.length) (hb : b = X.length + A.length + B.length)
    (hs : d0.size = X.length + A.length + B.length + Z.length) (hsz : d0.size < 4611686018427387904) (S : Sw k w0 blk (X ++ A ++ B ++ Z) w) :
    Calls P 77 #[.slice (some ⟨blk, 0, none⟩) d0.size cap, .int .i64 a, .int .i64 m, .int .i64 b, .func (.func g) #[] cb] w fun e w' => e = .returned (.tuple #[]) ∧ Sw k w0 blk (X ++ B ++ A ++ Z) w' := by
  have mixed := L.mixed; have t0 := L.t0; have a0 := L.a0; have z0 := L.z0; have v0 := L.v0; have t3 := L.t3; have a3 := L.a3; have z3 := L.z3; have v3 := L.v3; have t4 := L.t4; have a4 := L.a4; have z4 := L.z4; have v4 := L.v4; have tl := L.tl; have al := L.al; have zl := L.zl; have vl := L.vl; have tf := L.tf; have af := L.af; have zf := L.zf; have vf := L.vf; have ae := L.ae; have ze := L.ze
  have FG := L.f_rot
  have e81 : ∀ args w, (callFunc 81 args).run P w = .ok (.enter 81 args) w := enters_of L.f_swap (by kernel_rfl) rfl
  have LL : Aside (Lay P k) := L
  clear L
  obtain ⟨T, hT⟩ : ∃ T, X ++ B ++ A ++ Z = T := ⟨_, rfl⟩
  rw [hT]
  have S0 : Aside (Sw k w0 blk (X ++ A ++ B ++ Z) w) := S
  have HT : Aside (X ++ B ++ A ++ Z = T) := hT
  obtain ⟨i0, hi0⟩ : ∃ i, A.length = i := ⟨_, rfl⟩
  obtain ⟨j0, hj0⟩ : ∃ i, B.length = i := ⟨_, rfl⟩
  have q1 : (m : Int) - (a : Int) = (i0 : Int) := by omega
  have q2 : (b : Int) - (m : Int) = (j0 : Int) := by omega
  have q3 : IntKind.i64.wrap (i0 : Int) = (i0 : Int) := by rw [IntKind.wrap_i64]; omega
  have q4 : IntKind.i64.wrap (j0 : Int) = (j0 : Int) := by rw [IntKind.wrap_i64]; omega
  have hms : m + j0 ≤ d0.size := by omega
  have hmi : X.length + i0 = m := by omega
  clear S hT
  go_enter FG, Try.ntmps77
  clear ha hm hb
  go_wp2
  go_loopg [10, 11] (i0 + j0) (fun gg s10 s11 wr => ∃ (i j : Nat) (X' A' B' Z' : List At), s10 = .int .i64 i ∧ s11 = .int .i64 j ∧ 0 < i ∧ 0 < j ∧ A'.length = i ∧ B'.length = j ∧ X'.length + i = m ∧ m + j ≤ d0.size ∧ i + j ≤ gg ∧ d0.size = X'.length + i + j + Z'.length ∧ Aside (X' ++ B' ++ A' ++ Z' = T) ∧ Aside (Sw k w0 blk (X' ++ A' ++ B' ++ Z') wr))
  case atStart => exact ⟨i0, j0, X, A, B, Z, rfl, rfl, by omega, by omega, hi0, hj0, hmi, hms, Nat.le_refl _, by omega, HT, S0⟩
  case round =>
    clear S0 HT hA hB hi0 hj0 hmi hms q1 q2 q3 q4 hs
    obtain ⟨i, j, X', A', B', Z', rfl, rfl, hi, hj, hA', hB', hX', hmj, hg, hs', HT, S1⟩ := hrel
    have HP : Aside (A'.length = i ∧ B'.length = j ∧ X'.length + i = m ∧ d0.size = X'.length + i + j + Z'.length) := ⟨hA', hB', hX', hs'⟩
    by_cases hij : i = j
    · subst hij
      have k1 : ((i : Int) == (i : Int)) = true := by simp
      have k2 : (m : Int) - (i : Int) = ((X'.length : Nat) : Int) := by omega
      have k3 : IntKind.i64.wrap ((X'.length : Nat) : Int) = ((X'.length : Nat) : Int) := by rw [IntKind.wrap_i64]; omega
      have hc := swaprange_any LL.out g cb blk cap d0 w0 wr X' A' [] B' Z' i X'.length m R hA' hB' rfl (by simp; omega) (by simp; omega) hsz (by simpa using S1.out)
      clear hA' hB' hX' hs'
      go_wp2_with (go_at_fn 81; refine hc.mono ?_; rintro e w' ⟨rfl, S2⟩)
      go_end0
      refine ⟨rfl, ?_⟩
      rw [← HT.out]
      simpa using S2
    · have k0 : ((i : Int) == (j : Int)) = false := beq_false_of_ne (by omega)
      by_cases hlt : j < i
      · have k1 : (j : Int) < (i : Int) := by omega
        have k2 : (m : Int) - (i : Int) = ((X'.length : Nat) : Int) := by omega
        have k3 : IntKind.i64.wrap ((X'.length : Nat) : Int) = ((X'.length : Nat) : Int) := by rw [IntKind.wrap_i64]; omega
        have k4 : IntKind.i64.wrap ((i : Int) - (j : Int)) = (i : Int) - (j : Int) := by rw [IntKind.wrap_i64]; omega
        have hc := swaprange_any LL.out g cb blk cap d0 w0 wr X' (A'.take j) (A'.drop j) B' Z' j X'.length m R (by simp; omega) hB' rfl (by simp; omega) (by simp; omega) hsz (by
          have := S1.out
          rw [← List.take_append_drop j A'] at this
          simpa [List.append_assoc] using this)
        clear hA' hB' hX' hs'
        go_wp2_with (go_at_fn 81; refine hc.mono ?_; rintro e w' ⟨rfl, S2⟩)
        go_roundg (i - j + j)
        case measure => omega
        case rel =>
          obtain ⟨hA', hB', hX', hs'⟩ := HP.out
          refine ⟨i - j, j, X' ++ B', A'.drop j, A'.take j, Z', by go_num, rfl, by omega, hj, by simp; omega, by simp; omega, by simp; omega, hmj, by omega, by simp; omega, (?_ : _ = _), (?_ : Sw _ _ _ _ _)⟩
          · rw [← HT.out]
            simp
          · simpa [List.append_assoc] using S2
      · have k1 : ¬ ((j : Int) < (i : Int)) := by omega
        have k2 : (m : Int) - (i : Int) = ((X'.length : Nat) : Int) := by omega
        have k3 : IntKind.i64.wrap ((X'.length : Nat) : Int) = ((X'.length : Nat) : Int) := by rw [IntKind.wrap_i64]; omega
        have k4 : IntKind.i64.wrap ((j : Int) - (i : Int)) = (j : Int) - (i : Int) := by rw [IntKind.wrap_i64]; omega
        obtain ⟨q, hq⟩ : ∃ q : Nat, m + j - i = q := ⟨_, rfl⟩
        have k5 : IntKind.i64.wrap ((m : Int) + (j : Int)) = (m : Int) + (j : Int) := by rw [IntKind.wrap_i64]; omega
        have k6 : (m : Int) + (j : Int) - (i : Int) = (q : Int) := by omega
        have k7 : IntKind.i64.wrap (q : Int) = (q : Int) := by rw [IntKind.wrap_i64]; omega
        have hc := swaprange_any LL.out g cb blk cap d0 w0 wr X' A' (B'.take (j - i)) (B'.drop (j - i)) Z' i X'.length q R hA' (by simp; omega) rfl (by simp; omega) (by simp; omega) hsz (by
          have := S1.out
          rw [← List.take_append_drop (j - i) B'] at this
          simpa [List.append_assoc] using this)
        have hij2 : i < j := by omega
        clear hq hij
        clear hA' hB' hX' hs'
        go_wp2_with (go_at_fn 81; refine hc.mono ?_; rintro e w' ⟨rfl, S2⟩)
        go_roundg (i + (j - i))
        case measure => omega
        case rel =>
          obtain ⟨hA', hB', hX', hs'⟩ := HP.out
          refine ⟨i, j - i, X', B'.drop (j - i), B'.take (j - i), A' ++ Z', rfl, by go_num, hi, by omega, by simp; omega, by simp; omega, by omega, by omega, by omega, by simp; omega, (?_ : _ = _), (?_ : Sw _ _ _ _ _)⟩
          · rw [← HT.out]
            simp
          · simpa [List.append_assoc] using S2
end Go.Proofs.Ytpjldoahinocjaa.P06
