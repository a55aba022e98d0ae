/-
  digest.more, Hash; the document's Hash.
-/
import Derived.Test.YtjbnoioildbahaaD9Pure
import Derived.WalkKit
import Derived.WalkSpells
set_option linter.unusedSimpArgs false
set_option linter.unusedVariables false
namespace Go.Proofs.Ytjbnoioildbahaa.D09
open Go.RowKit Go.Lib Go.Proofs.Ytjbnoioildbahaa.Wd

set_option maxRecDepth 20000 in
set_option maxHeartbeats 1000000 in
theorem more_at (h : Int) (A : Option Addr) (c len : Nat) (l : List UInt8) (r : Int) (w : World) (ha : Bs w A c l) (hlen : l.length = len) (hl : len ≤ 9000000) (hr : fnv h l = r) :
    Calls Try.prog 21 #[.int .u64 h, .slice A len c] w fun e w' => e = .returned (.int .u64 r) ∧ w = w' := by
  subst hlen
  have h0 : MoreR l r 0 h := hr
  go_enter Try.func21, Try.ntmps21
  go_wp2
  go_loop [0, 9] (fun a i => ∃ (k : Nat) (x : Int), a = .int .u64 x ∧ i = .int .i64 (k : Int) ∧ k ≤ l.length ∧ MoreR l r k x) (fun _ i => l.length - (intOf i).toNat)
  case atStart => exact ⟨0, h, rfl, rfl, by omega, h0⟩
  case round =>
    obtain ⟨k, x, rfl, rfl, hk, hrel⟩ := hrel
    clear h0
    by_cases h : k < l.length
    · obtain ⟨ad, rfl, hcell⟩ := ha.get h
      have R := hrel.step h
      have hb := u8_lt l[k]
      obtain ⟨b, hbe⟩ : ∃ b, l[k].toNat = b := ⟨_, rfl⟩
      rw [hbe] at hcell R hb
      unfold mix at R
      clear hrel hbe
      go_wp2
      go_round
      case rel => exact ⟨k + 1, _, rfl, by go_num, by omega, R⟩
      case measure => simp [intOf]; omega
    · have hkl : k = l.length := by omega
      subst hkl
      have E := Lib.hid hrel.fin
      clear hrel
      go_wp2
      go_ret
      exact ⟨ret_int (by rw [← E.out]), rfl⟩

theorem hash_at (A : Option Addr) (c len : Nat) (l : List UInt8) (r : Int) (w : World) (ha : Bs w A c l) (hlen : l.length = len) (hl : len ≤ 9000000) (hr : fnv first l = r) :
    Calls Try.prog 9 #[.slice A len c] w fun e w' => e = .returned (.int .u64 r) ∧ w = w' := by
  have h := more_at first A c len l r w ha hlen hl hr
  unfold first at h
  clear ha hlen hr
  go_enter Try.func9, Try.ntmps9
  go_wp2_with fail
  refine h.mono ?_
  rintro e w' ⟨rfl, rfl⟩
  go_wp2
  go_ret
  exact ⟨rfl, rfl⟩

set_option maxRecDepth 20000 in
set_option maxHeartbeats 1000000 in
theorem rhash_at (h : Int) (A : Option Addr) (c len : Nat) (l : List UInt8) (r : Int) (w : World) (ha : Bs w A c l) (hlen : l.length = len) (hl : len ≤ 9000000) (hr : fnv h l = r) :
    Calls Try.prog 8 #[.int .u64 h, .slice A len c] w fun e w' => e = .returned (.int .u64 r) ∧ w = w' := by
  subst hlen
  have h0 : MoreR l r 0 h := hr
  go_enter Try.func8, Try.ntmps8
  go_wp2
  go_loop [0, 5] (fun a i => ∃ (k : Nat) (x : Int), a = .int .u64 x ∧ i = .int .i64 (k : Int) ∧ k ≤ l.length ∧ MoreR l r k x) (fun _ i => l.length - (intOf i).toNat)
  case atStart => exact ⟨0, h, rfl, rfl, by omega, h0⟩
  case round =>
    obtain ⟨k, x, rfl, rfl, hk, hrel⟩ := hrel
    clear h0
    by_cases h : k < l.length
    · obtain ⟨ad, rfl, hcell⟩ := ha.get h
      have R := hrel.step h
      have hb := u8_lt l[k]
      obtain ⟨b, hbe⟩ : ∃ b, l[k].toNat = b := ⟨_, rfl⟩
      rw [hbe] at hcell R hb
      unfold mix at R
      clear hrel hbe
      go_wp2
      go_round
      case rel => exact ⟨k + 1, _, rfl, by go_num, by omega, R⟩
      case measure => simp [intOf]; omega
    · have hkl : k = l.length := by omega
      subst hkl
      have E := Lib.hid hrel.fin
      clear hrel
      go_wp2
      go_ret
      exact ⟨ret_int (by rw [← E.out]), rfl⟩
end Go.Proofs.Ytjbnoioildbahaa.D09
