/-
  What the document's own Sum does, bit by bit.
-/
import Derived.Test.YtghdojiffooilaaDoorC02More
namespace Go.Proofs.YtghdojiffooilaaDoor.C02
open Go.RowKit Go.Lib Go.Proofs.YtghdojiffooilaaDoor.Wd

def BitRel (y k x : Nat) : Prop := stp k y = x
theorem bit_step (y k x : Nat) (h : BitRel y k x) : BitRel y (k + 1) (stp1 x) := by
  unfold BitRel at *
  rw [stp_succ, h]
theorem more_byte (s : Nat) (l : List UInt8) (k m x : Nat) (h : MoreRel s l k m) (hk : k < l.length) (hx : BitRel (m ^^^ l[k].toNat) 8 x) : MoreRel s l (k + 1) x := by
  have := more_step s l k m h hk
  rw [← stp_add 4 4] at this
  unfold BitRel at hx
  rw [← hx]
  exact this

set_option maxRecDepth 20000 in
set_option maxHeartbeats 1000000 in
theorem refsum_at (A : Option Addr) (c len : Nat) (l : List UInt8) (r : Nat) (w : World) (ha : Bs w A c l) (hlen : l.length = len) (hl : len ≤ 65536) (hr : sumOf l = r) :
    Calls Tryd.prog 18 #[.slice A len c] w fun e w' => e = .returned (.int .u32 (r : Nat)) ∧ w = w' := by
  subst hlen
  go_enter Tryd.func18, Tryd.ntmps18
  go_wp2
  go_loop [3, 4] (fun a i => ∃ k x : Nat, a = .int .u32 (x : Int) ∧ i = .int .i64 (k : Int) ∧ In32 x ∧ k ≤ l.length ∧ MoreRel 4294967295 l k x) (fun _ i => l.length - (intOf i).toNat)
  case atStart => exact ⟨0, 4294967295, rfl, rfl, by unfold In32; omega, by omega, rfl⟩
  case round =>
    obtain ⟨k, x, rfl, rfl, hx0, hk, hrel⟩ := hrel
    have hx : (x : Int) ≤ 4294967295 := hx0
    clear hx0
    by_cases h : k < l.length
    · obtain ⟨ad, rfl, hcell⟩ := ha.get h
      have R := fun z => more_byte 4294967295 l k x z hrel h
      have hb := u8_lt l[k]
      obtain ⟨b, hbe⟩ : ∃ b, l[k].toNat = b := ⟨_, rfl⟩
      rw [hbe] at hcell R hb
      have hxo := u32_xor_nat x b (by omega) (by omega)
      have hy : x ^^^ b < 4294967296 := Nat.xor_lt_two_pow (n := 32) (by omega) (by omega)
      obtain ⟨y, hye⟩ : ∃ y, x ^^^ b = y := ⟨_, rfl⟩
      rw [hye] at hxo R hy
      clear hrel hbe hye
      go_wp2
      go_loop [3, 5] (fun a i => ∃ j x : Nat, a = .int .u32 (x : Int) ∧ i = .int .i64 (j : Int) ∧ In32 x ∧ j ≤ 8 ∧ BitRel y j x) (fun _ i => 8 - (intOf i).toNat)
      case atStart => exact ⟨0, y, rfl, rfl, by unfold In32; omega, by omega, rfl⟩
      case round =>
        obtain ⟨j, z, rfl, rfl, hz0, hj, hrel⟩ := hrel
        have hz : (z : Int) ≤ 4294967295 := hz0
        clear hz0
        by_cases hj8 : j < 8
        · have R2 := bit_step y j z hrel
          have hlt := stp1_lt z (by omega)
          clear hrel
          by_cases hodd : z % 2 = 1
          · have hxo2 : bits .xor .u32 ((z : Int) / 2) 3988292384 = ((stp1 z : Nat) : Int) := by
              have := u32_xor_nat (z / 2) 3988292384 (by omega) (by omega)
              unfold stp1
              rw [if_pos hodd]
              simpa using this
            have hb1 : ((z : Int) % 2 == 1) = true := by simp; omega
            clear hodd
            go_wp2
            go_round
            case rel => exact ⟨j + 1, _, rfl, by go_num, by unfold In32; omega, by omega, R2⟩
            case measure => simp [intOf]; omega
          · have hs2 : stp1 z = z / 2 := by unfold stp1; rw [if_neg hodd]
            rw [hs2] at R2
            have hb1 : ((z : Int) % 2 == 1) = false := by simp; omega
            clear hodd
            go_wp2
            go_round
            case rel => exact ⟨j + 1, z / 2, by go_num, by go_num, by unfold In32; omega, by omega, R2⟩
            case measure => simp [intOf]; omega
        · have hj9 : j = 8 := by omega
          subst hj9
          have R2 := R z hrel
          clear hrel R
          go_wp2
          go_round
          case rel => exact ⟨k + 1, z, rfl, by go_num, by unfold In32; omega, by omega, R2⟩
          case measure => simp [intOf]; omega
    · have hkl : k = l.length := by omega
      subst hkl
      have E := Lib.hid (more_end 4294967295 l x hrel)
      clear hrel
      go_wp2
      go_ret
      exact ⟨ret_int (by rw [← hr, sumOf, ← E.out]; omega), rfl⟩
end Go.Proofs.YtghdojiffooilaaDoor.C02
