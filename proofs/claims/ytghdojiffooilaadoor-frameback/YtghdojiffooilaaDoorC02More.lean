/-
  What half, More and Sum do, the table being as the program lays it.
-/
import Derived.Test.YtghdojiffooilaaDoorRows
import Derived.Test.YtghdojiffooilaaDoorC02Pure
import Derived.Test.YtghdojiffooilaaDoorWords
import Derived.WalkKit
import Derived.Lib.Hide
import Derived.WalkSpells
import Derived.WalkLawsBesides
namespace Go.Proofs.YtghdojiffooilaaDoor.C02
open Go.RowKit Go.Lib Go.Proofs.YtghdojiffooilaaDoor.Wd

theorem ret_int {k : IntKind} {a b : Int} (h : a = b) : Ending.returned (.int k a) = .returned (.int k b) := by rw [h]

/-- the table lies as the program's text lays it -/
def Tb (w : World) : Prop := ∀ i, i < 16 → w.cell? ⟨0, i, none⟩ = some (.int .u32 ((stp 4 i : Nat) : Int))
theorem Tb.below {w w' : World} (h : Tb w) (hb : Below w.heap.size w w') : Tb w' := fun i hi => by
  have hc := h i hi
  rw [hb.cell (World.block_lt_of_cell? _ _ hc)]
  exact hc

set_option maxRecDepth 20000 in
theorem half_any (n : Nat) (w : World) (hT : Tb w) (hn : (n : Int) ≤ 4294967295) :
    Calls Tryd.prog 28 #[.int .u32 n] w fun e w' => e = .returned (.int .u32 (stp 4 n : Nat)) ∧ w = w' := by
  have hc := hT (n % 16) (by omega)
  have hx : bits .xor .u32 ((n : Int) / 16) ((stp 4 (n % 16) : Nat) : Int) = ((stp 4 n : Nat) : Int) := by
    have h1 : n / 16 < 4294967296 := by omega
    have h2 : stp 4 (n % 16) < 4294967296 := stp_lt _ _ (by omega)
    have := u32_xor_nat (n / 16) (stp 4 (n % 16)) h1 h2
    rw [half_eq] at this
    simpa using this
  go_enter Tryd.func28, Tryd.ntmps28
  go_wp2
  go_ret
  exact ⟨rfl, rfl⟩

theorem not_any (a : Nat) (h : a < 4294967296) : bits .xor .u32 IntKind.u32.max (a : Int) = ((4294967295 - a : Nat) : Int) := by
  rw [show IntKind.u32.max = ((4294967295 : Nat) : Int) from by decide, u32_xor_nat _ a (by omega) h, ← not_xor a h]
/-- a number of 32 bits, behind a name -/
def In32 (m : Nat) : Prop := (m : Int) ≤ 4294967295
def MoreRel (s : Nat) (l : List UInt8) (k m : Nat) : Prop := crc s (l.take k) = m
theorem more_step (s : Nat) (l : List UInt8) (k m : Nat) (h : MoreRel s l k m) (hk : k < l.length) : MoreRel s l (k + 1) (stp 4 (stp 4 (m ^^^ l[k].toNat))) := by
  unfold MoreRel at *
  rw [List.take_add_one, List.getElem?_eq_getElem hk]
  show crc s (l.take k ++ [l[k]]) = _
  rw [crc_snoc, h]
  exact stp_add 4 4 _
theorem more_end (s : Nat) (l : List UInt8) (m : Nat) (h : MoreRel s l l.length m) : m = crc s l := by
  unfold MoreRel at h
  rw [List.take_length] at h
  exact h.symm

set_option maxRecDepth 20000 in
set_option maxHeartbeats 400000 in
theorem more_any (A : Option Addr) (c : Nat) (l : List UInt8) (m : Nat) (w : World) (hT : Tb w) (ha : Bs w A c l) (hl : l.length ≤ 65536) (hm : (m : Int) ≤ 4294967295) :
    Calls Tryd.prog 27 #[.int .u32 m, .slice A l.length c] w fun e w' => e = .returned (.int .u32 ((4294967295 - crc (4294967295 - m) l : Nat))) ∧ w = w' := by
  have hnot := not_any m (by omega)
  obtain ⟨s, hs⟩ : ∃ s, 4294967295 - m = s := ⟨_, rfl⟩
  rw [hs] at hnot ⊢
  have hs1 : s < 4294967296 := by omega
  clear hs
  go_enter Tryd.func27, Tryd.ntmps27
  go_wp2
  go_loop [5, 12] (fun a i => ∃ k x : Nat, a = .int .u32 (x : Int) ∧ i = .int .i64 (k : Int) ∧ In32 x ∧ k ≤ l.length ∧ MoreRel s l k x) (fun _ i => l.length - (intOf i).toNat)
  case atStart => exact ⟨0, s, rfl, rfl, by unfold In32; omega, by omega, rfl⟩
  case round =>
    obtain ⟨k, x, rfl, rfl, hx0, hk, hr⟩ := hrel
    have hx : (x : Int) ≤ 4294967295 := hx0
    clear hx0
    by_cases h : k < l.length
    · obtain ⟨ad, rfl, hcell⟩ := ha.get h
      have R := more_step s l k x hr h
      have hb := u8_lt l[k]
      obtain ⟨b, hbe⟩ : ∃ b, l[k].toNat = b := ⟨_, rfl⟩
      rw [hbe] at hcell R hb
      have hxo := u32_xor_nat x b (by omega) (by omega)
      have hy : x ^^^ b < 4294967296 := Nat.xor_lt_two_pow (n := 32) (by omega) (by omega)
      obtain ⟨y, hye⟩ : ∃ y, x ^^^ b = y := ⟨_, rfl⟩
      rw [hye] at hxo R hy
      have hz : stp 4 y < 4294967296 := stp_lt _ _ hy
      obtain ⟨z, hze⟩ : ∃ z, stp 4 y = z := ⟨_, rfl⟩
      rw [hze] at R hz
      have hu : stp 4 z < 4294967296 := stp_lt _ _ hz
      have HZ := Lib.hid hze
      clear hr hnot hbe hye hze
      go_wp2_with fail
      refine (half_any y _ hT (by omega)).mono ?_
      rintro e w1 ⟨rfl, rfl⟩
      rw [HZ.out]
      go_wp2_with fail
      refine (half_any z _ hT (by omega)).mono ?_
      rintro e w1 ⟨rfl, rfl⟩
      go_wp2
      go_round
      case rel => exact ⟨k + 1, _, rfl, by go_num, by unfold In32; omega, by omega, R⟩
      case measure => simp [intOf]; omega
    · have hkl : k = l.length := by omega
      subst hkl
      have E := Lib.hid (more_end s l x hr)
      have hn2 := not_any x (by omega)
      clear hr hnot
      go_wp2
      go_ret
      exact ⟨ret_int (by rw [← E.out]), rfl⟩

theorem more_at (A : Option Addr) (c len : Nat) (M : Int) (l : List UInt8) (m r : Nat) (w : World) (hT : Tb w) (ha : Bs w A c l) (hlen : l.length = len) (hl : len ≤ 65536) (hM : M = (m : Int)) (hm : M ≤ 4294967295) (hr : 4294967295 - crc (4294967295 - m) l = r) :
    Calls Tryd.prog 27 #[.int .u32 M, .slice A len c] w fun e w' => e = .returned (.int .u32 (r : Nat)) ∧ w = w' := by
  subst hlen; subst hM; subst hr
  exact more_any A c l m w hT ha hl hm
set_option maxRecDepth 20000 in
theorem sum_at (A : Option Addr) (c len : Nat) (l : List UInt8) (r : Nat) (w : World) (hT : Tb w) (ha : Bs w A c l) (hlen : l.length = len) (hl : len ≤ 65536) (hr : sumOf l = r) :
    Calls Tryd.prog 24 #[.slice A len c] w fun e w' => e = .returned (.int .u32 (r : Nat)) ∧ w = w' := by
  go_enter Tryd.func24, Tryd.ntmps24
  go_wp2_with fail
  refine (more_at A c len 0 l 0 r _ hT ha hlen hl rfl (by decide) hr).mono ?_
  rintro e w1 ⟨rfl, rfl⟩
  go_wp2
  go_ret
  exact ⟨rfl, rfl⟩
end Go.Proofs.YtghdojiffooilaaDoor.C02
