/-
  What the small calls of varint do: Size, Zig, Zag.
-/
import Derived.Test.YtghdojiffooilaaDoorRows
import Derived.Test.YtghdojiffooilaaDoorV01Pure
import Derived.Test.YtghdojiffooilaaDoorBits
import Derived.WalkKit
import Derived.Lib.Hide
import Derived.WalkSpells
import Derived.WalkLawsBesides
namespace Go.Proofs.YtghdojiffooilaaDoor.V01
open Go.RowKit

theorem ret_int {k : IntKind} {a b : Int} (h : a = b) : Ending.returned (.int k a) = .returned (.int k b) := by rw [h]

/-- a number of 64 bits, behind a name -/
def In64 (m : Nat) : Prop := (m : Int) ≤ 18446744073709551615
def SizeRel (n f m k : Nat) : Prop := k + f ≤ 10 ∧ k + (vb f m).length = vsize n + 1
theorem size_step (n g m k : Nat) (h : SizeRel n (g + 1) m k) (e : vb (g + 1) m = (m % 128 + 128) :: vb g (m / 128)) : SizeRel n g (m / 128) (k + 1) := by
  obtain ⟨h1, h2⟩ := h
  rw [e] at h2
  simp only [List.length_cons] at h2
  exact ⟨by omega, by omega⟩
theorem size_end (n f m k : Nat) (h : SizeRel n f m k) (hm : m < 128) : k = vsize n := by
  obtain ⟨h1, h2⟩ := h
  rw [vb_small f m hm] at h2
  simp at h2
  omega

set_option maxRecDepth 20000 in
set_option maxHeartbeats 400000 in
theorem size_any (n : Nat) (w : World) (hn : (n : Int) ≤ 18446744073709551615) :
    Calls Tryd.prog 25 #[.int .u64 n] w fun e w' => e = .returned (.int .i64 (vsize n)) ∧ w = w' := by
  have hf := fit64 (n := n) (by omega)
  go_enter Tryd.func25, Tryd.ntmps25
  go_wp2
  go_loop [0, 3] (fun a s => ∃ f m k : Nat, a = .int .u64 m ∧ s = .int .i64 k ∧ In64 m ∧ k ≤ 10 ∧ Fit f m ∧ SizeRel n f m k) (fun a _ => (intOf a).toNat)
  case atStart => exact ⟨9, n, 1, rfl, rfl, hn, by omega, hf, by omega, by simp [vsize, vbytes]; omega⟩
  case round =>
    obtain ⟨f, m, k, rfl, rfl, hm0, hk, hfm, hr⟩ := hrel
    have hm : (m : Int) ≤ 18446744073709551615 := hm0
    clear hm0
    by_cases h : 128 ≤ m
    · obtain ⟨g, rfl, e, hg⟩ := fit_step f m h hfm
      have R := size_step n g m k hr e
      have hk9 : k + g + 1 ≤ 10 := hr.1
      have HE := Lib.hid e
      clear e hr hf
      go_wp2
      go_round
      case rel => exact ⟨g, m / 128, k + 1, by go_num, by go_num, by unfold In64; omega, by omega, hg, R⟩
      case measure => simp [intOf]; omega
    · have E := Lib.hid (size_end n f m k hr (by omega))
      clear hr hf hfm
      go_wp2
      go_ret
      exact ⟨ret_int (by rw [E.out]), rfl⟩

def zig (z : Int) : Int := if 0 ≤ z then 2 * z else -2 * z - 1
def zag (n : Int) : Int := if n % 2 = 0 then n / 2 else -(n / 2) - 1
theorem zig_bd (z : Int) (h1 : -9223372036854775808 ≤ z) (h2 : z ≤ 9223372036854775807) : 0 ≤ zig z ∧ zig z ≤ 18446744073709551615 := by unfold zig; split <;> omega
theorem zag_bd (z : Int) (h1 : 0 ≤ z) (h2 : z ≤ 18446744073709551615) : -9223372036854775808 ≤ zag z ∧ zag z ≤ 9223372036854775807 := by unfold zag; split <;> omega
theorem zag_zig (z : Int) : zag (zig z) = z := by unfold zag zig; split <;> split <;> omega
theorem zig_zag (n : Int) (h : 0 ≤ n) : zig (zag n) = n := by unfold zag zig; split <;> split <;> omega

end Go.Proofs.YtghdojiffooilaaDoor.V01
