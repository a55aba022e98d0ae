/-
  The walk of CrcSums: the sum of any bytes, in one or by parts.
-/
import Derived.Test.YtlkghiiknipfcaaDoorC02Open
import Derived.Test.YtlkghiiknipfcaaDoorC02Laid
namespace Go.Proofs.YtlkghiiknipfcaaDoor.C02
open Go.RowKit Go.Lib Go.Proofs.YtlkghiiknipfcaaDoor.Wd

theorem more_same (A : Option Addr) (c len : Nat) (M : Int) (l : List UInt8) (m r : Nat) (w : World) (hT : Tb w) (ha : Bs w A c l) (hlen : l.length = len) (hl : len ≤ 65536) (hM : M = (m : Int)) (hm : M ≤ 4294967295) (hr : 4294967295 - crc (4294967295 - m) l = r) :
    Calls Tryd.prog 10 #[.int .u32 M, .slice A len c] w fun e w' => e = .returned (.int .u32 (r : Nat)) ∧ w' = w := (more_at A c len M l m r w hT ha hlen hl hM hm hr).mono fun _ _ h => ⟨h.1, h.2.symm⟩
/-- the sum of parts -/
theorem more_sum (a b : List UInt8) : 4294967295 - crc (4294967295 - sumOf a) b = sumOf (a ++ b) := by
  have := crc_lt 4294967295 a (by omega)
  unfold sumOf
  rw [show 4294967295 - (4294967295 - crc 4294967295 a) = crc 4294967295 a from by omega, crc_append]

set_option maxRecDepth 20000 in
set_option maxHeartbeats 2000000 in
theorem sums_law (p : Nat) (A : Option Addr) (c len : Nat) (l : List UInt8) (w : World) (hp : (p : Int) ≤ 65535) (hT : Tb w) (ha : Bs w A c l) (hlen : l.length = len) :
    Calls Tryd.prog 3 #[.slice A len c, .int .u16 p] w fun e w' => e = .returned (.bool true) ∧ Below w.heap.size w w' := by
  have hlm := Nat.le_trans ha.cap ha.max
  unfold maxLen at hlm
  by_cases hl : len ≤ 3000
  · obtain ⟨r, hr⟩ : ∃ r, sumOf l = r := ⟨_, rfl⟩
    obtain ⟨k, hk⟩ : ∃ k, p % (len + 1) = k := ⟨_, rfl⟩
    have hkl : k ≤ len := by have := Nat.mod_lt p (show 0 < len + 1 by omega); omega
    have hrem : (p : Int) % ((len : Int) + 1) = (k : Int) := by rw [← hk]; simp
    go_enter Tryd.func3, Tryd.ntmps3
    go_wp2_with fail
    refine (alive_any _ hT).mono ?_
    rintro e w1 ⟨rfl, hb1⟩
    have ha1 := ha.below hb1
    have hT1 := hT.below hb1
    clear ha hT
    go_wp2_with fail
    refine (refsum_at A c _ l r _ ha1 hlen (by omega) hr).mono ?_
    rintro e w2 ⟨rfl, rfl⟩
    go_wp2_with fail
    have q2 := ha1.take k (by omega)
    have q3 := ha1.drop k (by omega)
    unfold cutA at q3
    obtain ⟨s, hs⟩ : ∃ s, sumOf (l.take k) = s := ⟨_, rfl⟩
    have hsr : 4294967295 - crc (4294967295 - s) (l.drop k) = r := by rw [← hs, more_sum, List.take_append_drop, hr]
    have hsl := sumOf_lt (l.take k)
    rw [hs] at hsl
    have hc := ha1.cap
    have c1 := fun n => sum_same A c len l r (w1.drewN n) hT1 (ha1.drewN n) hlen (by omega) hr
    have c4 := fun n => more_same A c len 0 l 0 r (w1.drewN n) hT1 (ha1.drewN n) hlen (by omega) rfl (by decide) hr
    have c2 := fun n => sum_same A c k (l.take k) s (w1.drewN n) hT1 (q2.drewN n) (by simp; omega) (by omega) hs
    have p1 : (0 : Int) ≤ (k : Int) := by omega
    have p3 : (k : Int) ≤ (c : Int) := by omega
    have p4 : (k : Int).toNat = k := by omega
    by_cases hck : c = k
    · rw [if_pos hck] at q3
      have hkl2 : len = k := by omega
      have hs2 : s = r := by rw [← hs, ← hr, List.take_of_length_le (by omega)]
      have c3 := fun n => more_same A (c - k) (len - k) s (l.drop k) s r (w1.drewN n) hT1 (q3.drewN n) (by simp; omega) (by omega) rfl (by omega) hsr
      subst hck; subst hkl2; subst hs2
      rw [Nat.sub_self] at c3
      clear hs hsr hr hk hrem hsl hc q2 q3 hkl c2
      go_quiet (first
        | (go_at_call 9; with_reducible exact Calls.quiet_of_same (c1 _))
        | (go_at_call 10; with_reducible exact Calls.quiet_of_same (c3 _))
        | (go_at_call 10; with_reducible exact Calls.quiet_of_same (c4 _)))
      go_wp2
      go_ret
      exact ⟨rfl, below_dn hb1 _⟩
    · rw [if_neg hck] at q3
      have p2 : (k : Int) ≤ (len : Int) := by omega
      have c3 := fun n => more_same (A.map (·.add k)) (c - k) (len - k) s (l.drop k) s r (w1.drewN n) hT1 (q3.drewN n) (by simp; omega) (by omega) rfl (by omega) hsr
      clear hs hsr hr hk hrem hsl hc q2 q3 hkl
      go_quiet (first
        | (go_at_call 9; with_reducible exact Calls.quiet_of_same (c1 _))
        | (go_at_call 9; with_reducible exact Calls.quiet_of_same (c2 _))
        | (go_at_call 10; with_reducible exact Calls.quiet_of_same (c3 _))
        | (go_at_call 10; with_reducible exact Calls.quiet_of_same (c4 _)))
      go_wp2
      go_ret
      exact ⟨rfl, below_dn hb1 _⟩
  · have h1 : (3000 : Int) < len := by omega
    go_enter Tryd.func3, Tryd.ntmps3
    go_wp2_with fail
    refine (alive_any _ hT).mono ?_
    rintro e w1 ⟨rfl, hb1⟩
    go_wp2
    go_ret
    exact ⟨rfl, hb1⟩
end Go.Proofs.YtlkghiiknipfcaaDoor.C02
