/-
  What the document's Find does.
-/
import Derived.Test.YtndcdidepdcmnaaKS05Bytes
namespace Go.Proofs.Ytndcdidepdcmnaa.S05
open Go.RowKit Go.Lib Go.Maps Go.Proofs.Ytndcdidepdcmnaa.Wd Go.Proofs.Ytndcdidepdcmnaa.V01

theorem find_first (L : List ByteArray) (s : ByteArray) (k : Nat) (hk : k < L.length) (h : ∀ j (hj : j < L.length), j < k → L[j] ≠ s) (he : L[k] = s) : s ∈ L ∧ ix L s = k := by
  have hm : s ∈ L := he ▸ List.getElem_mem hk
  refine ⟨hm, ?_⟩
  have h1 : ix L s ≤ k := by
    rcases Nat.lt_or_ge k (ix L s) with h2 | h2
    · exact absurd he (by have := List.not_of_lt_findIdx (p := fun x => decide (x = s)) h2; simpa using this)
    · exact h2
  rcases Nat.lt_or_ge (ix L s) k with h2 | h2
  · exact absurd (ix_get hm) (h _ (ix_lt hm) h2)
  · omega
def FRel (L : List ByteArray) (s : ByteArray) (k : Nat) : Prop := ∀ j (hj : j < L.length), j < k → L[j] ≠ s
theorem f_step (L : List ByteArray) (s : ByteArray) (k : Nat) (hk : k < L.length) (h : FRel L s k) (hn : L[k] ≠ s) : FRel L s (k + 1) := fun j hj hl => by
  by_cases e : j = k
  · subst e; exact hn
  · exact h j hj (by omega)
theorem f_end (L : List ByteArray) (s : ByteArray) (k : Nat) (hk : L.length ≤ k) (h : FRel L s k) : s ∉ L := fun hm => by
  obtain ⟨i, hi, he⟩ := List.getElem_of_mem hm
  exact h i hi (by omega) he

set_option maxRecDepth 20000 in
set_option maxHeartbeats 1000000 in
theorem find_any (A : Option Addr) (c len : Nat) (L : List ByteArray) (s : ByteArray) (w : World) (h : Ss w A c L) (hlen : L.length = len) :
    Calls Try.prog 31 #[.slice A len c, .string s] w fun e w' => ∃ z : Int, e = .returned (.int .i64 z) ∧ w = w' ∧ (s ∈ L → z = ix L s) ∧ (s ∉ L → z = -1) := by
  have hcap := h.cap
  have hmax := h.max
  unfold maxLen at hmax
  rw [hlen] at hcap
  have HL := Lib.hid hlen
  clear hlen
  go_enter Try.func31, Try.ntmps31
  go_wp2
  go_loop [5] (fun i => ∃ k : Nat, i = .int .i64 k ∧ k ≤ len ∧ FRel L s k) (fun i => len - (RowKit.intOf i).toNat)
  case atStart => exact ⟨0, rfl, by omega, fun _ _ h => by omega⟩
  case round =>
    obtain ⟨k, rfl, hk, hR⟩ := hrel
    by_cases hkn : k < len
    · have hkL : k < L.length := by rw [HL.out]; exact hkn
      obtain ⟨ad, rfl, hc⟩ := h.get hkL
      obtain ⟨x, hx⟩ : ∃ x, L[k] = x := ⟨_, rfl⟩
      rw [hx] at hc
      by_cases he : x = s
      · have F := Lib.hid (find_first L s k hkL hR (by rw [hx]; exact he))
        have hb := eq_tl he
        clear hR
        have HX := Lib.hid hx
        have HE := Lib.hid he
        clear hx he h
        go_wp2
        go_ret
        exact ⟨_, rfl, rfl, fun _ => by rw [F.out.2], fun hn => absurd F.out.1 hn⟩
      · have R := f_step L s k hkL hR (by rw [hx]; exact he)
        have hb := ne_tl he
        have HX := Lib.hid hx
        clear hx hR h
        go_wp2
        go_round
        case rel => exact ⟨k + 1, by go_num, by omega, R⟩
        case measure => simp [RowKit.intOf]; omega
    · have F := Lib.hid (f_end L s k (by rw [HL.out]; omega) hR)
      clear hR h
      go_wp2
      go_ret
      exact ⟨_, rfl, rfl, fun hm => absurd hm F.out, fun _ => rfl⟩
end Go.Proofs.Ytndcdidepdcmnaa.S05
