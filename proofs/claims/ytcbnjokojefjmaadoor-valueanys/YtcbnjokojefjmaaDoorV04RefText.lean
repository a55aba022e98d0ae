/-
  What the document's Digits and Text do.
-/
import Derived.Test.YtcbnjokojefjmaaDoorV04Any
import Derived.Lib.ItoaMem
import Derived.Lib.ItoaLen
set_option linter.unusedSimpArgs false
set_option linter.unusedVariables false
namespace Go.Proofs.YtcbnjokojefjmaaDoor.V04
open Go.RowKit Go.Lib Go.Proofs.YtcbnjokojefjmaaDoor.Wd

theorem dd_small {u : Nat} (h : u / 10 = 0) : decDigits u = [UInt8.ofNat (48 + u % 10)] := by
  rw [decDigits, dif_pos (by omega), Nat.mod_eq_of_lt (by omega)]
theorem dd_step {u : Nat} (h : ¬ u / 10 = 0) : decDigits u = decDigits (u / 10) ++ [UInt8.ofNat (48 + u % 10)] := by
  rw [decDigits, dif_neg (by omega)]
/-- what is still to be written ahead of what is -/
def DigRel (u m : Nat) (l : List UInt8) : Prop := decDigits m ++ l = decDigits u ∧ l.length + nDigits m = nDigits u
def In64 (m : Nat) : Prop := (m : Int) ≤ 18446744073709551615
abbrev str (l : List UInt8) : ByteArray := ⟨l.toArray⟩
theorem str_size (l : List UInt8) : (str l).size = l.length := by simp [str, ByteArray.size]

theorem app_one (c : UInt8) (l : List UInt8) : (ByteArray.mk #[c]) ++ str l = str (c :: l) := by
  apply ByteArray.ext
  simp [str]
theorem dig_str (X : ByteArray) (c : UInt8) (l : List UInt8) (hX : str l = X) : Value.string (ByteArray.mk #[c] ++ X) = .string (str (c :: l)) := by rw [← hX, app_one]
theorem dig_step (u m : Nat) (l : List UInt8) (c : UInt8) (hc : UInt8.ofNat (48 + m % 10) = c) (h : DigRel u m l) (hz : ¬ m / 10 = 0) : DigRel u (m / 10) (c :: l) := by
  obtain ⟨h1, h2⟩ := h
  rw [dd_step hz, hc] at h1
  rw [nDigits_big (by omega)] at h2
  exact ⟨by rw [← h1]; simp, by rw [List.length_cons]; omega⟩
theorem dig_end (X : ByteArray) (c : UInt8) (l : List UInt8) (u m : Nat) (hX : str l = X) (hc : UInt8.ofNat (48 + m % 10) = c) (h : DigRel u m l) (hz : m / 10 = 0) : Ending.returned (.string (ByteArray.mk #[] ++ (ByteArray.mk #[c] ++ X))) = .returned (.string ⟨(decDigits u).toArray⟩) := by
  obtain ⟨h1, h2⟩ := h
  rw [dd_small hz, hc] at h1
  rw [← h1, ← hX, app_one]
  congr 2
theorem dig_end_neg (X : ByteArray) (c : UInt8) (l : List UInt8) (u m : Nat) (hX : str l = X) (hc : UInt8.ofNat (48 + m % 10) = c) (h : DigRel u m l) (hz : m / 10 = 0) : Ending.returned (.string (ByteArray.mk #[45] ++ (ByteArray.mk #[c] ++ X))) = .returned (.string ⟨(45 :: decDigits u).toArray⟩) := by
  obtain ⟨h1, h2⟩ := h
  rw [dd_small hz, hc] at h1
  rw [← h1, ← hX, app_one, app_one]
  rfl
theorem conv1 (w : World) (m : Nat) (c : UInt8) (hc : UInt8.ofNat (48 + m % 10) = c) : (convert 24 9 (.slice (some ⟨w.heap.size, 0, none⟩) 1 1)).run Tryd.prog (w.alloc (.cells #[.int .u8 (48 + (m : Int) % 10)] 5)) =
    .ok (.string (ByteArray.mk #[c])) (w.alloc (.cells #[.int .u8 (48 + (m : Int) % 10)] 5)) := by
  subst hc
  exact Bs.str (P := Tryd.prog) (Bs.lit w 5 #[.int .u8 (48 + (m : Int) % 10)] [UInt8.ofNat (48 + m % 10)] (by simp [byteCells]; omega) (by simp)) 24 9 5 Tryd.underlying24 Tryd.underlying5 Tryd.underlying9
theorem nd_le {u : Nat} (h : u ≤ 18446744073709551615) : nDigits u ≤ 20 := nDigits_le20 u (by omega)

set_option maxRecDepth 20000 in
set_option maxHeartbeats 1000000 in
theorem digits_any (n : Int) (w : World) (h0 : -9223372036854775808 ≤ n) (h1 : n ≤ 9223372036854775807) :
    Calls Tryd.prog 32 #[.int .i64 n] w fun e w' => e = .returned (.string ⟨(itoa n).toArray⟩) ∧ Below w.heap.size w w' := by
  by_cases hn : n < 0
  · obtain ⟨u, hu⟩ : ∃ u : Nat, n = -(u : Int) := ⟨n.natAbs, by omega⟩
    subst hu
    have hu20 := nd_le (u := u) (by omega)
    rw [itoa_neg u (by omega)]
    go_enter Tryd.func32, Tryd.ntmps32
    go_wp2
    go_loopw [4, 5] (fun a s wr => ∃ m l, a = .int .u64 (m : Nat) ∧ s = .string (str l) ∧ In64 m ∧ DigRel u m l ∧ Below w.heap.size w wr) (fun a _ _ => (RowKit.intOf a).toNat)
    case atStart => exact ⟨u, [], by go_num, rfl, by unfold In64; omega, ⟨by simp, by simp⟩, Below.refl _ _⟩
    case round =>
      obtain ⟨m, l, rfl, rfl, hm0, hr, hb⟩ := hrel
      have hm : (m : Int) ≤ 18446744073709551615 := hm0
      clear hm0
      obtain ⟨c, hc⟩ : ∃ c, UInt8.ofNat (48 + m % 10) = c := ⟨_, rfl⟩
      have hcv := conv1 wr m c hc
      obtain ⟨X, hX⟩ : ∃ X, str l = X := ⟨_, rfl⟩
      have hXs : X.size = l.length := by rw [← hX]; exact str_size l
      have hl := hr.2
      have hc1 : ¬ (9223372036854775807 < (ByteArray.mk #[c]).size + X.size) := by
        rw [show (ByteArray.mk #[c]).size = 1 from rfl]; omega
      have HC := Lib.hid hc
      have HX := Lib.hid hX
      have HR := Lib.hid hr
      rw [hX]
      clear hc hX hr
      by_cases hz : m / 10 = 0
      · have hzi : (m : Int) / 10 = 0 := by omega
        go_wp2
        go_ret
        refine ⟨dig_end_neg X c l u m (un HX) (un HC) (un HR) hz, hb.alloc hb.size _⟩
      · have hzi : ¬ (m : Int) / 10 = 0 := by omega
        go_wp2
        go_roundw
        case rel => exact ⟨m / 10, c :: l, by go_num, dig_str X c l (un HX), by unfold In64; omega, dig_step u m l c (un HC) (un HR) hz, hb.alloc hb.size _⟩
        case measure => simp [RowKit.intOf]; omega
  · obtain ⟨u, hu⟩ : ∃ u : Nat, n = (u : Int) := ⟨n.toNat, by omega⟩
    subst hu
    have hu20 := nd_le (u := u) (by omega)
    rw [itoa_nonneg u]
    go_enter Tryd.func32, Tryd.ntmps32
    go_wp2
    go_loopw [4, 5] (fun a s wr => ∃ m l, a = .int .u64 (m : Nat) ∧ s = .string (str l) ∧ In64 m ∧ DigRel u m l ∧ Below w.heap.size w wr) (fun a _ _ => (RowKit.intOf a).toNat)
    case atStart => exact ⟨u, [], by go_num, rfl, by unfold In64; omega, ⟨by simp, by simp⟩, Below.refl _ _⟩
    case round =>
      obtain ⟨m, l, rfl, rfl, hm0, hr, hb⟩ := hrel
      have hm : (m : Int) ≤ 18446744073709551615 := hm0
      clear hm0
      obtain ⟨c, hc⟩ : ∃ c, UInt8.ofNat (48 + m % 10) = c := ⟨_, rfl⟩
      have hcv := conv1 wr m c hc
      obtain ⟨X, hX⟩ : ∃ X, str l = X := ⟨_, rfl⟩
      have hXs : X.size = l.length := by rw [← hX]; exact str_size l
      have hl := hr.2
      have hc1 : ¬ (9223372036854775807 < (ByteArray.mk #[c]).size + X.size) := by
        rw [show (ByteArray.mk #[c]).size = 1 from rfl]; omega
      have HC := Lib.hid hc
      have HX := Lib.hid hX
      have HR := Lib.hid hr
      rw [hX]
      clear hc hX hr
      by_cases hz : m / 10 = 0
      · have hzi : (m : Int) / 10 = 0 := by omega
        go_wp2
        go_ret
        refine ⟨dig_end X c l u m (un HX) (un HC) (un HR) hz, hb.alloc hb.size _⟩
      · have hzi : ¬ (m : Int) / 10 = 0 := by omega
        go_wp2
        go_roundw
        case rel => exact ⟨m / 10, c :: l, by go_num, dig_str X c l (un HX), by unfold In64; omega, dig_step u m l c (un HC) (un HR) hz, hb.alloc hb.size _⟩
        case measure => simp [RowKit.intOf]; omega
/-- the document's text of a right value -/
def refText (K N : Int) (S : ByteArray) : List UInt8 := if K = 1 then itoa N else if K = 2 then (if N = 1 then [116, 114, 117, 101] else [102, 97, 108, 115, 101]) else S.data.toList
theorem ref_text {K N : Int} {S : ByteArray} (h : right K N S = true) : refText K N S = (anyOf K N S).text := by
  unfold refText anyOf
  rw [if_pos h]
  by_cases h1 : K = 1
  · rw [if_pos h1, if_pos h1]; rfl
  · rw [if_neg h1, if_neg h1]
    by_cases h2 : K = 2
    · rw [if_pos h2, if_pos h2]
      by_cases h3 : N = 1
      · subst h3; decide
      · rw [if_neg h3, show (N == 1) = false from beq_eq_false_iff_ne.2 h3]; decide
    · rw [if_neg h2, if_neg h2]; rfl
set_option maxRecDepth 20000 in
theorem reftext_at (K N : Int) (S : ByteArray) (r : List UInt8) (w : World) (h0 : -9223372036854775808 ≤ N) (h1 : N ≤ 9223372036854775807) (hr : refText K N S = r) :
    Calls Tryd.prog 20 #[vl K N S] w fun e w' => e = .returned (.string ⟨r.toArray⟩) ∧ Below w.heap.size w w' := by
  have HR := Lib.hid hr
  clear hr
  go_enter Tryd.func20, Tryd.ntmps20
  go_wp2_with (go_at_call 32; refine (digits_any N _ h0 h1).mono ?_; rintro e w1 ⟨rfl, hb⟩)
  all_goals go_ret
  all_goals (rw [← un HR]; clear HR)
  all_goals refine ⟨?_, by first | exact below_box _ _ (Nat.le_refl _) | exact (below_box _ _ (Nat.le_refl _)).trans (hb.mono (by simp))⟩
  all_goals (refine congrArg Ending.returned ?_; simp_all [refText])
end Go.Proofs.YtcbnjokojefjmaaDoor.V04
