/-
  The walk of CrcTells: what is sealed is opened; with one bit or two turned it isn't.
-/
import Derived.Test.YtghdojiffooilaaDoorC02Open
import Derived.Test.YtghdojiffooilaaDoorC02Laid
namespace Go.Proofs.YtghdojiffooilaaDoor.C02
open Go.RowKit Go.Lib Go.Proofs.YtghdojiffooilaaDoor.Wd

theorem open_right (l : List UInt8) (h4 : 4 ≤ l.length) (h : crc 4294967295 l = rest) : openF l = (l.take (l.length - 4), 0) := by
  unfold openF
  rw [if_neg (by omega), if_pos ((opens_iff l (l.length - 4) (by omega)).2 h)]
theorem open_wrong (l : List UInt8) (h4 : 4 ≤ l.length) (h : crc 4294967295 l ≠ rest) : openF l = ([], 12) := by
  unfold openF
  rw [if_neg (by omega), if_neg (fun e => h ((opens_iff l (l.length - 4) (by omega)).1 e))]
theorem open_sealed (b s : List UInt8) (hs : b ++ tail4 (sumOf b) = s) : openF s = (b, 0) := by
  have := open_right s (by rw [← hs]; simp [tail4]) (by rw [← hs]; exact sealed_rest b)
  rw [this, ← hs]
  simp [tail4]
/-- the byte j with its bit r turned -/
def turn (s : List UInt8) (j r : Nat) : List UInt8 := s.set j (UInt8.ofNat ((s.getD j 0).toNat ^^^ 2 ^ r))
theorem pow8 (r : Nat) (hr : r < 8) : 2 ^ r < 256 := Nat.lt_of_lt_of_le (Nat.pow_lt_pow_right (by decide) hr) (Nat.le_refl (2 ^ 8))
theorem turned_lt (x r : Nat) (hx : x < 256) (hr : r < 8) : x ^^^ 2 ^ r < 256 := Nat.xor_lt_two_pow (n := 8) hx (pow8 r hr)
theorem turn_len (s : List UInt8) (j r : Nat) : (turn s j r).length = s.length := by simp [turn]
theorem crc_turn (s : List UInt8) (j r p : Nat) (hp : p = 8 * j + r) (hj : j < s.length) (hr : r < 8) : crc 4294967295 (turn s j r) = crc 4294967295 s ^^^ stp (8 * s.length - p) 1 := by
  subst hp
  unfold turn
  refine crc_set _ j r _ s hj hr ?_
  rw [ofNat_toNat _ (turned_lt _ _ (u8_lt _) hr), List.getD_eq_getElem?_getD, List.getElem?_eq_getElem hj]
  rfl
theorem xor_ne {a b : Nat} (h : b ≠ 0) : a ^^^ b ≠ a := by
  intro e
  have := congrArg (a ^^^ ·) e
  simp only [← Nat.xor_assoc, Nat.xor_self, Nat.zero_xor] at this
  exact h this
theorem tell_one (s : List UInt8) (j r p : Nat) (hp : p = 8 * j + r) (hj : j < s.length) (hr : r < 8) (h4 : 4 ≤ s.length) (h : crc 4294967295 s = rest) : openF (turn s j r) = ([], 12) := by
  refine open_wrong _ (by rw [turn_len]; exact h4) ?_
  rw [crc_turn s j r p hp hj hr, h]
  exact xor_ne (stp_ne _ _ (by decide) (by decide))
theorem tell_two (s : List UInt8) (j r p i u q : Nat) (hp : p = 8 * j + r) (hj : j < s.length) (hr : r < 8) (hq : q = 8 * i + u) (hi : i < s.length) (hu : u < 8) (hpq : p ≠ q) (h4 : 4 ≤ s.length) (hm : s.length ≤ 1994) (h : crc 4294967295 s = rest) :
    openF (turn (turn s j r) i u) = ([], 12) := by
  refine open_wrong _ (by rw [turn_len, turn_len]; exact h4) ?_
  rw [crc_turn _ i u q hq (by rw [turn_len]; exact hi) hu, crc_turn s j r p hp hj hr, h, turn_len, Nat.xor_assoc]
  refine xor_ne fun e => ?_
  exact two_far _ _ (by omega) (by omega) (by omega) (xor_eq_zero e)
theorem bc_turn (s : List UInt8) (j r : Nat) (hr : r < 8) : byteCells (turn s j r) = (byteCells s).set j (.int .u8 (((s.getD j 0).toNat ^^^ 2 ^ r : Nat) : Int)) := by
  unfold turn byteCells
  rw [List.map_set, ofNat_toNat _ (turned_lt _ _ (u8_lt _) hr)]

theorem pow_mod' : ∀ (r : Nat), r < 8 → (2 : Int) ^ r % 256 = (2 : Int) ^ r := by decide
theorem xor_pow (x r y : Nat) (hx : x < 256) (hr : r < 8) (h : x ^^^ 2 ^ r = y) : bits .xor .u8 (x : Int) ((2 : Int) ^ r) = (y : Int) := by
  have := u8_xor_nat x (2 ^ r) hx (pow8 r hr)
  rw [h] at this
  simpa using this
theorem own_cell {w : World} {base g n c : Nat} {e : TypeId} {s : List UInt8} (h : w.ownsRow base e 1 (.slice (some ⟨g, 0, none⟩) n c) n (byteCells s)) (hs : s.length = n) (j : Nat) (hj : j < n) :
    w.cell? ⟨g, j, none⟩ = some (.int .u8 ((s.getD j 0).toNat : Int)) := by
  rw [World.ownsRow.cellAt h j (by omega), bc_get s j (by omega), List.getD_eq_getElem?_getD, List.getElem?_eq_getElem (by omega)]
  rfl

end Go.Proofs.YtghdojiffooilaaDoor.C02
