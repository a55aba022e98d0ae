/-
  The walk of CrcTells: what is sealed is opened; with one bit or two turned it isn't.
-/
import Derived.Test.YtlkghiiknipfcaaDoorC02Open
import Derived.Test.YtlkghiiknipfcaaDoorC02Laid
namespace Go.Proofs.YtlkghiiknipfcaaDoor.C02
open Go.RowKit Go.Lib Go.Proofs.YtlkghiiknipfcaaDoor.Wd

theorem open_right (l : List UInt8) (h4 : 4 ≤ l.length) (h : crc 4294967295 l = rest) : openF l = (l.take (l.length - 4), 0) := by
  unfold openF
  rw [if_neg (by omega), if_pos ((opens_iff l (l.length - 4) (by omega)).2 h)]
theorem open_wrong (l : List UInt8) (h4 : 4 ≤ l.length) (h : crc 4294967295 l ≠ rest) : openF l = ([], 12) := by
  unfold openF
  rw [if_neg (by omega), if_neg (fun e => h ((opens_iff l (l.length - 4) (by omega)).1 e))]
theorem open_sealed (b s : List UInt8) (hs : b ++ tail4 (sumOf b) = s) : openF s = (b, 0) := by
  have := open_right s (by rw [← hs]; simp [tail4]) (by rw [← hs]; exact sealed_rest b)
  rw [this, ← hs]
  simp [tail4]
/-- the byte j with its bit r turned -/
def turn (s : List UInt8) (j r : Nat) : List UInt8 := s.set j (UInt8.ofNat ((s.getD j 0).toNat ^^^ 2 ^ r))
theorem pow8 (r : Nat) (hr : r < 8) : 2 ^ r < 256 := Nat.lt_of_lt_of_le (Nat.pow_lt_pow_right (by decide) hr) (Nat.le_refl (2 ^ 8))
theorem turned_lt (x r : Nat) (hx : x < 256) (hr : r < 8) : x ^^^ 2 ^ r < 256 := Nat.xor_lt_two_pow (n := 8) hx (pow8 r hr)
theorem turn_len (s : List UInt8) (j r : Nat) : (turn s j r).length = s.length := by simp [turn]
theorem crc_turn (s : List UInt8) (j r p : Nat) (hp : p = 8 * j + r) (hj : j < s.length) (hr : r < 8) : crc 4294967295 (turn s j r) = crc 4294967295 s ^^^ stp (8 * s.length - p) 1 := by
  subst hp
  unfold turn
  refine crc_set _ j r _ s hj hr ?_
  rw [ofNat_toNat _ (turned_lt _ _ (u8_lt _) hr), List.getD_eq_getElem?_getD, List.getElem?_eq_getElem hj]
  rfl
theorem xor_ne {a b : Nat} (h : b ≠ 0) : a ^^^ b ≠ a := by
  intro e
  have := congrArg (a ^^^ ·) e
  simp only [← Nat.xor_assoc, Nat.xor_self, Nat.zero_xor] at this
  exact h this
theorem tell_one (s : List UInt8) (j r p : Nat) (hp : p = 8 * j + r) (hj : j < s.length) (hr : r < 8) (h4 : 4 ≤ s.length) (h : crc 4294967295 s = rest) : openF (turn s j r) = ([], 12) := by
  refine open_wrong _ (by rw [turn_len]; exact h4) ?_
  rw [crc_turn s j r p hp hj hr, h]
  exact xor_ne (stp_ne _ _ (by decide) (by decide))
theorem tell_two (s : List UInt8) (j r p i u q : Nat) (hp : p = 8 * j + r) (hj : j < s.length) (hr : r < 8) (hq : q = 8 * i + u) (hi : i < s.length) (hu : u < 8) (hpq : p ≠ q) (h4 : 4 ≤ s.length) (hm : s.length ≤ 1994) (h : crc 4294967295 s = rest) :
    openF (turn (turn s j r) i u) = ([], 12) := by
  refine open_wrong _ (by rw [turn_len, turn_len]; exact h4) ?_
  rw [crc_turn _ i u q hq (by rw [turn_len]; exact hi) hu, crc_turn s j r p hp hj hr, h, turn_len, Nat.xor_assoc]
  refine xor_ne fun e => ?_
  exact two_far _ _ (by omega) (by omega) (by omega) (xor_eq_zero e)
theorem bc_turn (s : List UInt8) (j r : Nat) (hr : r < 8) : byteCells (turn s j r) = (byteCells s).set j (.int .u8 (((s.getD j 0).toNat ^^^ 2 ^ r : Nat) : Int)) := by
  unfold turn byteCells
  rw [List.map_set, ofNat_toNat _ (turned_lt _ _ (u8_lt _) hr)]

theorem pow_mod' : ∀ (r : Nat), r < 8 → (2 : Int) ^ r % 256 = (2 : Int) ^ r := by decide
theorem xor_pow (x r y : Nat) (hx : x < 256) (hr : r < 8) (h : x ^^^ 2 ^ r = y) : bits .xor .u8 (x : Int) ((2 : Int) ^ r) = (y : Int) := by
  have := u8_xor_nat x (2 ^ r) hx (pow8 r hr)
  rw [h] at this
  simpa using this
theorem own_cell {w : World} {base g n c : Nat} {e : TypeId} {s : List UInt8} (h : w.ownsRow base e 1 (.slice (some ⟨g, 0, none⟩) n c) n (byteCells s)) (hs : s.length = n) (j : Nat) (hj : j < n) :
    w.cell? ⟨g, j, none⟩ = some (.int .u8 ((s.getD j 0).toNat : Int)) := by
  rw [World.ownsRow.cellAt h j (by omega), bc_get s j (by omega), List.getD_eq_getElem?_getD, List.getElem?_eq_getElem (by omega)]
  rfl

set_option maxRecDepth 20000 in
set_option maxHeartbeats 4000000 in
theorem tells_law (i k : Nat) (A : Option Addr) (c len : Nat) (l : List UInt8) (w : World) (hi0 : (i : Int) ≤ 65535) (hk0 : (k : Int) ≤ 65535) (hT : Tb w) (ha : Bs w A c l) (hlen : l.length = len) :
    Calls Tryd.prog 5 #[.slice A len c, .int .u16 i, .int .u16 k] w fun e w' => e = .returned (.bool true) ∧ Below w.heap.size w w' := by
  have hlm := Nat.le_trans ha.cap ha.max
  unfold maxLen at hlm
  by_cases hl : len ≤ 1990
  · obtain ⟨s, hs⟩ : ∃ s, l ++ tail4 (sumOf l) = s := ⟨_, rfl⟩
    have hsl : s.length = len + 4 := by rw [← hs]; simp [tail4]; omega
    have hop := open_sealed l s hs
    have hrest : crc 4294967295 s = rest := by rw [← hs]; exact sealed_rest l
    have HR := Lib.hid hrest
    clear hrest
    go_enter Tryd.func5, Tryd.ntmps5
    go_wp2_with fail
    refine (alive_any _ hT).mono ?_
    rintro x w1 ⟨rfl, hb1⟩
    have ha1 := ha.below hb1
    have hT1 := hT.below hb1
    clear ha hT
    go_wp2_with fail
    refine (seal_at A c len l s _ hT1 ha1 hlen (by omega) hs).mono ?_
    rintro x w2 ⟨A2, c2, rfl, hown2, hb2⟩
    obtain ⟨g, u0, rfl, hg1, hg2, -, -, -⟩ := own_first hown2 (by omega)
    rw [hsl] at hown2 ⊢
    clear hs
    have hS2 : Bs w2 (some ⟨g, 0, none⟩) c2 s := Bs.own (base := w1.heap.size) (e := 5) (by rw [hsl]; exact hown2)
    go_wp2_with fail
    refine (open_at _ c2 (len + 4) 0 s l _ (hT1.below hb2) hS2 hsl (by omega) hop).mono ?_
    rintro x w3 ⟨A3, c3, rfl, hB3, hb3⟩
    rw [hlen]
    have hown3 := own_below hown2 hb3
    have hb3' := hb2.trans (hb3.mono hb2.size)
    have ha3 := (ha1.below hb2).below hb3
    clear hS2 hown2 hop
    go_wp2_with fail
    refine (bytes_at A3 A c3 c len len l l true _ hB3 ha3 hlen hlen (by simp)).mono ?_
    rintro x w4 ⟨rfl, rfl⟩
    clear hB3 ha3 ha1 hb2 hb3
    obtain ⟨p, hp⟩ : ∃ p, i % (8 * (len + 4)) = p := ⟨_, rfl⟩
    obtain ⟨q, hq⟩ : ∃ q, k % (8 * (len + 4)) = q := ⟨_, rfl⟩
    have hpl : p < 8 * (len + 4) := by rw [← hp]; exact Nat.mod_lt _ (by omega)
    have hql : q < 8 * (len + 4) := by rw [← hq]; exact Nat.mod_lt _ (by omega)
    go_wp2_with fail
    have t1 : (i : Int).tmod (8 * ((len : Int) + 4)) = (p : Int) := by rw [Int.tmod_eq_emod_of_nonneg (by omega), ← hp]; simp
    have t2 : (k : Int).tmod (8 * ((len : Int) + 4)) = (q : Int) := by rw [Int.tmod_eq_emod_of_nonneg (by omega), ← hq]; simp
    have t3 : (i : Int) % (8 * ((len : Int) + 4)) = (p : Int) := by rw [← hp]; simp
    have t4 : (k : Int) % (8 * ((len : Int) + 4)) = (q : Int) := by rw [← hq]; simp
    have n1 : ¬ (8 * ((len : Int) + 4) = 0) := by omega
    have n2 : IntKind.i64.wrap (i : Int) = (i : Int) := IntWalk.i64_in _ (by omega)
    have n3 : IntKind.i64.wrap (k : Int) = (k : Int) := IntWalk.i64_in _ (by omega)
    have n4 : IntKind.i64.wrap (p : Int) = (p : Int) := IntWalk.i64_in _ (by omega)
    have n5 : IntKind.i64.wrap (q : Int) = (q : Int) := IntWalk.i64_in _ (by omega)
    clear hp hq
    go_quiet (fail)
    have hb4 := below_dn hb3' nq
    have hown4 : (w3.drewN nq).ownsRow w1.heap.size 5 1 (.slice (some ⟨g, 0, none⟩) (len + 4) c2) (len + 4) (byteCells s) := hown3
    clear t1 t2 t3 t4 n1 n2 n3 n4 n5 hown3 hb3'
    generalize w3.drewN nq = w4 at *
    obtain ⟨j, hj⟩ : ∃ j, p / 8 = j := ⟨_, rfl⟩
    obtain ⟨r, hr⟩ : ∃ r, p % 8 = r := ⟨_, rfl⟩
    have hp : p = 8 * j + r := by omega
    have hjl : j < len + 4 := by omega
    have hr8 : r < 8 := by omega
    have hc4 := own_cell hown4 hsl j hjl
    have hf4 := World.ownsRow.frozenAt hown4 j
    obtain ⟨s1, hs1⟩ : ∃ s1, turn s j r = s1 := ⟨_, rfl⟩
    have hsl1 : s1.length = len + 4 := by rw [← hs1, turn_len]; exact hsl
    have hbc4 := bc_turn s j r hr8
    rw [hs1] at hbc4
    obtain ⟨x, hx⟩ : ∃ x, (s.getD j 0).toNat = x := ⟨_, rfl⟩
    have hx1 : x < 256 := by rw [← hx]; exact u8_lt _
    rw [hx] at hc4 hbc4
    obtain ⟨y, hy⟩ : ∃ y, x ^^^ 2 ^ r = y := ⟨_, rfl⟩
    have f1 : (p : Int) / 8 = (j : Int) := by omega
    have f2 : (p : Int) % 8 = (r : Int) := by omega
    have f3 : (j : Int) < (len : Int) + 4 := by omega
    have f5 := pow_mod' r hr8
    have f6 := xor_pow x r y hx1 hr8 hy
    rw [hy] at hbc4
    have HP4 := Lib.hid hp
    clear hp hr hy hx
    have hop1 := tell_one s j r p HP4.out (by omega) hr8 (by omega) HR.out
    rw [hs1] at hop1
    go_wp2_with fail
    have hown5 : (w4.setCell ⟨g, j, none⟩ (.int .u8 (y : Int))).ownsRow w1.heap.size 5 1 (.slice (some ⟨g, 0, none⟩) (len + 4) c2) (len + 4) (byteCells s1) := by rw [hbc4]; exact (World.ownsRow.stored hown4 j _).1
    have hb5 : Below w1.heap.size w1 (w4.setCell ⟨g, j, none⟩ (.int .u8 (y : Int))) := hb4.setCell hg1 _
    clear hc4 hf4 f1 f2 f3 f5 f6 hbc4
    generalize w4.setCell ⟨g, j, none⟩ (.int .u8 (y : Int)) = w5 at *
    have hB5 : Bs w5 (some ⟨g, 0, none⟩) c2 s1 := Bs.own (base := w1.heap.size) (e := 5) (by rw [hsl1]; exact hown5)
    refine (open_at _ c2 (len + 4) 12 s1 [] _ (hT1.below hb5) hB5 hsl1 (by omega) hop1).mono ?_
    rintro z w6 ⟨A6, c6, rfl, hB6, hb6⟩
    have hown6 := own_below hown5 hb6
    have hb6' := hb5.trans (hb6.mono hb5.size)
    clear hown5 hB5 hb5 hb6 hB6 hown4 hb4
    by_cases hpq : p = q
    · subst hpq
      have hB7 : Bs w6 (some ⟨g, 0, none⟩) c2 s1 := Bs.own (base := w1.heap.size) (e := 5) (by rw [hsl1]; exact hown6)
      go_wp2_with fail
      refine (open_at _ c2 (len + 4) 12 s1 [] _ (hT1.below hb6') hB7 hsl1 (by omega) hop1).mono ?_
      rintro z w7 ⟨A7, c7, rfl, -, hb7⟩
      go_wp2
      go_ret
      exact ⟨rfl, hb1.trans ((hb6'.trans (hb7.mono hb6'.size)).mono hb1.size)⟩
    · have hpq2 : ¬ (p : Int) = (q : Int) := by omega
      obtain ⟨i2, hi2⟩ : ∃ i2, q / 8 = i2 := ⟨_, rfl⟩
      obtain ⟨r2, hr2⟩ : ∃ r2, q % 8 = r2 := ⟨_, rfl⟩
      have hq : q = 8 * i2 + r2 := by omega
      have hi2l : i2 < len + 4 := by omega
      have hr28 : r2 < 8 := by omega
      have hc6 := own_cell hown6 hsl1 i2 hi2l
      have hf6 := World.ownsRow.frozenAt hown6 i2
      obtain ⟨s2, hs2⟩ : ∃ s2, turn s1 i2 r2 = s2 := ⟨_, rfl⟩
      have hsl2 : s2.length = len + 4 := by rw [← hs2, turn_len]; exact hsl1
      have hbc6 := bc_turn s1 i2 r2 hr28
      rw [hs2] at hbc6
      obtain ⟨x2, hx2⟩ : ∃ x2, (s1.getD i2 0).toNat = x2 := ⟨_, rfl⟩
      have hx21 : x2 < 256 := by rw [← hx2]; exact u8_lt _
      rw [hx2] at hc6 hbc6
      obtain ⟨y2, hy2⟩ : ∃ y2, x2 ^^^ 2 ^ r2 = y2 := ⟨_, rfl⟩
      have f1 : (q : Int) / 8 = (i2 : Int) := by omega
      have f2 : (q : Int) % 8 = (r2 : Int) := by omega
      have f3 : (i2 : Int) < (len : Int) + 4 := by omega
      have f5 := pow_mod' r2 hr28
      have f6 := xor_pow x2 r2 y2 hx21 hr28 hy2
      rw [hy2] at hbc6
      have HP6 := Lib.hid hq
      clear hq hr2 hy2 hx2
      have hop2 := tell_two s j r p i2 r2 q HP4.out (by omega) hr8 HP6.out (by omega) hr28 hpq (by omega) (by omega) HR.out
      rw [hs1, hs2] at hop2
      go_wp2_with fail
      have hown7 : (w6.setCell ⟨g, i2, none⟩ (.int .u8 (y2 : Int))).ownsRow w1.heap.size 5 1 (.slice (some ⟨g, 0, none⟩) (len + 4) c2) (len + 4) (byteCells s2) := by rw [hbc6]; exact (World.ownsRow.stored hown6 i2 _).1
      have hb7 : Below w1.heap.size w1 (w6.setCell ⟨g, i2, none⟩ (.int .u8 (y2 : Int))) := hb6'.setCell hg1 _
      clear hc6 hf6 f1 f2 f3 f5 f6 hbc6
      generalize w6.setCell ⟨g, i2, none⟩ (.int .u8 (y2 : Int)) = w7 at *
      have hB7 : Bs w7 (some ⟨g, 0, none⟩) c2 s2 := Bs.own (base := w1.heap.size) (e := 5) (by rw [hsl2]; exact hown7)
      refine (open_at _ c2 (len + 4) 12 s2 [] _ (hT1.below hb7) hB7 hsl2 (by omega) hop2).mono ?_
      rintro z w8 ⟨A8, c8, rfl, -, hb8⟩
      go_wp2
      go_ret
      exact ⟨rfl, hb1.trans ((hb7.trans (hb8.mono hb7.size)).mono hb1.size)⟩
  · have h1 : (1990 : Int) < len := by omega
    go_enter Tryd.func5, Tryd.ntmps5
    go_wp2_with fail
    refine (alive_any _ hT).mono ?_
    rintro e w1 ⟨rfl, hb1⟩
    go_wp2
    go_ret
    exact ⟨rfl, hb1⟩
end Go.Proofs.YtlkghiiknipfcaaDoor.C02
