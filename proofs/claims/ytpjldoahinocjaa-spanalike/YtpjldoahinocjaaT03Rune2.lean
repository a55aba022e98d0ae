/-
  The document's answer by definition: the first rune of a text (tallyroomref03.Rune).
-/
import Derived.Test.YtpjldoahinocjaaT03Clean
namespace Go.Proofs.Ytpjldoahinocjaa.T03
open Go.RowKit Go.Lib

def bt (s : ByteArray) (k : Nat) : Nat := (s.get! k).toNat
theorem bt_eq (s : ByteArray) (k : Nat) (h : k < s.size) : (s[k]'h).toNat = bt s k := by
  unfold bt
  have := get_at s k h
  rw [Nat.add_zero] at this
  rw [this]
theorem bt_lt (s : ByteArray) (k : Nat) : bt s k < 256 := (s.get! k).toNat_lt
theorem dec_bt (s : ByteArray) : Utf8.decode s 0 = decodeN s.size (bt s 0) (bt s 1) (bt s 2) (bt s 3) := by
  rw [decode_at]
  rfl
def acc (s : ByteArray) (r0 : Nat) : Nat → Nat
  | 0 => r0
  | k + 1 => acc s r0 k * 64 + bt s (k + 1) - 128
def RuneRel (s : ByteArray) (r0 j x : Nat) : Prop := x = acc s r0 j ∧ x < 32 * 64 ^ j ∧ ∀ i, i < j → 128 ≤ bt s (i + 1) ∧ bt s (i + 1) ≤ 191
theorem rune_start (s : ByteArray) (r0 : Nat) (h : r0 < 32) : RuneRel s r0 0 r0 := ⟨rfl, by omega, fun i h => by omega⟩
theorem rune_step {s : ByteArray} {r0 j x c : Nat} (h : RuneRel s r0 j x) (hc : bt s (j + 1) = c) (h1 : 128 ≤ c) (h2 : c ≤ 191) : RuneRel s r0 (j + 1) (x * 64 + c - 128) := by
  obtain ⟨e, hb, ha⟩ := h
  have e2 : acc s r0 (j + 1) = acc s r0 j * 64 + bt s (j + 1) - 128 := rfl
  refine ⟨by rw [e2, e, hc], ?_, fun i hi => ?_⟩
  · rw [Nat.pow_succ]
    generalize 64 ^ j = p at *
    omega
  · by_cases hij : i < j
    · exact ha i hij
    · have : i = j := by omega
      subst this
      rw [hc]
      exact ⟨h1, h2⟩
theorem rune_small {s : ByteArray} {r0 j x : Nat} (h : RuneRel s r0 j x) (hj : j ≤ 3) : x ≤ 8388607 := by
  have h1 := h.2.1
  have h2 : 64 ^ j ≤ 64 ^ 3 := Nat.pow_le_pow_right (by decide) hj
  have h3 : (64 : Nat) ^ 3 = 262144 := by decide
  rw [h3] at h2
  omega
theorem dN_bad {n b0 b1 b2 b3 : Nat} (h1 : ¬ b0 < 128) (h2 : ¬ (b0 / 32 = 6 ∧ 1 < n ∧ b1 / 64 = 2 ∧ 128 ≤ b0 % 32 * 64 + b1 % 64))
    (h3 : ¬ (b0 / 16 = 14 ∧ 2 < n ∧ b1 / 64 = 2 ∧ b2 / 64 = 2 ∧ 2048 ≤ b0 % 16 * 4096 + b1 % 64 * 64 + b2 % 64 ∧ (b0 % 16 * 4096 + b1 % 64 * 64 + b2 % 64 < 55296 ∨ 57344 ≤ b0 % 16 * 4096 + b1 % 64 * 64 + b2 % 64)))
    (h4 : ¬ (b0 / 8 = 30 ∧ 3 < n ∧ b1 / 64 = 2 ∧ b2 / 64 = 2 ∧ b3 / 64 = 2 ∧ 65536 ≤ b0 % 8 * 262144 + b1 % 64 * 4096 + b2 % 64 * 64 + b3 % 64 ∧ b0 % 8 * 262144 + b1 % 64 * 4096 + b2 % 64 * 64 + b3 % 64 ≤ 1114111)) :
    decodeN n b0 b1 b2 b3 = (65533, 1) := by
  rcases decodeN_shape n b0 b1 b2 b3 with ⟨c, e⟩ | ⟨a1, a2, a3, av, e⟩ | ⟨a1, a2, a3, a4, av, az, e⟩ | ⟨a1, a2, a3, a4, a5, av, aw, e⟩ | e
  · exact absurd c h1
  · exact absurd ⟨a1, a2, a3, av⟩ h2
  · exact absurd ⟨a1, a2, a3, a4, av, az⟩ h3
  · exact absurd ⟨a1, a2, a3, a4, a5, av, aw⟩ h4
  · exact e

theorem dec2_short (s : ByteArray) (h1 : 194 ≤ bt s 0) (h2 : bt s 0 < 224) (h : s.size < 2) : Utf8.decode s 0 = (65533, 1) := by
  rw [dec_bt]
  exact dN_bad (by omega) (by omega) (by omega) (by omega)
theorem dec2_cont (s : ByteArray) (j c : Nat) (h1 : 194 ≤ bt s 0) (h2 : bt s 0 < 224) (hj : j + 1 < 2) (hc : bt s (j + 1) = c) (h : c < 128 ∨ 191 < c) : Utf8.decode s 0 = (65533, 1) := by
  have k1 := bt_lt s (j + 1)
  rw [dec_bt]
  have : j = 0 := by omega
  rcases this with rfl <;> simp only [Nat.reduceAdd] at hc k1 <;> exact dN_bad (by omega) (by omega) (by omega) (by omega)
theorem two_val {n b0 b1 b2 b3 x : Nat} (h1 : 194 ≤ b0) (h2 : b0 < 224) (hn : 2 ≤ n) (e : x = (b0 - 192) * 64 + b1 - 128) (a1 : 128 ≤ b1) (a2 : b1 ≤ 191) : decodeN n b0 b1 b2 b3 = (x, 2) := by
  rw [dN_two (by omega) (by omega) (by omega) (by omega)]
  have : b0 % 32 * 64 + b1 % 64 = x := by omega
  rw [this]
theorem dec2_acc (s : ByteArray) (x : Nat) (h1 : 194 ≤ bt s 0) (h2 : bt s 0 < 224) (hn : 2 ≤ s.size) (h : RuneRel s (bt s 0 - 192) 1 x) :
    Utf8.decode s 0 = if x < 128 ∨ 1114111 < x ∨ (55296 ≤ x ∧ x < 57344) then (65533, 1) else (x, 2) := by
  obtain ⟨e, -, ha⟩ := h
  have a0 := ha 0 (by omega)
  have e' : x = (bt s 0 - 192) * 64 + bt s 1 - 128 := e
  have a1 : 128 ≤ bt s 1 := a0.1
  have a2 : bt s 1 ≤ 191 := a0.2
  have hno : ¬ (x < 128 ∨ 1114111 < x ∨ (55296 ≤ x ∧ x < 57344)) := by omega
  rw [dec_bt, two_val h1 h2 hn e' a1 a2, if_neg hno]

set_option maxRecDepth 20000 in
set_option maxHeartbeats 4000000 in
theorem rune_2 (s : ByteArray) (r d : Nat) (w : World) (hs0 : 0 < s.size) (hs : s.size ≤ 65536) (hdec : Utf8.decode s 0 = (r, d)) (hlo : 194 ≤ bt s 0) (hhi : bt s 0 < 224) :
    Calls Try.prog 58 #[.string s] w fun e w' => e = .returned (.tuple #[.int .i64 (r : Nat), .int .i64 (d : Nat), .bool (!(r == 65533 && d == 1))]) ∧ w' = w := by
  obtain ⟨b, hb⟩ : ∃ b, bt s 0 = b := ⟨_, rfl⟩
  have hc0 : (s[0]'hs0).toNat = b := (bt_eq s 0 hs0).trans hb
  have hL : ∀ h, Utf8.decode s 0 = (65533, 1) → h = true → (r = 65533 ∧ d = 1) := by
    intro h hd _
    rw [hdec] at hd
    exact ⟨congrArg Prod.fst hd, congrArg Prod.snd hd⟩
  have HL := Lib.hid hL
  have Hlo := Lib.hid hlo
  have Hhi := Lib.hid hhi
  have HB := Lib.hid hb
  have HD := Lib.hid hdec
  have hst := rune_start s (bt s 0 - 192) (by omega)
  rw [hb] at hst hlo hhi
  clear hL hb hdec
  have t1 : (194 : Int) ≤ (b : Int) := by omega
  have t2 : (b : Int) < 224 := by omega
  have t3 : (128 : Int) ≤ (b : Int) := by omega
  have q1 : IntKind.wrap .i64 (b : Int) = (b : Int) := wrap_small _ (by omega) (by omega)
  have q2 : IntKind.wrap .i64 ((b : Int) - 192) = (b : Int) - 192 := wrap_small _ (by omega) (by omega)
  by_cases hn : 2 ≤ s.size
  · have hn1 : ¬ ((s.size : Int) < 2) := by omega
    go_enter Try.func58, Try.ntmps58
    go_wp2
    go_loop [8, 9] (fun v i => ∃ j x : Nat, v = .int .i64 (x : Nat) ∧ i = .int .i64 ((j : Int) + 1) ∧ j + 1 ≤ 2 ∧ RuneRel s (b - 192) j x) (fun _ i => 2 - (RowKit.intOf i).toNat)
    case atStart =>
      refine ⟨0, b - 192, ?_, rfl, by omega, hst⟩
      have : ((b - 192 : Nat) : Int) = (b : Int) - 192 := by omega
      rw [this]
    case round =>
      obtain ⟨j, x, rfl, rfl, hj, hrel⟩ := hrel
      have hx := rune_small hrel (by omega)
      by_cases hjn : j + 1 < 2
      · obtain ⟨c, hc⟩ : ∃ c, bt s (j + 1) = c := ⟨_, rfl⟩
        have hin : j + 1 < s.size := by omega
        have hcc : (s[j + 1]'hin).toNat = c := (bt_eq s _ hin).trans hc
        have hc256 : c < 256 := by rw [← hc]; exact bt_lt s _
        have HC := Lib.hid hc
        have HR := Lib.hid hrel
        clear hc hrel
        have g1 : (j : Int) + 1 < 2 := by omega
        have g2 : (0 : Int) ≤ (j : Int) + 1 := by omega
        have g3 : (j : Int) + 1 < (s.size : Int) := by omega
        have g4 : ((j : Int) + 1).toNat = j + 1 := by omega
        have g5 : IntKind.wrap .i64 ((j : Int) + 1 + 1) = (j : Int) + 1 + 1 := wrap_small _ (by omega) (by omega)
        by_cases hlow : (c : Int) < 128
        · go_wp2
          go_ret3
          obtain ⟨rfl, rfl⟩ := un HL true (dec2_cont s j c (un Hlo) (un Hhi) hjn (un HC) (by omega)) rfl
          exact ⟨rfl, rfl⟩
        · by_cases hhigh : (191 : Int) < (c : Int)
          · go_wp2
            go_ret3
            obtain ⟨rfl, rfl⟩ := un HL true (dec2_cont s j c (un Hlo) (un Hhi) hjn (un HC) (by omega)) rfl
            exact ⟨rfl, rfl⟩
          · have w1 : IntKind.wrap .i64 ((x : Int) * 64) = (x : Int) * 64 := wrap_small _ (by omega) (by omega)
            have w2 : IntKind.wrap .i64 (c : Int) = (c : Int) := wrap_small _ (by omega) (by omega)
            have w3 : IntKind.wrap .i64 ((x : Int) * 64 + (c : Int)) = (x : Int) * 64 + (c : Int) := wrap_small _ (by omega) (by omega)
            have w4 : IntKind.wrap .i64 ((x : Int) * 64 + (c : Int) - 128) = (x : Int) * 64 + (c : Int) - 128 := wrap_small _ (by omega) (by omega)
            go_wp2
            go_round
            case rel =>
              refine ⟨j + 1, x * 64 + c - 128, ?_, ?_, by omega, rune_step (un HR) (un HC) (by omega) (by omega)⟩
              · have : ((x * 64 + c - 128 : Nat) : Int) = (x : Int) * 64 + (c : Int) - 128 := by omega
                rw [this]
              · have : ((j + 1 : Nat) : Int) + 1 = (j : Int) + 1 + 1 := by omega
                rw [this]
            case measure =>
              simp only [RowKit.intOf]
              omega
      · have hj1 : j = 1 := by omega
        subst hj1
        have hA := dec2_acc s x (un Hlo) (un Hhi) hn (by rw [un HB]; exact hrel)
        have HA := Lib.hid hA
        clear hrel hA
        have g1 : ¬ ((1 : Int) + 1 < 2) := by omega
        have fin : ∀ P : Prop, [Decidable P] → (x < 128 ∨ 1114111 < x ∨ (55296 ≤ x ∧ x < 57344)) = P → P → r = 65533 ∧ d = 1 := by
          intro P _ e hP
          have h1 := un HA
          rw [if_pos (by rw [e]; exact hP)] at h1
          exact un HL true h1 rfl
        have Hfin := Lib.hid fin
        obtain ⟨X, hX⟩ : ∃ X : Int, (x : Int) = X := ⟨_, rfl⟩
        rw [hX]
        have HX := Lib.hid hX
        clear fin hX hx
        by_cases hx1 : X < 128
        · go_wp2
          go_ret3
          have hX := un HX
          obtain ⟨rfl, rfl⟩ := un Hfin _ rfl (by omega)
          exact ⟨rfl, rfl⟩
        · by_cases hx2 : (1114111 : Int) < X
          · go_wp2
            go_ret3
            have hX := un HX
            obtain ⟨rfl, rfl⟩ := un Hfin _ rfl (by omega)
            exact ⟨rfl, rfl⟩
          · by_cases hx3 : (55296 : Int) ≤ X
            · by_cases hx4 : X < 57344
              · go_wp2
                go_ret3
                have hX := un HX
                obtain ⟨rfl, rfl⟩ := un Hfin _ rfl (by omega)
                exact ⟨rfl, rfl⟩
              · go_wp2
                go_ret3
                have hX := un HX
                have h1 := un HA
                rw [if_neg (by omega), un HD] at h1
                obtain ⟨rfl, rfl⟩ : r = x ∧ d = 2 := ⟨congrArg Prod.fst h1, congrArg Prod.snd h1⟩
                rw [← hX]
                refine ⟨?_, rfl⟩
                simp
            · go_wp2
              go_ret3
              have hX := un HX
              have h1 := un HA
              rw [if_neg (by omega), un HD] at h1
              obtain ⟨rfl, rfl⟩ : r = x ∧ d = 2 := ⟨congrArg Prod.fst h1, congrArg Prod.snd h1⟩
              rw [← hX]
              refine ⟨?_, rfl⟩
              simp
  · have hn1 : (s.size : Int) < 2 := by omega
    go_enter Try.func58, Try.ntmps58
    go_wp2
    go_ret3
    obtain ⟨rfl, rfl⟩ := un HL true (dec2_short s (un Hlo) (un Hhi) (by omega)) rfl
    exact ⟨rfl, rfl⟩
end Go.Proofs.Ytpjldoahinocjaa.T03
