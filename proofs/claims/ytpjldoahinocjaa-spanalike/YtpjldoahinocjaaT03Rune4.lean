/-
  The document's answer by definition: the first rune of a text (tallyroomref03.Rune), of 4 bytes.
-/
import Derived.Test.YtpjldoahinocjaaT03Rune2
namespace Go.Proofs.Ytpjldoahinocjaa.T03
open Go.RowKit Go.Lib

theorem dec4_short (s : ByteArray) (h1 : 240 ≤ bt s 0) (h2 : bt s 0 < 245) (h : s.size < 4) : Utf8.decode s 0 = (65533, 1) := by
  rw [dec_bt]
  exact dN_bad (by omega) (by omega) (by omega) (by omega)
theorem dec4_cont (s : ByteArray) (j c : Nat) (h1 : 240 ≤ bt s 0) (h2 : bt s 0 < 245) (hj : j + 1 < 4) (hc : bt s (j + 1) = c) (h : c < 128 ∨ 191 < c) : Utf8.decode s 0 = (65533, 1) := by
  have k1 := bt_lt s (j + 1)
  rw [dec_bt]
  have : j = 0 ∨ j = 1 ∨ j = 2 := by omega
  rcases this with rfl | rfl | rfl <;> simp only [Nat.reduceAdd] at hc k1 <;> exact dN_bad (by omega) (by omega) (by omega) (by omega)
theorem val4 {n b0 b1 b2 b3 x : Nat} (h1 : 240 ≤ b0) (h2 : b0 < 245) (hn : 4 ≤ n) (e : x = (((b0 - 240) * 64 + b1 - 128) * 64 + b2 - 128) * 64 + b3 - 128) (a1 : 128 ≤ b1) (z1 : b1 ≤ 191) (a2 : 128 ≤ b2) (z2 : b2 ≤ 191) (a3 : 128 ≤ b3) (z3 : b3 ≤ 191) :
    decodeN n b0 b1 b2 b3 = if x < 65536 ∨ 1114111 < x ∨ (55296 ≤ x ∧ x < 57344) then (65533, 1) else (x, 4) := by
  have hv : b0 % 8 * 262144 + b1 % 64 * 4096 + b2 % 64 * 64 + b3 % 64 = x := by omega
  by_cases h : x < 65536 ∨ 1114111 < x ∨ (55296 ≤ x ∧ x < 57344)
  · rw [if_pos h]
    exact dN_bad (by omega) (by omega) (by omega) (by omega)
  · rw [if_neg h, dN_four (by omega) (by omega) (by omega) (by omega) (by omega) (by omega) (by omega), hv]
theorem dec4_acc (s : ByteArray) (x : Nat) (h1 : 240 ≤ bt s 0) (h2 : bt s 0 < 245) (hn : 4 ≤ s.size) (h : RuneRel s (bt s 0 - 240) 3 x) :
    Utf8.decode s 0 = if x < 65536 ∨ 1114111 < x ∨ (55296 ≤ x ∧ x < 57344) then (65533, 1) else (x, 4) := by
  obtain ⟨e, -, ha⟩ := h
  rw [dec_bt]
  exact val4 h1 h2 hn e (ha 0 (by omega)).1 (ha 0 (by omega)).2 (ha 1 (by omega)).1 (ha 1 (by omega)).2 (ha 2 (by omega)).1 (ha 2 (by omega)).2

set_option maxRecDepth 20000 in
set_option maxHeartbeats 4000000 in
theorem rune_4 (s : ByteArray) (r d : Nat) (w : World) (hs0 : 0 < s.size) (hs : s.size ≤ 65536) (hdec : Utf8.decode s 0 = (r, d)) (hlo : 240 ≤ bt s 0) (hhi : bt s 0 < 245) :
    Calls Try.prog 58 #[.string s] w fun e w' => e = .returned (.tuple #[.int .i64 (r : Nat), .int .i64 (d : Nat), .bool (!(r == 65533 && d == 1))]) ∧ w' = w := by
  obtain ⟨b, hb⟩ : ∃ b, bt s 0 = b := ⟨_, rfl⟩
  have hc0 : (s[0]'hs0).toNat = b := (bt_eq s 0 hs0).trans hb
  have hL : ∀ h, Utf8.decode s 0 = (65533, 1) → h = true → (r = 65533 ∧ d = 1) := by
    intro h hd _
    rw [hdec] at hd
    exact ⟨congrArg Prod.fst hd, congrArg Prod.snd hd⟩
  have HL := Lib.hid hL
  have Hlo := Lib.hid hlo
  have Hhi := Lib.hid hhi
  have HB := Lib.hid hb
  have HD := Lib.hid hdec
  have hst := rune_start s (bt s 0 - 240) (by omega)
  rw [hb] at hst hlo hhi
  clear hL hb hdec
  have t1 : (240 : Int) ≤ (b : Int) := by omega
  have t2 : (b : Int) < 245 := by omega
  have t3 : (128 : Int) ≤ (b : Int) := by omega
  have t4 : ¬ ((b : Int) < 224) := by omega
  have t5 : ¬ ((b : Int) < 240) := by omega
  have q1 : IntKind.wrap .i64 (b : Int) = (b : Int) := wrap_small _ (by omega) (by omega)
  have q2 : IntKind.wrap .i64 ((b : Int) - 240) = (b : Int) - 240 := wrap_small _ (by omega) (by omega)
  by_cases hn : 4 ≤ s.size
  · have hn1 : ¬ ((s.size : Int) < 4) := by omega
    go_enter Try.func58, Try.ntmps58
    go_wp2
    go_loop [8, 9] (fun v i => ∃ j x : Nat, v = .int .i64 (x : Nat) ∧ i = .int .i64 ((j : Int) + 1) ∧ j + 1 ≤ 4 ∧ RuneRel s (b - 240) j x) (fun _ i => 4 - (RowKit.intOf i).toNat)
    case atStart =>
      refine ⟨0, b - 240, ?_, rfl, by omega, hst⟩
      have : ((b - 240 : Nat) : Int) = (b : Int) - 240 := by omega
      rw [this]
    case round =>
      obtain ⟨j, x, rfl, rfl, hj, hrel⟩ := hrel
      have hx := rune_small hrel (by omega)
      by_cases hjn : j + 1 < 4
      · obtain ⟨c, hc⟩ : ∃ c, bt s (j + 1) = c := ⟨_, rfl⟩
        have hin : j + 1 < s.size := by omega
        have hcc : (s[j + 1]'hin).toNat = c := (bt_eq s _ hin).trans hc
        have hc256 : c < 256 := by rw [← hc]; exact bt_lt s _
        have HC := Lib.hid hc
        have HR := Lib.hid hrel
        clear hc hrel
        have g1 : (j : Int) + 1 < 4 := by omega
        have g2 : (0 : Int) ≤ (j : Int) + 1 := by omega
        have g3 : (j : Int) + 1 < (s.size : Int) := by omega
        have g4 : ((j : Int) + 1).toNat = j + 1 := by omega
        have g5 : IntKind.wrap .i64 ((j : Int) + 1 + 1) = (j : Int) + 1 + 1 := wrap_small _ (by omega) (by omega)
        by_cases hlow : (c : Int) < 128
        · go_wp2
          go_ret3
          obtain ⟨rfl, rfl⟩ := un HL true (dec4_cont s j c (un Hlo) (un Hhi) hjn (un HC) (by omega)) rfl
          exact ⟨rfl, rfl⟩
        · by_cases hhigh : (191 : Int) < (c : Int)
          · go_wp2
            go_ret3
            obtain ⟨rfl, rfl⟩ := un HL true (dec4_cont s j c (un Hlo) (un Hhi) hjn (un HC) (by omega)) rfl
            exact ⟨rfl, rfl⟩
          · have w1 : IntKind.wrap .i64 ((x : Int) * 64) = (x : Int) * 64 := wrap_small _ (by omega) (by omega)
            have w2 : IntKind.wrap .i64 (c : Int) = (c : Int) := wrap_small _ (by omega) (by omega)
            have w3 : IntKind.wrap .i64 ((x : Int) * 64 + (c : Int)) = (x : Int) * 64 + (c : Int) := wrap_small _ (by omega) (by omega)
            have w4 : IntKind.wrap .i64 ((x : Int) * 64 + (c : Int) - 128) = (x : Int) * 64 + (c : Int) - 128 := wrap_small _ (by omega) (by omega)
            go_wp2
            go_round
            case rel =>
              refine ⟨j + 1, x * 64 + c - 128, ?_, ?_, by omega, rune_step (un HR) (un HC) (by omega) (by omega)⟩
              · have : ((x * 64 + c - 128 : Nat) : Int) = (x : Int) * 64 + (c : Int) - 128 := by omega
                rw [this]
              · have : ((j + 1 : Nat) : Int) + 1 = (j : Int) + 1 + 1 := by omega
                rw [this]
            case measure =>
              simp only [RowKit.intOf]
              omega
      · have hj1 : j = 3 := by omega
        subst hj1
        have hA := dec4_acc s x (un Hlo) (un Hhi) hn (by rw [un HB]; exact hrel)
        have HA := Lib.hid hA
        clear hrel hA
        have g1 : ¬ ((3 : Int) + 1 < 4) := by omega
        have fin : ∀ P : Prop, [Decidable P] → (x < 65536 ∨ 1114111 < x ∨ (55296 ≤ x ∧ x < 57344)) = P → P → r = 65533 ∧ d = 1 := by
          intro P _ e hP
          have h1 := un HA
          rw [if_pos (by rw [e]; exact hP)] at h1
          exact un HL true h1 rfl
        have Hfin := Lib.hid fin
        obtain ⟨X, hX⟩ : ∃ X : Int, (x : Int) = X := ⟨_, rfl⟩
        rw [hX]
        have HX := Lib.hid hX
        clear fin hX hx
        by_cases hx1 : X < 65536
        · go_wp2
          go_ret3
          have hX := un HX
          obtain ⟨rfl, rfl⟩ := un Hfin _ rfl (by omega)
          exact ⟨rfl, rfl⟩
        · by_cases hx2 : (1114111 : Int) < X
          · go_wp2
            go_ret3
            have hX := un HX
            obtain ⟨rfl, rfl⟩ := un Hfin _ rfl (by omega)
            exact ⟨rfl, rfl⟩
          · by_cases hx3 : (55296 : Int) ≤ X
            · by_cases hx4 : X < 57344
              · go_wp2
                go_ret3
                have hX := un HX
                obtain ⟨rfl, rfl⟩ := un Hfin _ rfl (by omega)
                exact ⟨rfl, rfl⟩
              · go_wp2
                go_ret3
                have hX := un HX
                have h1 := un HA
                rw [if_neg (by omega), un HD] at h1
                obtain ⟨rfl, rfl⟩ : r = x ∧ d = 4 := ⟨congrArg Prod.fst h1, congrArg Prod.snd h1⟩
                rw [← hX]
                refine ⟨?_, rfl⟩
                simp
            · go_wp2
              go_ret3
              have hX := un HX
              have h1 := un HA
              rw [if_neg (by omega), un HD] at h1
              obtain ⟨rfl, rfl⟩ : r = x ∧ d = 4 := ⟨congrArg Prod.fst h1, congrArg Prod.snd h1⟩
              rw [← hX]
              refine ⟨?_, rfl⟩
              simp
  · have hn1 : (s.size : Int) < 4 := by omega
    go_enter Try.func58, Try.ntmps58
    go_wp2
    go_ret3
    obtain ⟨rfl, rfl⟩ := un HL true (dec4_short s (un Hlo) (un Hhi) (by omega)) rfl
    exact ⟨rfl, rfl⟩
end Go.Proofs.Ytpjldoahinocjaa.T03
