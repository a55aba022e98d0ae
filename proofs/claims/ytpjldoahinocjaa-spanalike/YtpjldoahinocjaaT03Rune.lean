/-
  The document's answer by definition: the first rune of a text (tallyroomref03.Rune): of one byte, of a wrong one, of any.
-/
import Derived.Test.YtpjldoahinocjaaT03Rune3
import Derived.Test.YtpjldoahinocjaaT03Rune4
namespace Go.Proofs.Ytpjldoahinocjaa.T03
open Go.RowKit Go.Lib

set_option maxRecDepth 20000 in
set_option maxHeartbeats 4000000 in
theorem rune_1 (s : ByteArray) (w : World) (hs0 : 0 < s.size) (hhi : bt s 0 < 128) :
    Calls Try.prog 58 #[.string s] w fun e w' => e = .returned (.tuple #[.int .i64 (bt s 0 : Nat), .int .i64 1, .bool true]) ∧ w' = w := by
  obtain ⟨b, hb⟩ : ∃ b, bt s 0 = b := ⟨_, rfl⟩
  have hc0 : (s[0]'hs0).toNat = b := (bt_eq s 0 hs0).trans hb
  rw [hb] at hhi ⊢
  clear hb
  have t1 : ¬ ((128 : Int) ≤ (b : Int)) := by omega
  have t2 : ¬ ((s.size : Int) < 1) := by omega
  have q1 : IntKind.wrap .i64 (b : Int) = (b : Int) := wrap_small _ (by omega) (by omega)
  have HH := Lib.hid hhi
  clear hhi
  go_enter Try.func58, Try.ntmps58
  go_wp2
  go_loop [8, 9] (fun v i => ∃ x k : Int, v = .int .i64 x ∧ i = .int .i64 k ∧ Hid (x = (b : Int)) ∧ Hid (k = 1)) (fun _ _ => 0)
  case atStart => exact ⟨b, 1, rfl, rfl, Lib.hid rfl, Lib.hid rfl⟩
  case round =>
    obtain ⟨x, k, rfl, rfl, HX, HK⟩ := hrel
    have h0 : x = (b : Int) := HX
    have h1 := HH.out
    have hk : k = 1 := HK
    have g : ¬ (k < 1) := by omega
    have t3 : ¬ (x < 0) := by omega
    have t4 : ¬ ((1114111 : Int) < x) := by omega
    have t5 : ¬ ((55296 : Int) ≤ x) := by omega
    clear t1 t2 q1 h0 h1 hc0 hk
    go_wp2
    go_ret3
    have h0 : x = (b : Int) := HX
    rw [h0]
    exact ⟨rfl, rfl⟩

set_option maxRecDepth 20000 in
set_option maxHeartbeats 4000000 in
theorem rune_0 (s : ByteArray) (w : World) (hs0 : 0 < s.size) (hl : (128 ≤ bt s 0 ∧ bt s 0 < 194) ∨ 245 ≤ bt s 0) :
    Calls Try.prog 58 #[.string s] w fun e w' => e = .returned (.tuple #[.int .i64 65533, .int .i64 1, .bool false]) ∧ w' = w := by
  obtain ⟨b, hb⟩ : ∃ b, bt s 0 = b := ⟨_, rfl⟩
  have hc0 : (s[0]'hs0).toNat = b := (bt_eq s 0 hs0).trans hb
  have hb256 := bt_lt s 0
  rw [hb] at hl hb256
  clear hb
  have t1 : (128 : Int) ≤ (b : Int) := by omega
  have q1 : IntKind.wrap .i64 (b : Int) = (b : Int) := wrap_small _ (by omega) (by omega)
  rcases hl with ⟨-, h⟩ | h
  · have t2 : ¬ ((194 : Int) ≤ (b : Int)) := by omega
    have t3 : ¬ ((224 : Int) ≤ (b : Int)) := by omega
    have t4 : ¬ ((240 : Int) ≤ (b : Int)) := by omega
    go_enter Try.func58, Try.ntmps58
    go_wp2
    go_ret3
    exact ⟨rfl, rfl⟩
  · have t2 : ¬ ((b : Int) < 224) := by omega
    have t3 : ¬ ((b : Int) < 240) := by omega
    have t4 : ¬ ((b : Int) < 245) := by omega
    have u2 : (194 : Int) ≤ (b : Int) := by omega
    have u3 : (224 : Int) ≤ (b : Int) := by omega
    have u4 : (240 : Int) ≤ (b : Int) := by omega
    go_enter Try.func58, Try.ntmps58
    go_wp2
    go_ret3
    exact ⟨rfl, rfl⟩

theorem rune_any (s : ByteArray) (r d : Nat) (w : World) (hs0 : 0 < s.size) (hs : s.size ≤ 65536) (hdec : Utf8.decode s 0 = (r, d)) :
    Calls Try.prog 58 #[.string s] w fun e w' => e = .returned (.tuple #[.int .i64 (r : Nat), .int .i64 (d : Nat), .bool (!(r == 65533 && d == 1))]) ∧ w' = w := by
  have h256 := bt_lt s 0
  by_cases h1 : bt s 0 < 128
  · have h := hdec
    rw [dec_bt, dN_one h1] at h
    obtain ⟨rfl, rfl⟩ : bt s 0 = r ∧ 1 = d := ⟨congrArg Prod.fst h, congrArg Prod.snd h⟩
    have e : (bt s 0 == 65533) = false := beq_false_of_ne (by omega)
    rw [e]
    exact rune_1 s w hs0 h1
  by_cases h2 : bt s 0 < 194
  · have h := hdec
    rw [dec_bt, dN_bad h1 (by omega) (by omega) (by omega)] at h
    obtain ⟨rfl, rfl⟩ : 65533 = r ∧ 1 = d := ⟨congrArg Prod.fst h, congrArg Prod.snd h⟩
    exact rune_0 s w hs0 (.inl ⟨by omega, h2⟩)
  by_cases h3 : bt s 0 < 224
  · exact rune_2 s r d w hs0 hs hdec (by omega) h3
  by_cases h4 : bt s 0 < 240
  · exact rune_3 s r d w hs0 hs hdec (by omega) h4
  by_cases h5 : bt s 0 < 245
  · exact rune_4 s r d w hs0 hs hdec (by omega) h5
  · have h := hdec
    rw [dec_bt, dN_bad h1 (by omega) (by omega) (by omega)] at h
    obtain ⟨rfl, rfl⟩ : 65533 = r ∧ 1 = d := ⟨congrArg Prod.fst h, congrArg Prod.snd h⟩
    exact rune_0 s w hs0 (.inr (by omega))
/-- at a place of a text -/
theorem rune_at (s : ByteArray) (pos r d : Nat) (w : World) (hp : pos < s.size) (hs : s.size ≤ 65536) (hdl : decodeL ((ls s).drop pos) = (r, d)) :
    Calls Try.prog 58 #[.string (s.extract pos s.size)] w fun e w' => e = .returned (.tuple #[.int .i64 (r : Nat), .int .i64 (d : Nat), .bool (!(r == 65533 && d == 1))]) ∧ w' = w := by
  have hls := ext_ls s pos
  have hlen : (s.extract pos s.size).size = s.size - pos := by
    rw [← ls_len, ← ls_len s]
    show ((s.extract pos s.size).data.toList).length = _
    rw [hls, List.length_drop]
  refine rune_any (s.extract pos s.size) r d w (by omega) (by omega) ?_
  rw [← decodeL_drop, hls]
  exact hdl
end Go.Proofs.Ytpjldoahinocjaa.T03
