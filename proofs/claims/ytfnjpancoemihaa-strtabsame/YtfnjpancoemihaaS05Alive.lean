/-
  The chapter's example (alive), and what shows tells.
-/
import Derived.Test.YtfnjpancoemihaaS05Bytes
import Derived.Test.YtfnjpancoemihaaS05Find
import Derived.Deep.QuietTactic
import Derived.BigQuiet
namespace Go.Proofs.Ytfnjpancoemihaa.S05
open Go.RowKit Go.Lib Go.Maps Go.Proofs.Ytfnjpancoemihaa.Wd Go.Proofs.Ytfnjpancoemihaa.V01

set_option maxRecDepth 20000 in
set_option maxHeartbeats 1000000 in
theorem alive_any (w : World) : Calls Try.prog 7 #[] w fun e w' => e = .returned (.bool true) ∧ Below w.heap.size w w' := by
  go_enter Try.func7, Try.ntmps7
  go_wp2_with fail
  refine (new_any w).mono ?_
  rintro e w1 ⟨rfl, hT1, hb1⟩
  go_wp2_with fail
  refine (put_new w1 w.heap.size [] _ ⟨#[97]⟩ 0 hT1 (by simp) (by decide) rfl (by decide)).mono ?_
  rintro e w2 ⟨rfl, o2, hT2, f2, s2⟩
  have hb2 : Below w.heap.size w w2 := hb1.trans (f2.below hb1.size (by simp))
  have ho2 := s2.above hb1.size (B := w.heap.size) (by simp)
  clear f2 s2 hT1 hb1
  go_wp2_with fail
  refine (put_new w2 w.heap.size _ _ ⟨#[98]⟩ 1 hT2 (by simp) (by decide) rfl (by decide)).mono ?_
  rintro e w3 ⟨rfl, o3, hT3, f3, s3⟩
  have hb3 : Below w.heap.size w w3 := hb2.trans (f3.below hb2.size ho2)
  have ho3 := s3.above hb2.size ho2
  clear f3 s3 hT2 hb2
  go_wp2_with fail
  refine (put_there w3 w.heap.size _ _ ⟨#[97]⟩ 0 hT3 (by simp) (by decide)).mono ?_
  rintro e w4 ⟨rfl, rfl⟩
  go_wp2_with fail
  refine (bytes_tab w3 w.heap.size _ _ [2, 1, 97, 1, 98] hT3 (by decide)).mono ?_
  rintro e w5 ⟨A5, c5, rfl, hown5, hb5⟩
  have hbb : Below w.heap.size w w5 := hb3.trans (hb5.mono hb3.size)
  have hB5 := Bs.own hown5
  go_wp2_with fail
  refine (bytes_at _ _ c5 5 5 5 [2, 1, 97, 1, 98] [2, 1, 97, 1, 98] true _ (hB5.below ((Below.refl _ _).alloc (Nat.le_refl _) _)) (Bs.lit w5 5 #[.int .u8 2, .int .u8 1, .int .u8 97, .int .u8 1, .int .u8 98] [2, 1, 97, 1, 98] rfl (by decide)) rfl rfl (by decide)).mono ?_
  rintro e w6 ⟨rfl, rfl⟩
  go_wp2
  go_ret
  exact ⟨rfl, hbb.alloc hbb.size _⟩

set_option maxRecDepth 20000 in
set_option maxHeartbeats 1000000 in
theorem shows_any (w : World) (p : Nat) (L : List ByteArray) (o : List Nat) (A : Option Addr) (c n : Nat) (h : Tab w p L o) (hS : Ss w A c L) (hn : L.length = n) :
    Calls Try.prog 11 #[.pointer (some ⟨p, 0, none⟩), .slice A n c] w fun e w' => e = .returned (.bool true) ∧ w = w' := by
  have hlen := h.len
  have hcap := hS.cap
  have hmax := hS.max
  unfold maxLen at hmax
  have hl := len_any w p L o n h hn
  rw [hn] at hlen hcap
  have HN := Lib.hid hn
  clear hn
  go_enter Try.func11, Try.ntmps11
  go_wp2_with fail
  refine hl.mono ?_
  rintro e w1 ⟨rfl, rfl⟩
  clear hl
  go_wp2
  go_loop [5] (fun i => ∃ z : Int, i = .int .i64 z ∧ -1 ≤ z ∧ z ≤ n + 1) (fun i => (n + 1 - RowKit.intOf i).toNat)
  case atStart => exact ⟨-1, rfl, by omega, by omega⟩
  case round =>
    obtain ⟨z, rfl, hz0, hz1⟩ := hrel
    by_cases hzn : z ≤ n
    · by_cases hin : 0 ≤ z ∧ z < n
      · obtain ⟨k, rfl⟩ : ∃ k : Nat, z = k := ⟨z.toNat, by omega⟩
        have hkL : k < L.length := by rw [HN.out]; omega
        obtain ⟨ad, rfl, hc⟩ := hS.get hkL
        have hat := at_in w p L o k L[k] h (List.getElem?_eq_getElem hkL)
        obtain ⟨s, hs⟩ : ∃ s, L[k] = s := ⟨_, rfl⟩
        rw [hs] at hat hc
        have hb := eq_tl (rfl : s = s)
        have hkn : (k : Int) < n := hin.2
        have hk0 : (0 : Int) ≤ k := by omega
        clear hs hS h
        go_wp2_with fail
        refine hat.mono ?_
        rintro e w1 ⟨rfl, rfl⟩
        clear hat
        go_wp2
        go_round
        case rel => exact ⟨k + 1, by go_num, by omega, by omega⟩
        case measure => simp [RowKit.intOf]; omega
      · have hat := at_out w p L o z h (by rw [HN.out]; omega)
        have hb := eq_tl (rfl : ByteArray.empty = ByteArray.empty)
        have hzp : z < 0 ∨ (0 ≤ z ∧ ¬ z < n) := by omega
        clear hin
        rcases hzp with hzp | ⟨hzp, hzq⟩
        · clear hS h
          go_wp2_with fail
          refine hat.mono ?_
          rintro e w1 ⟨rfl, rfl⟩
          clear hat
          go_wp2
          go_round
          case rel => exact ⟨z + 1, by go_num, by omega, by omega⟩
          case measure => simp [RowKit.intOf]; omega
        · clear hS h
          go_wp2_with fail
          refine hat.mono ?_
          rintro e w1 ⟨rfl, rfl⟩
          clear hat
          go_wp2
          go_round
          case rel => exact ⟨z + 1, by go_num, by omega, by omega⟩
          case measure => simp [RowKit.intOf]; omega
    · clear hS h
      go_wp2
      go_ret
      exact ⟨rfl, rfl⟩
end Go.Proofs.Ytfnjpancoemihaa.S05
