/-
  digest.Text.
-/
import Derived.Test.YtjbnoioildbahaaD9Hash
set_option linter.unusedSimpArgs false
set_option linter.unusedVariables false
namespace Go.Proofs.Ytjbnoioildbahaa.D09
open Go.RowKit Go.Lib Go.Proofs.Ytjbnoioildbahaa.Wd

/-- '[]byte(s)' -/
theorem conv_bytes (s : ByteArray) (w : World) (hs : s.size ≤ 9000000) : ∃ C W1, (convert 9 22 (.string s)).run Try.prog w = .ok (.slice (some ⟨w.heap.size, 0, none⟩) s.size C) W1 ∧ Bs W1 (some ⟨w.heap.size, 0, none⟩) C (bs s) ∧ Below w.heap.size w W1 := by
  have hg := grownCap_ge w s.size 0 5
  have hm := grownCap_le_maxLen w s.size 0 5 (by unfold maxLen; omega)
  refine ⟨_, _, run_bytes_of_string w 9 22 5 s Try.underlying9 Try.underlying22 Try.underlying5, ?_, ?_⟩
  · refine ⟨by rw [bc_len]; omega, fun e => (by cases e), by rw [bs_len]; exact hg, hm, fun ad ha i u hu => ?_⟩
    injection ha with ha
    subst ha
    obtain ⟨hi, rfl⟩ := bc_at _ i u hu
    have e1 : (⟨w.heap.size, 0, none⟩ : Addr).add i = ⟨w.heap.size, i, none⟩ := by unfold Addr.add; split <;> simp_all
    have e2 := World.cell?_alloc_mark w.drew (bytesRow s (grownCap w s.size 0 5)) 5 ((bytesRow s (grownCap w s.size 0 5)).size, (bytesRow s (grownCap w s.size 0 5)).size + 1) i
    rw [e1]
    refine Eq.trans e2 ?_
    rw [bs_len] at hi
    have hi' : i < s.data.size := hi
    unfold bytesRow
    rw [Array.getElem?_append_left (by simpa using hi')]
    simp only [Array.getElem?_map, Array.getElem?_eq_getElem hi', Option.map_some, bs, Array.getElem_toList]
  · exact ((Below.refl _ _).drew).alloc (Nat.le_refl _) _

set_option maxRecDepth 20000 in
set_option maxHeartbeats 1000000 in
theorem text_at (A : Option Addr) (c len : Nat) (L : List ByteArray) (r : Int) (w : World) (ha : Ss w A c L) (hlen : L.length = len) (hs : ∀ s ∈ L, s.size ≤ 9000000) (hr : fnv first (joined L) = r) :
    Calls Try.prog 10 #[.slice A len c] w fun e w' => e = .returned (.int .u64 r) ∧ Below w.heap.size w w' := by
  subst hlen
  have h0 : TextR L r 0 first := hr
  have hl : L.length ≤ 9223372036854775807 := by have := ha.cap; have := ha.max; unfold maxLen at this; omega
  go_enter Try.func10, Try.ntmps10
  go_wp2
  go_loopw [3, 8] (fun a i wr => ∃ (k : Nat) (x : Int), a = .int .u64 x ∧ i = .int .i64 (k : Int) ∧ k ≤ L.length ∧ Below w.heap.size w wr ∧ TextR L r k x) (fun _ i _ => L.length - (intOf i).toNat)
  case atStart => exact ⟨0, _, rfl, rfl, by omega, Below.refl _ _, h0⟩
  case round =>
    obtain ⟨k, x, rfl, rfl, hk, hb, hrel⟩ := hrel
    clear h0
    by_cases h : k < L.length
    · obtain ⟨ad, rfl, hcell⟩ := (ha.below hb).get h
      have R := hrel.step h
      have hz := hs _ (List.getElem_mem h)
      generalize L[k] = s at *
      clear hrel
      obtain ⟨C, W1, hcv, hB1, hb1⟩ := conv_bytes s wr hz
      obtain ⟨y, hy⟩ : ∃ y, fnv x (bs s) = y := ⟨_, rfl⟩
      obtain ⟨z, hz0⟩ : ∃ z, fnv y [0] = z := ⟨_, rfl⟩
      rw [hy, hz0] at R
      have hm := more_at x _ C s.size (bs s) y W1 hB1 (bs_len s) hz hy
      have hlt1 : wr.heap.size ≤ W1.heap.size := hb1.size
      have hb2 := hb.trans (hb1.mono hb.size)
      have hb3 : Below w.heap.size w (W1.alloc (.cells #[.int .u8 0] 5)) := hb2.alloc hb2.size _
      have hB2 := Bs.lit W1 5 #[.int .u8 0] [0] rfl (by simp)
      have hn := more_at y _ 1 1 [0] z _ hB2 rfl (by omega) hz0
      clear hb1 hb2 hB1 hB2 hy hz0
      go_wp2_with fail
      refine hm.mono ?_
      rintro e w' ⟨rfl, rfl⟩
      go_wp2_with fail
      refine hn.mono ?_
      rintro e w' ⟨rfl, rfl⟩
      go_wp2
      go_roundw
      case rel => exact ⟨k + 1, z, rfl, by go_num, by omega, hb3, R⟩
      case measure => first | go_num | (simp [intOf]; omega)
    · have hkl : k = L.length := by omega
      subst hkl
      have E := Lib.hid hrel.fin
      clear hrel
      go_wp2
      go_ret
      exact ⟨ret_int (by rw [← E.out]), hb⟩
end Go.Proofs.Ytjbnoioildbahaa.D09
