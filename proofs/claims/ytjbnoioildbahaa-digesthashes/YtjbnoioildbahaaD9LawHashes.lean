/-
  The walk of DigestHashes.
-/
import Derived.Test.YtjbnoioildbahaaD9Ref
import Derived.Test.YtjbnoioildbahaaD9Text
set_option linter.unusedSimpArgs false
set_option linter.unusedVariables false
namespace Go.Proofs.Ytjbnoioildbahaa.D09
open Go.RowKit Go.Lib Go.Proofs.Ytjbnoioildbahaa.Wd

set_option maxRecDepth 20000 in
set_option maxHeartbeats 2000000 in
theorem hashes_law (A1 : Option Addr) (c1 n1 : Nat) (l : List UInt8) (A0 : Option Addr) (c0 : Nat) (L : List ByteArray) (t : Nat) (n : Int) (w : World) (hl1 : Bs w A1 c1 l) (hn1 : l.length = n1) (hL : Ss w A0 c0 L) (hz : ∀ s ∈ L, s.size ≤ maxLen)
    (ht : (t : Int) ≤ 18446744073709551615) (hn : n ≤ 9223372036854775807) :
    Calls Try.prog 3 #[.slice A1 n1 c1, .slice A0 L.length c0, .int .u64 (t : Int), .int .i64 n] w fun e w' => e = .returned (.bool true) ∧ Below w.heap.size w w' := by
  have b0 := Below.refl w.heap.size w
  have hm1 : n1 ≤ 9223372036854775807 := by have := hl1.cap; have := hl1.max; unfold maxLen at this; omega
  have hl : L.length ≤ 9223372036854775807 := by have := hL.cap; have := hL.max; unfold maxLen at this; omega
  obtain ⟨p, hp⟩ : ∃ p, part t n = p := ⟨_, rfl⟩
  obtain ⟨q, hq⟩ : ∃ q, decide (tr t % 1000 < n) = q := ⟨_, rfl⟩
  have hP := fun W => part_at t n p W ht hn hp
  have hR := fun W => rpart_at t n p W ht hn hp
  have hS := fun W => share_at t n q W ht hq
  have hT := fun W => rshare_at t n q W ht hq
  clear hp hq
  obtain ⟨len, hlen⟩ : ∃ len, L.length = len := ⟨_, rfl⟩
  have HL := Lib.hid hlen
  have HN := Lib.hid hn1
  rw [hlen] at hl ⊢
  clear hlen hn1
  go_enter Try.func3, Try.ntmps3
  go_wp2_with fail
  refine (alive_any _).mono ?_
  rintro e w1 ⟨rfl, b1⟩
  replace b0 := b0.trans (b1.mono b0.size)
  clear b1
  by_cases h2000 : (2000 : Int) < (n1 : Int)
  · go_wp2
    go_ret
    exact ⟨rfl, b0⟩
  · by_cases h50 : (50 : Int) < (len : Int)
    · go_wp2
      go_ret
      exact ⟨rfl, b0⟩
    · have hL1 := hL.below b0
      have hB1 := hl1.below b0
      obtain ⟨r, hr⟩ : ∃ r, fnv first (joined L) = r := ⟨_, rfl⟩
      have h0 : TextR L r 0 first := hr
      unfold first at h0
      have HR := Lib.hid hr
      clear hr
      go_wp2
      go_loopw [9, 10] (fun a i wr => ∃ (k : Nat) (x : Int), a = .int .u64 x ∧ i = .int .i64 (k : Int) ∧ k ≤ len ∧ Below w1.heap.size w1 wr ∧ (∀ s ∈ L.take k, s.size ≤ 2000) ∧ TextR L r k x) (fun _ i _ => len - (intOf i).toNat)
      case atStart => exact ⟨0, _, rfl, rfl, by omega, Below.refl _ _, by simp, h0⟩
      case round =>
        obtain ⟨k, x, rfl, rfl, hk, hb, hsz, hrel⟩ := hrel
        clear h0
        by_cases h : k < len
        · have hkl : k < L.length := by rw [HL.out]; exact h
          obtain ⟨ad, rfl, hcell⟩ := (hL1.below hb).get hkl
          have R := hrel.step hkl
          have htk : ∀ s ∈ L.take (k + 1), s ∈ L.take k ∨ s = L[k] := fun s hs => by
            rw [← List.take_append_getElem hkl] at hs
            rcases List.mem_append.1 hs with hs | hs
            · exact .inl hs
            · exact .inr (by simpa using hs)
          have hkz := hz _ (List.getElem_mem hkl)
          generalize L[k] = s at *
          have HT := Lib.hid htk
          have HZ := Lib.hid hsz
          clear hrel htk hsz
          by_cases h3 : (2000 : Int) < (s.size : Int)
          · go_wp2
            go_ret
            exact ⟨rfl, b0.trans (hb.mono b0.size)⟩
          · obtain ⟨C, W1, hcv, hB2, hb1⟩ := conv_bytes s wr (by omega)
            obtain ⟨y, hy⟩ : ∃ y, fnv x (bs s) = y := ⟨_, rfl⟩
            obtain ⟨z, hz0⟩ : ∃ z, fnv y [0] = z := ⟨_, rfl⟩
            rw [hy, hz0] at R
            have hm := rhash_at x _ C s.size (bs s) y W1 hB2 (bs_len s) (by omega) hy
            have hlt1 : wr.heap.size ≤ W1.heap.size := hb1.size
            have hb2 := hb.trans (hb1.mono hb.size)
            have hb3 : Below w1.heap.size w1 (W1.alloc (.cells #[.int .u8 0] 5)) := hb2.alloc hb2.size _
            have hB3 := Bs.lit W1 5 #[.int .u8 0] [0] rfl (by simp)
            have hn := rhash_at y _ 1 1 [0] z _ hB3 rfl (by omega) hz0
            clear hb1 hb2 hB2 hB3 hy hz0
            go_wp2_with fail
            refine hm.mono ?_
            rintro e w' ⟨rfl, rfl⟩
            go_wp2_with fail
            refine hn.mono ?_
            rintro e w' ⟨rfl, rfl⟩
            go_wp2
            go_roundw
            case rel => exact ⟨k + 1, z, rfl, by go_num, by omega, hb3, fun x hx => (HT.out x hx).elim (HZ.out x) (fun e => by rw [e]; omega), R⟩
            case measure => first | go_num | (simp [intOf]; omega)
        · have hkl : k = len := by omega
          subst hkl
          have e : x = r := by
            have := hrel
            rw [← HL.out] at this
            exact this.fin
          subst e
          rw [← HL.out, List.take_length] at hsz
          obtain ⟨y, hy⟩ : ∃ y, fnv first l = y := ⟨_, rfl⟩
          have hH := hash_at A1 c1 n1 l y wr (hB1.below hb) HN.out (by omega) hy
          have hG := rhash_at first A1 c1 n1 l y wr (hB1.below hb) HN.out (by omega) hy
          unfold first at hG
          have hX := text_at A0 c0 k L x wr (hL1.below hb) HL.out (fun s hs => Nat.le_trans (hsz s hs) (by omega)) HR.out
          have b2 := b0.trans (hb.mono b0.size)
          clear hrel hy hsz hb b0 hL1 hL hB1 hl1
          go_wp2_with fail
          refine hH.mono ?_
          rintro e w2 ⟨rfl, rfl⟩
          go_wp2_with fail
          refine hG.mono ?_
          rintro e w2 ⟨rfl, rfl⟩
          go_wp2_with fail
          refine hX.mono ?_
          rintro e w2 ⟨rfl, b1⟩
          replace b2 := b2.trans (b1.mono b2.size)
          clear b1
          go_wp2_with fail
          refine (hP _).mono ?_
          rintro e w3 ⟨rfl, b1⟩
          replace b2 := b2.trans (b1.mono b2.size)
          clear b1
          go_wp2_with fail
          refine (hR _).mono ?_
          rintro e w4 ⟨rfl, b1⟩
          replace b2 := b2.trans (b1.mono b2.size)
          clear b1
          go_wp2_with fail
          refine (hS _).mono ?_
          rintro e w5 ⟨rfl, b1⟩
          replace b2 := b2.trans (b1.mono b2.size)
          clear b1
          go_wp2_with fail
          refine (hT _).mono ?_
          rintro e w6 ⟨rfl, b1⟩
          replace b2 := b2.trans (b1.mono b2.size)
          clear b1
          go_wp2
          go_ret
          exact ⟨ret_bool (by simp), b2⟩
end Go.Proofs.Ytjbnoioildbahaa.D09
