/-
  The walk of DigestTexts.
-/
import Derived.Test.YtjbnoioildbahaaD9LawShares
import Derived.Test.YtjbnoioildbahaaD9Text
set_option linter.unusedSimpArgs false
set_option linter.unusedVariables false
namespace Go.Proofs.Ytjbnoioildbahaa.D09
open Go.RowKit Go.Lib Go.Proofs.Ytjbnoioildbahaa.Wd

/-- where the loop is: a row of the call's own -/
structure JnR (w : World) (L : List ByteArray) (k n : Nat) (A : Option Addr) (c : Nat) (wr : World) : Prop where
  own : wr.ownsRow w.heap.size 5 1 (.slice A n c) n (byteCells (joined (L.take k)))
  len : (joined (L.take k)).length = n
  bel : Below w.heap.size w wr
theorem JnR.start (w : World) (L : List ByteArray) : JnR w L 0 0 none 0 w := ⟨World.ownsRow_nil _ _ _ _, rfl, Below.refl _ _⟩
theorem JnR.step {w W : World} {L : List ByteArray} {k n m : Nat} {A : Option Addr} {c : Nat} (hk : k < L.length) (h : (joined (L.take k)).length = n) (hm : m = n + L[k].size + 1)
    (h1 : W.ownsRow w.heap.size 5 1 (.slice A m c) m (byteCells (joined (L.take k)) ++ (byteCells (bs L[k]) ++ [.int .u8 0]))) (h2 : Below w.heap.size w W) : JnR w L (k + 1) m A c W := by
  refine ⟨?_, ?_, h2⟩
  · rw [joined_take L k hk, bc_app, bc_app]
    exact h1
  · rw [joined_take L k hk, List.length_append, List.length_append, bs_len, h, hm]
    simp; omega
set_option maxRecDepth 20000 in
set_option maxHeartbeats 2000000 in
theorem texts_law (A0 : Option Addr) (c0 : Nat) (L : List ByteArray) (t n : Nat) (w : World) (hL : Ss w A0 c0 L) (hz : ∀ s ∈ L, s.size ≤ maxLen) (ht : (t : Int) ≤ 18446744073709551615) (hn : n ≤ 255) :
    Calls Try.prog 6 #[.slice A0 L.length c0, .int .u64 (t : Int), .int .u8 (n : Int)] w fun e w' => e = .returned (.bool true) ∧ Below w.heap.size w w' := by
  obtain ⟨i0, hi, hz0, hz1, hz2⟩ := info_parts byte_info
  have b0 := Below.refl w.heap.size w
  have hl : L.length ≤ 9223372036854775807 := by have := hL.cap; have := hL.max; unfold maxLen at this; omega
  have hP := fun W => part_at t n _ W ht (by omega) rfl
  obtain ⟨p, hp⟩ : ∃ p, part t n = p := ⟨_, rfl⟩
  have hpn : (n = 0 ∧ p = 0) ∨ (0 < n ∧ 0 ≤ p ∧ p < n) := by
    by_cases h0 : n = 0
    · exact .inl ⟨h0, by rw [← hp, h0]; rfl⟩
    · have := part_in t n (by omega)
      rw [hp] at this
      exact .inr ⟨by omega, this⟩
  rw [hp] at hP
  clear hp
  obtain ⟨len, hlen⟩ : ∃ len, L.length = len := ⟨_, rfl⟩
  have HL := Lib.hid hlen
  rw [hlen] at hl ⊢
  clear hlen
  go_enter Try.func6, Try.ntmps6
  go_wp2_with fail
  refine (alive_any _).mono ?_
  rintro e w1 ⟨rfl, b1⟩
  replace b0 := b0.trans (b1.mono b0.size)
  clear b1
  by_cases h30 : 30 < len
  · go_wp2
    go_ret
    exact ⟨rfl, b0⟩
  · have hL1 := hL.below b0
    have hst := JnR.start w1 L
    go_wp2
    go_loopw [7, 8] (fun v i wr => ∃ (k m : Nat) (A : Option Addr) (c : Nat), v = .slice A m c ∧ i = .int .i64 (k : Int) ∧ k ≤ len ∧ m ≤ 301 * k ∧ (∀ s ∈ L.take k, s.size ≤ 300) ∧ JnR w1 L k m A c wr) (fun _ i _ => len - (intOf i).toNat)
    case atStart => exact ⟨0, 0, none, 0, rfl, rfl, by omega, by omega, by simp, hst⟩
    case round =>
      obtain ⟨k, m, A, c, rfl, rfl, hk, hm, hsz, R⟩ := hrel
      clear hst
      by_cases h : k < len
      · have hkl : k < L.length := by rw [HL.out]; exact h
        obtain ⟨ad, rfl, hcell⟩ := (hL1.below R.bel).get hkl
        have hstep := fun (m' : Nat) (A : Option Addr) (c : Nat) (W : World) => JnR.step (w := w1) (W := W) (n := m) (m := m') (A := A) (c := c) hkl R.len
        have htk : ∀ s ∈ L.take (k + 1), s ∈ L.take k ∨ s = L[k] := fun s hs => by
          rw [← List.take_append_getElem hkl] at hs
          rcases List.mem_append.1 hs with hs | hs
          · exact .inl hs
          · exact .inr (by simpa using hs)
        have hkz := hz _ (List.getElem_mem hkl)
        generalize L[k] = s at *
        have hown := R.own
        have hb := R.bel
        have HS := Lib.hid hstep
        have HT := Lib.hid htk
        have HZ := Lib.hid hsz
        clear R hstep htk hsz
        by_cases h3 : (300 : Int) < (s.size : Int)
        · go_wp2
          go_ret
          exact ⟨rfl, b0.trans (hb.mono b0.size)⟩
        · have hbs := hb.size
          have d1 : m + s.size ≤ maxLen := by unfold maxLen; omega
          have d2 : m + s.size ≤ 140737488355328 := by omega
          have d4 : m + s.size + 1 ≤ maxLen := by unfold maxLen; omega
          have d5 : (m + s.size + 1) * 1 ≤ 140737488355328 := by omega
          go_wp2_with (at_builtin; refine wpList_append_text wr rfl (.tmp 27) (.tmp 31) 22 9 rfl w1.heap.size 5 i0 Try.underlying22 Try.underlying9 hi hz0 hz1 hz2 (.slice A m c) m _ rfl hown s rfl d1 d2 hbs ?_)
          intro A4 c4 w4 hown4 hg4
          have hne : ∀ q, (Value.slice A m c).ownBlock = some q → w1.heap.size ≤ q := fun q hq => (hown.lt q hq).1
          have hb4 := hb.grown hg4 hb.size hne
          have hbs4 := hb4.size
          clear hown hg4 hne hb hbs
          go_wp2_with (at_builtin; refine wpList_append_one w4 rfl (.tmp 32) (.tmp 33) 22 rfl w1.heap.size 5 i0 _ 1 Try.underlying22 hi hz0 hz1 hz2 rfl (.slice A4 (m + s.size) c4) (m + s.size) _ rfl hown4 (.int .u8 0) rfl rfl d4 d5 hbs4 ?_)
          intro A5 c5 w5 hown5 hb5
          have hR := HS.out (m + s.size + 1) A5 c5 w5 rfl hown5 (hb4.trans hb5)
          clear hown4 hb4 hbs4 hown5 hb5 HS
          go_wp2
          go_roundw
          case rel => exact ⟨k + 1, m + s.size + 1, A5, c5, rfl, by go_num, by omega, by omega, fun x hx => (HT.out x hx).elim (HZ.out x) (fun e => by rw [e]; omega), hR⟩
          case measure => first | go_num | (simp [intOf]; omega)
      · have hkl : k = len := by omega
        subst hkl
        have hown := R.own
        have hb := R.bel
        have htk : L.take k = L := List.take_of_length_le (by rw [HL.out]; exact Nat.le_refl _)
        have hB : Bs wr A c (joined L) := Rd.own (by rw [← htk, R.len]; exact hown)
        have hjl : (joined L).length = m := by rw [← htk, R.len]
        obtain ⟨r, hr⟩ : ∃ r, fnv first (joined L) = r := ⟨_, rfl⟩
        rw [htk] at hsz
        have hT := fun W (hW : Below wr.heap.size wr W) => text_at A0 c0 k L r W ((hL1.below hb).below hW) (HL.out) (fun s hs => Nat.le_trans (hsz s hs) (by omega)) hr
        have hH := fun W (hW : Below wr.heap.size wr W) => hash_at A c m (joined L) r W (hB.below hW) hjl (by omega) hr
        have bx := Below.refl wr.heap.size wr
        have b2 := b0.trans (hb.mono b0.size)
        clear R hown htk hB hjl hr hsz hb b0 hL1 hL
        go_wp2_with fail
        refine (hP _).mono ?_
        rintro e w2 ⟨rfl, b1⟩
        replace bx := bx.trans (b1.mono bx.size)
        clear b1
        go_wp2_with fail
        refine (hT _ bx).mono ?_
        rintro e w3 ⟨rfl, b1⟩
        replace bx := bx.trans (b1.mono bx.size)
        clear b1
        go_wp2_with fail
        refine (hH _ bx).mono ?_
        rintro e w4 ⟨rfl, rfl⟩
        go_wp2_with fail
        refine (hP _).mono ?_
        rintro e w5 ⟨rfl, b1⟩
        replace bx := bx.trans (b1.mono bx.size)
        replace b2 := b2.trans (bx.mono b2.size)
        clear b1 bx
        rcases hpn with ⟨rfl, rfl⟩ | ⟨hn0, p0, p1⟩
        · go_wp2
          go_ret
          exact ⟨rfl, b2⟩
        · go_wp2
          go_ret
          exact ⟨rfl, b2⟩
end Go.Proofs.Ytjbnoioildbahaa.D09
