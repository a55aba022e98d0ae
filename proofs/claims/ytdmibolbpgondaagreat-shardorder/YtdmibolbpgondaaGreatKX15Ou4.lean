/-
  Numbers in their places: are they sorted already; which one to part by; some moved about.
  Numbers in their places: pdqsortOrdered, slices.Sort.
  slices.Sorted(maps.Keys(m)): the keys, rising; Traces of a shard.
-/
import Derived.Test.YtdmibolbpgondaaGreatKX15Ou3
import Derived.Test.YtdmibolbpgondaaGreatKX15SortS
import Derived.Shelf.SlSortCmp.Xorshift
import Derived.Deep.CutRange
import Derived.Handy
import Derived.Test.YtdmibolbpgondaaGreatKX15SortU
import Derived.Deep.Cut
import Derived.Test.YtdmibolbpgondaaGreatKX15Wide
section
set_option linter.unusedSimpArgs false
set_option linter.unusedVariables false
namespace Go.Proofs.YtdmibolbpgondaaGreat.Ou
open Go.Sort Go.RowKit Go.Lib
/-- sorted already? -/
def PiOut (w : World) (blk off N a b : Nat) (d : Array Int) (e : Ending) (W' : World) : Prop := ∃ q d', e = .returned (.bool q) ∧ Rs w blk off N d' W' ∧ PermIn a b d d' ∧ (q = true → SortedIn ltInt a b d')
set_option maxRecDepth 20000 in
set_option maxHeartbeats 2000000 in
theorem partial_any {w W : World} {blk off N c a b : Nat} {d : Array Int} (h : Rs w blk off N d W) (hab : a < b) (hb : b ≤ N) (h50 : b - a < 50) (hN : N ≤ 100000) :
    Calls Tryz.prog 113 #[.slice (some ⟨blk, off, none⟩) N c, .int .i64 (a : Int), .int .i64 (b : Int)] W (PiOut w blk off N a b d) := by
  have H0 := Lib.hid h
  have h50z : (b : Int) - (a : Int) < 50 := by omega
  obtain ⟨G, hG⟩ : ∃ G : Nat → Int, ∀ t, G t = d[t]! := ⟨fun t => d[t]!, fun _ => rfl⟩
  have HG := Lib.hid hG
  clear hG h
  go_enter Tryz.func113, Tryz.ntmps113
  go_wp2
  refine wp_loop_rounds 1 ?_
  rw [rounds_succ]
  go_wp2_with fail
  go_loopw [7] (fun vi wr => ∃ (i : Nat), vi = .int .i64 (i : Int) ∧ a < i ∧ i ≤ b ∧ Hid (Rs w blk off N d wr ∧ SortedIn ltInt a i d)) (fun vi _ => b - (intOf vi).toNat)
  case atStart => exact ⟨a + 1, by go_num, by omega, by omega, Lib.hid ⟨H0.out, fun i j h1 h2 h3 => by omega⟩⟩
  case round =>
    obtain ⟨i, rfl, hai, hib, HR⟩ := hrel
    have hcw : ∀ t, t < N → wr.cell? ⟨blk, off + t, none⟩ = some (.int .u64 (G t)) := fun t ht => by rw [HG.out]; exact HR.out.1.cell ht
    by_cases hlt : i < b
    · have hltz : (i : Int) < (b : Int) := by omega
      have hne : ¬ (i : Int) = (b : Int) := by omega
      have hin : i < N := by omega
      cases ht : ltInt (G i) (G (i - 1)) with
      | false =>
        go_wp2_with fail
        go_quiet (first | (go_at_call 114; refine Calls.quiet_of_same (less_any _ _ _)))
        go_wp2
        go_roundw
        case rel => exact ⟨i + 1, by go_num, by omega, by omega, Lib.hid ⟨HR.out.1.dn _, HR.out.2.snoc swo_ltInt (by rw [← HG.out, ← HG.out]; exact ht)⟩⟩
        case measure => first | (simp [intOf]; done) | (simp [intOf]; omega)
      | true =>
        go_wp2_with fail
        go_quiet (first | (go_at_call 114; refine Calls.quiet_of_same (less_any _ _ _)))
        have HQ := Lib.hid (HR.out.1.dn nq)
        clear hcw HR
        generalize wr.drewN nq = wy at HQ ⊢
        go_wp2
        go_ret
        exact ⟨false, d, rfl, HQ.out, permIn_refl _ _ _, fun e => by cases e⟩
    · have hltz : decide ((i : Int) < (b : Int)) = false := decide_eq_false (by omega)
      obtain rfl : i = b := by omega
      go_wp2_with fail
      go_quiet (fail)
      have HQ := Lib.hid (And.intro (HR.out.1.dn nq) HR.out.2)
      clear hcw HR
      generalize wr.drewN nq = wy at HQ ⊢
      go_wp2
      go_ret
      exact ⟨true, d, rfl, HQ.out.1, permIn_refl _ _ _, fun _ => HQ.out.2⟩
/-- the row, and a counter in a block made since -/
structure Ct (w : World) (blk off N : Nat) (d : Array Int) (sb s : Nat) (W : World) : Prop where
  rs : Rs w blk off N d W
  new : w.heap.size ≤ sb
  cell : W.cell? ⟨sb, 0, none⟩ = some (.int .i64 (s : Int))
  froz : W.frozen? ⟨sb, 0, none⟩ = false
theorem Ct.dn {w W : World} {blk off N : Nat} {d : Array Int} {sb s : Nat} (h : Ct w blk off N d sb s W) (q : Nat) : Ct w blk off N d sb s (W.drewN q) := ⟨h.rs.dn q, h.new, h.cell, h.froz⟩
theorem Ct.put {w W : World} {blk off N : Nat} {d : Array Int} {sb s : Nat} (h : Ct w blk off N d sb s W) (t : Nat) : Ct w blk off N d sb t (W.setCell ⟨sb, 0, none⟩ (.int .i64 (t : Int))) :=
  ⟨h.rs.other h.new 0 _, h.new, World.cell?_setCell_same W _ _ h.cell, by rw [World.frozen?_setCell]; exact h.froz⟩
def OdOut (w : World) (blk off N : Nat) (d : Array Int) (sb s a b : Nat) (e : Ending) (W' : World) : Prop :=
  ∃ x y s' : Nat, e = .returned (.tuple #[.int .i64 (x : Int), .int .i64 (y : Int)]) ∧ (x = a ∧ y = b ∨ x = b ∧ y = a) ∧ s' ≤ s + 1 ∧ Ct w blk off N d sb s' W'
set_option maxRecDepth 20000 in
set_option maxHeartbeats 2000000 in
theorem order2_any {w W : World} {blk off N c a b sb s : Nat} {d : Array Int} (h : Ct w blk off N d sb s W) (ha : a < N) (hb : b < N) (hs : s ≤ 1000) :
    Calls Tryz.prog 146 #[.slice (some ⟨blk, off, none⟩) N c, .int .i64 (a : Int), .int .i64 (b : Int), .pointer (some ⟨sb, 0, none⟩)] W (OdOut w blk off N d sb s a b) := by
  obtain ⟨G, hG⟩ : ∃ G : Nat → Int, ∀ t, G t = d[t]! := ⟨fun t => d[t]!, fun _ => rfl⟩
  have hcw : ∀ t, t < N → W.cell? ⟨blk, off + t, none⟩ = some (.int .u64 (G t)) := fun t ht => by rw [hG]; exact h.rs.cell ht
  have H0 := Lib.hid h
  clear hG h
  go_enter Tryz.func146, Tryz.ntmps146
  go_wp2_with fail
  go_quiet (first | (go_at_call 114; refine Calls.quiet_of_same (less_any _ _ _)))
  have HQ := Lib.hid (H0.out.dn nq)
  clear hcw H0
  generalize W.drewN nq = wy at HQ ⊢
  have cs := HQ.out.cell
  have fs := HQ.out.froz
  obtain ⟨s1, hs1⟩ : ∃ s1, s + 1 = s1 := ⟨_, rfl⟩
  have e1 : (s : Int) + 1 = (s1 : Int) := by omega
  have s1m : s1 ≤ 1001 := by omega
  have HS := Lib.hid hs1
  clear hs1
  cases ltInt (G b) (G a) with
  | true =>
    go_wp2
    go_ret2
    exact ⟨b, a, s1, rfl, .inr ⟨rfl, rfl⟩, by have := HS.out; omega, HQ.out.put s1⟩
  | false =>
    go_wp2
    go_ret2
    exact ⟨a, b, s, rfl, .inl ⟨rfl, rfl⟩, by omega, HQ.out⟩
def MdOut (w : World) (blk off N : Nat) (d : Array Int) (sb s a b c : Nat) (e : Ending) (W' : World) : Prop :=
  ∃ x s' : Nat, e = .returned (.int .i64 (x : Int)) ∧ (x = a ∨ x = b ∨ x = c) ∧ s' ≤ s + 3 ∧ Ct w blk off N d sb s' W'
set_option maxRecDepth 20000 in
set_option maxHeartbeats 2000000 in
theorem median_any {w W : World} {blk off N cc a b c sb s : Nat} {d : Array Int} (h : Ct w blk off N d sb s W) (ha : a < N) (hb : b < N) (hc : c < N) (hs : s ≤ 900) :
    Calls Tryz.prog 139 #[.slice (some ⟨blk, off, none⟩) N cc, .int .i64 (a : Int), .int .i64 (b : Int), .int .i64 (c : Int), .pointer (some ⟨sb, 0, none⟩)] W (MdOut w blk off N d sb s a b c) := by
  go_enter Tryz.func139, Tryz.ntmps139
  go_wp2_with fail
  refine (order2_any (c := cc) h ha hb (by omega)).mono ?_
  rintro e w1 ⟨x1, y1, s1, rfl, hx1, hs1, h1⟩
  have l1 : x1 < N := by omega
  have l2 : y1 < N := by omega
  have A1 := Lib.hid hx1
  clear hx1
  go_wp2_with fail
  refine (order2_any (c := cc) h1 l2 hc (by omega)).mono ?_
  rintro e w2 ⟨x2, y2, s2, rfl, hx2, hs2, h2⟩
  have l3 : x2 < N := by omega
  have A2 := Lib.hid hx2
  clear hx2
  go_wp2_with fail
  refine (order2_any (c := cc) h2 l1 l3 (by omega)).mono ?_
  rintro e w3 ⟨x3, y3, s3, rfl, hx3, hs3, h3⟩
  have A3 := Lib.hid hx3
  clear hx3
  go_wp2
  go_ret
  have := A1.out
  have := A2.out
  have := A3.out
  exact ⟨y3, s3, rfl, by omega, by omega, h3⟩
/-- which one to part by -/
def CpOut (w : World) (blk off N a b : Nat) (d : Array Int) (e : Ending) (W' : World) : Prop := ∃ (p h : Nat), e = .returned (.tuple #[.int .i64 (p : Int), .int .i64 (h : Int)]) ∧ a ≤ p ∧ p < b ∧ h ≤ 2 ∧ Rs w blk off N d W'
set_option maxRecDepth 20000 in
set_option maxHeartbeats 2000000 in
theorem pivot_any {w W : World} {blk off N c a b : Nat} {d : Array Int} (h : Rs w blk off N d W) (h12 : 12 < b - a) (h50 : b - a < 50) (hb : b ≤ N) (hN : N ≤ 100000) :
    Calls Tryz.prog 111 #[.slice (some ⟨blk, off, none⟩) N c, .int .i64 (a : Int), .int .i64 (b : Int)] W (CpOut w blk off N a b d) := by
  obtain ⟨L, hL⟩ : ∃ L, b - a = L := ⟨_, rfl⟩
  have e0 : (b : Int) - (a : Int) = (L : Int) := by omega
  obtain ⟨I, hI⟩ : ∃ I : Nat, a + L / 4 * 1 = I := ⟨_, rfl⟩
  obtain ⟨J, hJ⟩ : ∃ J : Nat, a + L / 4 * 2 = J := ⟨_, rfl⟩
  obtain ⟨K, hK⟩ : ∃ K : Nat, a + L / 4 * 3 = K := ⟨_, rfl⟩
  have eI : ((a : Int) + (L : Int) / 4) = (I : Int) := by omega
  have eJ : ((a : Int) + (L : Int) / 4 * 2) = (J : Int) := by omega
  have eK : ((a : Int) + (L : Int) / 4 * 3) = (K : Int) := by omega
  have g1 : (8 : Int) ≤ (L : Int) := by omega
  have g2 : ¬ (50 : Int) ≤ (L : Int) := by omega
  have i1 : I < N ∧ a ≤ I ∧ I < b := by omega
  have j1 : J < N ∧ a ≤ J ∧ J < b := by omega
  have k1 : K < N ∧ a ≤ K ∧ K < b := by omega
  have HI := Lib.hid i1
  have HJ := Lib.hid j1
  have HK := Lib.hid k1
  have hsz := h.base
  have h0 : Ct w blk off N d W.heap.size 0 (W.alloc (.cells #[.int .i64 0] 3)) := ⟨h.alloc _, hsz, by simp, by simp⟩
  have hm := median_any (cc := c) h0 HI.out.1 HJ.out.1 HK.out.1 (by omega)
  clear hI hJ hK i1 j1 k1 h12 h50 hL
  go_enter Tryz.func111, Tryz.ntmps111
  go_wp2_with fail
  refine hm.mono ?_
  rintro e w1 ⟨p, s, rfl, hp, hs, h1⟩
  have cs := h1.cell
  have HP := Lib.hid (show a ≤ p ∧ p < b from by
    have := HI.out
    have := HJ.out
    have := HK.out
    rcases hp with rfl | rfl | rfl <;> omega)
  have H1 := Lib.hid h1.rs
  clear hm h0 h1 hp
  go_wp2
  all_goals go_ret2
  · exact ⟨p, 1, rfl, HP.out.1, HP.out.2, by omega, H1.out⟩
  · exact ⟨p, 0, rfl, HP.out.1, HP.out.2, by omega, H1.out⟩
set_option maxRecDepth 20000 in
set_option maxHeartbeats 4000000 in
theorem break_any {w W : World} {blk off N c a b : Nat} {d : Array Int} (h : Rs w blk off N d W) (h12 : 12 < b - a) (hb : b ≤ N) (hN : N ≤ 100000) :
    Calls Tryz.prog 110 #[.slice (some ⟨blk, off, none⟩) N c, .int .i64 (a : Int), .int .i64 (b : Int)] W (PmOut w blk off N a b d) := by
  obtain ⟨L, hL⟩ : ∃ L, b - a = L := ⟨_, rfl⟩
  have e0 : (b : Int) - (a : Int) = (L : Int) := by omega
  obtain ⟨M, hM⟩ : ∃ M : Nat, 1 <<< bitsLen L = M := ⟨_, rfl⟩
  have hM1 : 1 ≤ M := by rw [← hM, Nat.one_shiftLeft]; exact Nat.two_pow_pos _
  have hM2 : M ≤ 2 * L := by rw [← hM, Nat.one_shiftLeft]; exact two_pow_bitsLen_le (by omega)
  have hNP : ∀ w, Calls Tryz.prog 133 #[.int .i64 (L : Int)] w fun e w' => e = .returned (.int .u64 (M : Int)) ∧ w' = w := by rw [← hM]; exact fun w => AnyF.nextPowerOfTwo (P := Tryz.prog) (ρ := X15.sren) { X15.slays6 with } L (by omega) w
  obtain ⟨q, hq⟩ : ∃ q : Nat, L / 4 * 2 = q := ⟨_, rfl⟩
  obtain ⟨i0, hi0⟩ : ∃ i0 : Nat, a + q - 1 = i0 := ⟨_, rfl⟩
  have eq1 : (L : Int) / 4 * 2 = (q : Int) := by omega
  have eq2 : (a : Int) + (q : Int) - 1 = (i0 : Int) := by omega
  have eq3 : (a : Int) + (q : Int) + 1 = ((i0 + 2 : Nat) : Int) := by omega
  have g1 : (8 : Int) ≤ (L : Int) := by omega
  have HI := Lib.hid (show a ≤ i0 ∧ i0 + 2 < b ∧ L ≤ 100000 ∧ a + L = b from by omega)
  have H0 := Lib.hid h
  have hsz := h.base
  have wL : IntKind.u64.wrap (L : Int) = (L : Int) := by rw [IntKind.wrap_u64]; omega
  clear hM hq hi0 hL h h12
  go_enter Tryz.func110, Tryz.ntmps110
  go_wp2_with (first | (go_at_call 133; refine (hNP _).mono ?_; rintro e w' ⟨rfl, rfl⟩))
  obtain ⟨g, hg⟩ : ∃ g, W.heap.size = g := ⟨_, rfl⟩
  obtain ⟨V, hV⟩ : ∃ V, W.alloc (.cells #[.int .u64 (L : Int)] 195) = V := ⟨_, rfl⟩
  have hs0 : Rs w blk off N d V ∧ V.cell? ⟨g, 0, none⟩ = some (.int .u64 (L : Int)) ∧ V.frozen? ⟨g, 0, none⟩ = false := by
    rw [← hV, ← hg]
    exact ⟨H0.out.alloc _, by simp, by simp⟩
  rw [hV, hg]
  rw [hg] at hsz
  have HS := Lib.hid hs0
  clear hV hg hs0 H0
  go_loopw [9] (fun vi wr => ∃ (t r : Nat) (dk : Array Int), vi = .int .i64 ((i0 + t : Nat) : Int) ∧ t ≤ 3 ∧ Hid (r < 18446744073709551616 ∧ Rs w blk off N dk wr ∧ PermIn a b d dk) ∧ wr.cell? ⟨g, 0, none⟩ = some (.int .u64 (r : Int)) ∧ wr.frozen? ⟨g, 0, none⟩ = false) (fun vi _ => i0 + 3 - (intOf vi).toNat)
  case atStart => exact ⟨0, L, d, rfl, by omega, Lib.hid ⟨by have := HI.out; omega, HS.out.1, permIn_refl _ _ _⟩, HS.out.2⟩
  case round =>
    obtain ⟨t, r, dk, rfl, ht, HR, hc, hf⟩ := hrel
    clear HS
    by_cases ht3 : t = 3
    · subst ht3
      go_wp2
      go_end0
      exact ⟨rfl, dk, HR.out.2⟩
    · obtain ⟨R, hR⟩ : ∃ R, xorNextN r = R := ⟨_, rfl⟩
      have lR : R < 18446744073709551616 := by rw [← hR]; exact xorNextN_lt r HR.out.1
      obtain ⟨O, hO⟩ : ∃ O, R &&& (M - 1) = O := ⟨_, rfl⟩
      have lO : O ≤ M - 1 := by rw [← hO]; exact Nat.and_le_right
      have eAnd : bits .and .u64 (R : Int) ((M : Int) - 1) = (O : Int) := by
        rw [show ((M : Int) - 1) = ((M - 1 : Nat) : Int) by omega, bits_and_u64_nat _ _ lR (by have := HI.out; omega), hO]
      have hNext : Calls Tryz.prog 134 #[.pointer (some ⟨g, 0, none⟩)] wr fun e w' => e = .returned (.int .u64 (R : Int)) ∧ w' = (wr.setCell ⟨g, 0, none⟩ (.int .u64 (R : Int))).drewN 3 := by
        rw [← hR]; exact AnyF.xorshift_Next (P := Tryz.prog) (ρ := X15.sren) { X15.slays6 with } _ _ r HR.out.1 wr hc hf
      have HQ := Lib.hid (show Rs w blk off N dk ((wr.setCell ⟨g, 0, none⟩ (.int .u64 (R : Int))).drewN 3) ∧ ((wr.setCell ⟨g, 0, none⟩ (.int .u64 (R : Int))).drewN 3).cell? ⟨g, 0, none⟩ = some (.int .u64 (R : Int)) ∧ ((wr.setCell ⟨g, 0, none⟩ (.int .u64 (R : Int))).drewN 3).frozen? ⟨g, 0, none⟩ = false from
        ⟨(HR.out.2.1.other hsz 0 _).dn 3, World.cell?_setCell_same wr _ _ hc, (World.frozen?_setCell ..).trans hf⟩)
      have HPm := Lib.hid HR.out.2.2
      have HRl := Lib.hid (And.intro lR lO)
      have i3 : ((i0 + t : Nat) : Int) ≤ ((i0 + 2 : Nat) : Int) := by omega
      have hMl : M ≤ 200000 := by have := HI.out; omega
      have hOl : O ≤ 200000 := by omega
      clear hR hO HR lR
      go_wp2_with fail
      refine hNext.mono ?_
      rintro e w' ⟨rfl, rfl⟩
      clear hNext hc hf
      generalize (wr.setCell ⟨g, 0, none⟩ (.int .u64 (R : Int))).drewN 3 = wx at HQ ⊢
      obtain ⟨o, ho⟩ : ∃ o, (if L ≤ O then O - L else O) = o := ⟨_, rfl⟩
      have HO := Lib.hid (show a + o < b ∧ (L ≤ O → O = L + o) ∧ (¬ L ≤ O → O = o) from by
        have := HI.out
        have := HRl.out
        split at ho <;> omega)
      clear ho
      obtain ⟨G, hG⟩ : ∃ G : Nat → Int, ∀ t, G t = dk[t]! := ⟨fun t => dk[t]!, fun _ => rfl⟩
      have hcw : ∀ t, t < N → wx.cell? ⟨blk, off + t, none⟩ = some (.int .u64 (G t)) := fun t ht => by rw [hG]; exact HQ.out.1.cell ht
      have hfw : ∀ t, t < N → wx.frozen? ⟨blk, off + t, none⟩ = false := fun t ht => HQ.out.1.frozen ht
      have HG := Lib.hid hG
      clear hG lO
      have hin : i0 + t < N := by have := HI.out; omega
      have hon : a + o < N := by have := HO.out; omega
      obtain ⟨v', hy'⟩ := cell_still (w := wx) (p := ⟨blk, off + (i0 + t), none⟩) (x := .int .u64 (G (a + o))) (q := ⟨blk, off + (a + o), none⟩) (hcw (a + o) hon)
      have HF := Lib.hid (show ∀ W2, (((wx.setCell ⟨blk, off + (i0 + t), none⟩ (.int .u64 (G (a + o)))).setCell ⟨blk, off + (a + o), none⟩ (.int .u64 (G (i0 + t)))).drew = W2) → ∃ (t' r : Nat) (dk : Array Int), Value.int .i64 (((i0 + t : Nat) : Int) + 1) = .int .i64 ((i0 + t' : Nat) : Int) ∧ t' ≤ 3 ∧ Hid (r < 18446744073709551616 ∧ Rs w blk off N dk W2 ∧ PermIn a b d dk) ∧ W2.cell? ⟨g, 0, none⟩ = some (.int .u64 (r : Int)) ∧ W2.frozen? ⟨g, 0, none⟩ = false from fun W2 e => by
        subst e
        have hi := HI.out
        have ho := HO.out
        have hne : g ≠ blk := by have := HQ.out.1.lt; omega
        refine ⟨t + 1, R, swp dk (i0 + t) (a + o), by first | rfl | (congr 1 <;> omega), by omega, Lib.hid ⟨HRl.out.1, (HQ.out.1.swp hin hon (HG.out _) (HG.out _)).drew, ?_⟩, ?_, ?_⟩
        · exact permIn_trans _ _ _ _ _ HPm.out (swp_permIn _ a b _ _ (by omega) (by omega) (by omega) (by omega) (by rw [HQ.out.1.sz]; exact hb))
        · show ((wx.setCell _ _).setCell _ _).cell? _ = _
          rw [World.cell?_setCell_other _ _ _ _ (by intro e; exact hne (congrArg Addr.block e).symm), World.cell?_setCell_other _ _ _ _ (by intro e; exact hne (congrArg Addr.block e).symm)]
          exact HQ.out.2.1
        · show ((wx.setCell _ _).setCell _ _).frozen? _ = _
          rw [World.frozen?_setCell, World.frozen?_setCell]
          exact HQ.out.2.2)
      by_cases hLO : L ≤ O
      · have hOo := HO.out.2.1 hLO
        have eO : (O : Int) - (L : Int) = (o : Int) := by omega
        clear hOo
        go_wp2_with fail
        go_region
        all_goals go_wp2
        go_roundw
        case rel => exact HF.out _ rfl
        case measure => first | (simp [intOf]; done) | (simp [intOf]; omega)
      · have hOo := HO.out.2.2 hLO
        subst hOo
        have hLOz : ¬ (L : Int) ≤ (O : Int) := by omega
        go_wp2_with fail
        go_region
        all_goals go_wp2
        go_roundw
        case rel => exact HF.out _ rfl
        case measure => first | (simp [intOf]; done) | (simp [intOf]; omega)
end Go.Proofs.YtdmibolbpgondaaGreat.Ou
end

section
set_option linter.unusedSimpArgs false
set_option linter.unusedVariables false
namespace Go.Proofs.YtdmibolbpgondaaGreat.Ou
open Go.Sort Go.RowKit Go.Lib
theorem SoOut.of {w W : World} {blk off N a b a' b' : Nat} {d dk d2 : Array Int} (hW : Whole d a b dk a' b') (h : Rs w blk off N d2 W) (hp : PermIn a' b' dk d2) (hs : SortedIn ltInt a' b' d2) : SoOut w blk off N a b d (.returned (.tuple #[])) W :=
  ⟨rfl, d2, h, hW d2 hp hs⟩
set_option maxRecDepth 20000 in
set_option maxHeartbeats 8000000 in
theorem pdq_any (w : World) (blk off N c : Nat) (hN : N < 50) : ∀ (n : Nat) (W : World) (a b lim : Nat) (d : Array Int), b - a < n → Rs w blk off N d W → a ≤ b → b ≤ N → lim ≤ 1000 → Below ltInt a b d →
    Calls Tryz.prog 85 #[.slice (some ⟨blk, off, none⟩) N c, .int .i64 (a : Int), .int .i64 (b : Int), .int .i64 (lim : Int)] W (SoOut w blk off N a b d) := by
  intro n
  induction n with
  | zero => intro _ _ _ _ _ h; exact absurd h (Nat.not_lt_zero _)
  | succ n ih =>
    intro W a b lim d hn h hab hb hlim hB
    have H0 := Lib.hid (And.intro h (And.intro hB (Whole.refl d a b)))
    have IH := Lib.hid ih
    clear h hB ih
    go_enter Tryz.func85, Tryz.ntmps85
    go_wp2
    go_loopw [1, 2, 3, 8, 9] (fun s1 s2 s3 s8 s9 wr => ∃ (x y l : Nat) (wb wp : Bool) (dk : Array Int), s1 = .int .i64 (x : Int) ∧ s2 = .int .i64 (y : Int) ∧ s3 = .int .i64 (l : Int) ∧ s8 = .bool wb ∧ s9 = .bool wp ∧ x ≤ y ∧ y ≤ N ∧ y - x ≤ b - a ∧ l ≤ 1000 ∧ Hid (Rs w blk off N dk wr ∧ Below ltInt x y dk ∧ Whole d a b dk x y)) (fun s1 s2 _ _ _ _ => (intOf s2).toNat - (intOf s1).toNat)
    case atStart => exact ⟨a, b, lim, true, true, d, rfl, rfl, rfl, rfl, rfl, hab, hb, Nat.le_refl _, hlim, H0⟩
    case round =>
      clear H0
      obtain ⟨x, y, l, wb, wp, dk, rfl, rfl, rfl, rfl, rfl, hxy, hyN, hyx, hl, HR⟩ := hrel
      by_cases h12 : y - x ≤ 12
      · have h12z : (y : Int) - (x : Int) ≤ 12 := by omega
        go_wp2_with fail
        refine (ins_any (c := c) HR.out.1 hxy hyN (by omega)).mono ?_
        rintro e w1 ⟨rfl, d1, k1, k2, k3⟩
        have HF := Lib.hid (SoOut.of HR.out.2.2 k1 k2 k3)
        clear k1 k2 k3 HR
        go_wp2
        go_returns
        exact HF.out
      · have h12z : ¬ ((y : Int) - (x : Int) ≤ 12) := by omega
        by_cases hl0 : l = 0
        · subst hl0
          go_wp2_with fail
          refine (heap_any (c := c) HR.out.1 (by omega) hyN (by omega)).mono ?_
          rintro e w1 ⟨rfl, d1, k1, k2, k3⟩
          have HF := Lib.hid (SoOut.of HR.out.2.2 k1 k2 k3)
          clear k1 k2 k3 HR
          go_wp2
          go_returns
          exact HF.out
        · have hl0z : ¬ ((l : Int) = 0) := by omega
          go_upto_if 35 with fail
          go_cut [3] from 19 to 133 (fun s3 wc => ∃ (l2 : Nat) (d1 : Array Int), s3 = .int .i64 (l2 : Int) ∧ l2 ≤ 1000 ∧ Hid (Rs w blk off N d1 wc ∧ PermIn x y dk d1))
          case first =>
            cases wb
            · go_wp2_with fail
              refine (break_any (c := c) HR.out.1 (by omega) hyN (by omega)).mono ?_
              rintro e w1 ⟨rfl, d1, k1, k2⟩
              have HF := Lib.hid (And.intro k1 k2)
              clear k1 k2
              go_wp2_with fail
              go_meet
              exact ⟨l - 1, d1, by congr 1; omega, by omega, HF⟩
            · go_wp2_with fail
              go_meet
              exact ⟨l, dk, rfl, hl, Lib.hid ⟨HR.out.1, permIn_refl _ _ _⟩⟩
          case rest =>
            obtain ⟨l2, d1, rfl, hl2, H1⟩ := hcut
            go_wp2_with fail
            refine (pivot_any (c := c) H1.out.1 (show 12 < y - x by omega) (by omega) hyN (by omega)).mono ?_
            rintro e w2 ⟨p, hh, rfl, hp1, hp2, hh2, k2⟩
            have H2 := Lib.hid (And.intro k2 H1.out.2)
            clear k2 H1
            go_upto_if 50 with fail
            go_cut [11, 12] from 19 to 133 (fun s11 s12 wx => ∃ (pv h2 : Nat) (d2 : Array Int), s11 = .int .i64 (pv : Int) ∧ s12 = .int .i64 (h2 : Int) ∧ x ≤ pv ∧ pv < y ∧ Hid (Rs w blk off N d2 wx ∧ PermIn x y dk d2))
            case first =>
              by_cases h2 : hh = 2
              · subst h2
                go_wp2_with fail
                refine (rev_any (c := c) H2.out.1 (by omega) hyN (by omega)).mono ?_
                rintro e w3 ⟨rfl, d3, k1, k2⟩
                have H3 := Lib.hid (And.intro k1 (permIn_trans _ _ _ _ _ H2.out.2 k2))
                clear k1 k2 H2
                go_wp2_with fail
                go_meet
                exact ⟨(y - 1) - (p - x), 1, d3, by congr 1; omega, rfl, by omega, by omega, H3⟩
              · have h2z : ¬ ((hh : Int) = 2) := by omega
                go_wp2_with fail
                go_meet
                exact ⟨p, hh, d1, rfl, rfl, hp1, hp2, H2⟩
            case rest =>
              clear H2
              obtain ⟨pv, h2, d2, rfl, rfl, hv1, hv2, H2⟩ := hcut
              go_upto_region 15 with fail
              go_cut [68] from 19 to 133 (fun s68 wx => ∃ q : Bool, s68 = .bool q ∧ wx = wc)
              case first =>
                cases wb <;> cases wp <;>
                  (go_wp2_with fail
                   go_meet
                   exact ⟨_, rfl, rfl⟩)
              case rest =>
                obtain ⟨q, rfl, rfl⟩ := hcut
                go_upto_if 68 with fail
                go_cut [] from 19 to 133 (fun wx => ∃ d3 : Array Int, Hid (Rs w blk off N d3 wx ∧ PermIn x y dk d3))
                case first =>
                  cases q
                  · go_wp2_with fail
                    go_meet
                    exact ⟨d2, H2⟩
                  · go_wp2_with fail
                    refine (partial_any (c := c) H2.out.1 (by omega) hyN (by omega) (by omega)).mono ?_
                    rintro e w4 ⟨q2, d3, rfl, k1, k2, k3⟩
                    have H3 := Lib.hid (And.intro k1 (permIn_trans _ _ _ _ _ H2.out.2 k2))
                    cases q2 with
                    | false =>
                      clear k1 k2 k3
                      go_wp2_with fail
                      go_meet
                      exact ⟨d3, H3⟩
                    | true =>
                      have HF := Lib.hid (SoOut.of HR.out.2.2 H3.out.1 H3.out.2 (k3 rfl))
                      clear k1 k2 k3 H3
                      go_wp2_with fail
                      go_returns
                      exact HF.out
                case rest =>
                  clear H2
                  obtain ⟨d3, H3⟩ := hcut
                  obtain ⟨G, hG⟩ : ∃ G : Nat → Int, ∀ t, G t = d3[t]! := ⟨fun t => d3[t]!, fun _ => rfl⟩
                  have hcw : ∀ t, t < N → wc.cell? ⟨blk, off + t, none⟩ = some (.int .u64 (G t)) := fun t ht => by rw [hG]; exact H3.out.1.cell ht
                  have HG := Lib.hid hG
                  clear hG
                  go_upto_region 17 with fail
                  go_cut [87] from 19 to 133 (fun s87 wx => ∃ q : Bool, s87 = .bool q ∧ Hid ((q = true → 0 < x ∧ ltInt d3[x - 1]! d3[pv]! = false) ∧ Rs w blk off N d3 wx ∧ PermIn x y dk d3))
                  case first =>
                    have hvn : pv < N := by omega
                    rcases Nat.eq_zero_or_pos x with hx0 | hx0
                    · have hx0z : decide ((0 : Int) < (x : Int)) = false := decide_eq_false (by omega)
                      go_quiet (fail)
                      go_wp2_with fail
                      go_meet
                      exact ⟨false, rfl, Lib.hid ⟨(fun e => (by cases e)), H3.out.1.dn _, H3.out.2⟩⟩
                    · have hx0z : (0 : Int) < (x : Int) := by omega
                      go_quiet (first | (go_at_call 114; refine Calls.quiet_of_same (less_any _ _ _)))
                      go_wp2_with fail
                      go_meet
                      refine ⟨!ltInt (G (x - 1)) (G pv), rfl, Lib.hid ⟨fun e => ⟨hx0, ?_⟩, H3.out.1.dn _, H3.out.2⟩⟩
                      rw [← HG.out, ← HG.out]
                      simpa using e
                  case rest =>
                    clear H3 hcw HG
                    obtain ⟨q, rfl, H4⟩ := hcut
                    cases q with
                    | true =>
                      have hq := H4.out.1 rfl
                      go_wp2_with fail
                      refine (parteq_any (c := c) H4.out.2.1 hv1 hv2 hyN (by omega)).mono ?_
                      rintro e w5 ⟨m, d4, rfl, k1, k2⟩
                      have hm1 := k2.am
                      have hm2 := k2.mb
                      have HN := Lib.hid (show Rs w blk off N d4 w5 ∧ Below ltInt m y d4 ∧ Whole d a b d4 m y from by
                        have hz := HR.out.1.sz
                        obtain ⟨r1, r2⟩ := k2.right (a := a) (b := b) (d := d) (by rw [H4.out.2.1.sz]; exact hyN) ⟨hv1, hv2⟩ hq.1 (HR.out.2.1.perm (by rw [hz]; exact hyN) H4.out.2.2) hq.2 (HR.out.2.2.perm H4.out.2.2)
                        exact ⟨k1, r1, r2⟩)
                      clear k1 k2 hq HR H4
                      go_wp2
                      go_roundw
                      case rel => exact ⟨m, y, l2, wb, wp, d4, rfl, rfl, rfl, rfl, rfl, hm2, hyN, by omega, hl2, HN⟩
                      case measure => first | (simp [intOf]; done) | (simp [intOf]; omega)
                    | false =>
                      go_wp2_with fail
                      refine (partition_any (c := c) H4.out.2.1 hv1 hv2 hyN (by omega)).mono ?_
                      rintro e w5 ⟨m, ap, d4, rfl, k1, k2⟩
                      have hm1 := k2.am
                      have hm2 := k2.mb
                      have hz := HR.out.1.sz
                      have hz3 : y ≤ d3.size := by rw [H4.out.2.1.sz]; exact hyN
                      have HB := Lib.hid (HR.out.2.1.perm (by rw [hz]; exact hyN) H4.out.2.2)
                      have HW := Lib.hid (HR.out.2.2.perm H4.out.2.2)
                      have HP := Lib.hid (And.intro k1 k2)
                      clear k1 k2 HR H4 hz
                      by_cases h4 : m - x < y - m
                      · have h4z : (m : Int) - (x : Int) < (y : Int) - (m : Int) := by omega
                        go_wp2_with fail
                        refine (IH.out w5 x m l2 d4 (by omega) HP.out.1 hm1 (by omega) hl2 (HP.out.2.below hz3 HB.out).1).mono ?_
                        rintro e w6 ⟨rfl, d5, k1, k2, k3⟩
                        have HN := Lib.hid (And.intro k1 (HP.out.2.left hz3 HW.out k2 k3))
                        clear k1 k2 k3 HB HW HP
                        go_wp2
                        go_roundw
                        case rel => exact ⟨m + 1, y, l2, _, ap, d5, by go_num, rfl, rfl, rfl, rfl, by omega, hyN, by omega, hl2, HN⟩
                        case measure => first | (simp [intOf]; done) | (simp [intOf]; omega)
                      · have h4z : ¬ ((m : Int) - (x : Int) < (y : Int) - (m : Int)) := by omega
                        go_wp2_with fail
                        have hih := IH.out w5 (m + 1) y l2 d4 (by omega) HP.out.1 (by omega) hyN hl2 (HP.out.2.below hz3 HB.out).2
                        have e1 : ((m + 1 : Nat) : Int) = (m : Int) + 1 := by omega
                        rw [e1] at hih
                        refine hih.mono ?_
                        clear e1 hih
                        rintro e w6 ⟨rfl, d5, k1, k2, k3⟩
                        have HN := Lib.hid (And.intro k1 (HP.out.2.right hz3 HB.out HW.out k2 k3))
                        clear k1 k2 k3 HB HW HP
                        go_wp2
                        go_roundw
                        case rel => exact ⟨x, m, l2, _, ap, d5, rfl, rfl, rfl, rfl, rfl, hm1, by omega, by omega, hl2, HN⟩
                        case measure => first | (simp [intOf]; done) | (simp [intOf]; omega)
set_option maxRecDepth 20000 in
theorem sort_any {w W : World} {blk off N c : Nat} {d : Array Int} (h : Rs w blk off N d W) (hN : N < 50) :
    Calls Tryz.prog 66 #[.slice (some ⟨blk, off, none⟩) N c] W (SoOut w blk off N 0 N d) := by
  have hl : ∀ W, Calls Tryz.prog 81 #[.int .u64 (N : Int)] W fun e w' => e = .returned (.int .i64 (Lib.bitLen N : Nat)) ∧ w' = W := fun W => X15.bitlen_any N W (by omega)
  obtain ⟨k, hk⟩ : ∃ k, Lib.bitLen N = k := ⟨_, rfl⟩
  have hk2 : k ≤ 1000 := by
    rw [← hk, bitLen_eq _ (by omega)]
    exact Nat.le_trans ((bitsLen_le_iff N 6).2 (by omega)) (by omega)
  rw [hk] at hl
  have hp := fun W (h : Rs w blk off N d W) => pdq_any w blk off N c hN (N + 1) W 0 N k d (by omega) h (Nat.zero_le _) (Nat.le_refl _) hk2 (.inl rfl)
  have wN : IntKind.u64.wrap (N : Int) = (N : Int) := by rw [IntKind.wrap_u64]; omega
  go_enter Tryz.func66, Tryz.ntmps66
  go_wp2_with (go_at_call 81; refine (hl _).mono ?_; rintro e w' ⟨rfl, rfl⟩)
  refine (hp _ h).mono ?_
  rintro e w1 ⟨rfl, d1, k1, k2, k3⟩
  have HF := Lib.hid (show SoOut w blk off N 0 N d (.returned (.tuple #[])) w1 from ⟨rfl, d1, k1, k2, k3⟩)
  clear k1 k2 k3
  go_wp2
  go_returns
  exact HF.out
end Go.Proofs.YtdmibolbpgondaaGreat.Ou
end

section
set_option linter.unusedSimpArgs false
set_option linter.unusedVariables false
namespace Go.Proofs.YtdmibolbpgondaaGreat.X15
open Go.RowKit Go.Lib Go.Maps Go.Proofs.YtdmibolbpgondaaGreat.Wd Go.Proofs.YtdmibolbpgondaaGreat.P06
open Go.Proofs.YtdmibolbpgondaaGreat.B07 (Pn)
attribute [local go_sem] Oper.semAt_some
theorem rs_fr {w W : World} {blk off N : Nat} {d : Array Int} (h : Ou.Rs w blk off N d W) : Wd.Fr [blk] w W := by
  obtain ⟨n, os, e⟩ := h.at_
  subst e
  refine ⟨rfl, rfl, rfl, h.base, fun k hk hne => ?_⟩
  simp only [List.mem_singleton] at hne
  rw [Go.Sort.heap_grow_old _ _ (by simpa using hk)]
  have : blk ≠ k := fun e => hne e.symm
  simp [Go.Sort.putRow, Go.Sort.mapBlock, Go.Sort.ahead, Array.getElem?_modify, this]
/-- a list as an array of numbers -/
abbrev ari (l : List Nat) : Array Int := (l.map fun (x : Nat) => (x : Int)).toArray
theorem ari_get {l : List Nat} {t : Nat} (ht : t < l.length) : (ari l)[t]! = (l[t] : Int) := by
  rw [getElem!_pos _ _ (by simpa using ht)]
  simp
theorem ari_back {d : Array Int} (h : ∀ x ∈ d.toList, (0 : Int) ≤ x) : d = ari (d.toList.map Int.toNat) := by
  apply Array.ext'
  simp only [ari, List.map_map]
  have : d.toList.map ((fun x : Nat => (x : Int)) ∘ Int.toNat) = d.toList.map id := List.map_congr_left fun x hx => by
    simp only [Function.comp, id]
    exact Int.toNat_of_nonneg (h x hx)
  rw [this, List.map_id]
/-- what the sort leaves -/
def SnOut (w : World) (g n c : Nat) (l : List Nat) (e : Ending) (w' : World) : Prop := e = .returned (.tuple #[]) ∧ ∃ m, m.Perm l ∧ m.Pairwise (· ≤ ·) ∧ Us w' (some ⟨g, 0, none⟩) c m ∧ Wd.Fr [g] w w'
theorem sortn_at {w : World} {g n c base : Nat} {l : List Nat} (h : w.ownsRow base 22 1 (.slice (some ⟨g, 0, none⟩) n c) n (l.map encU)) (hn : l.length = n) (hm : n < 50) (hbd : ∀ x ∈ l, (x : Int) ≤ 18446744073709551615) :
    Calls Tryz.prog 66 #[.slice (some ⟨g, 0, none⟩) n c] w (SnOut w g n c l) := by
  have hnc : n ≤ c ∧ c ≤ maxLen := by
    rcases h.2 with ⟨hv, _⟩ | ⟨g2, cap, cur, hv, _, _, h3, h4, _⟩
    · cases hv
    · injection hv with _ _ h5
      subst h5
      exact ⟨h3, h4⟩
  have hlt : g < w.heap.size := (h.lt g rfl).2
  have hH : Go.Sort.Holds Ou.eU w g 0 (ari l) := fun j hj => by
    have hj' : j < l.length := by simpa using hj
    refine ⟨?_, World.ownsRow.frozenAt h _⟩
    rw [Nat.zero_add, World.ownsRow.cellAt h j (by omega), ari_get hj']
    simp [hj', encU]
  have hR := Ou.Rs.of hH hlt
  have hsz : (ari l).size = n := by simpa using hn
  rw [hsz] at hR
  refine (Ou.sort_any (c := c) hR hm).mono ?_
  rintro e w' ⟨rfl, d, k1, k2, k3⟩
  obtain ⟨z1, _, z3⟩ := k2
  have hdn : d.size = n := z1.trans hsz
  rw [Array.extract_eq_self_of_le (by omega), Array.extract_eq_self_of_le (by omega)] at z3
  have hnn : ∀ x ∈ d.toList, (0 : Int) ≤ x := fun x hx => by
    have := z3.mem_iff.1 hx
    simp at this
    obtain ⟨y, _, rfl⟩ := this
    omega
  obtain ⟨m, hm0⟩ : ∃ m, d.toList.map Int.toNat = m := ⟨_, rfl⟩
  have hd : d = ari m := by rw [← hm0]; exact ari_back hnn
  have hml : m.length = n := by rw [← hm0]; simpa using hdn
  have hpm : m.Perm l := by
    have := z3.map Int.toNat
    rw [hm0] at this
    refine this.trans ?_
    simp [List.map_map, Function.comp_def]
  refine ⟨rfl, m, hpm, ?_, ⟨⟨by simp, fun e => (by cases e), by rw [hml]; exact hnc.1, hnc.2, fun ad ha i u hu => ?_⟩, fun x hx => hbd x (hpm.mem_iff.1 hx)⟩, rs_fr k1⟩
  · refine List.pairwise_iff_getElem.2 fun i j hi hj hij => ?_
    have := k3 i j (Nat.zero_le _) hij (by omega)
    rw [hd, ari_get hi, ari_get hj] at this
    have := Ou.le_of this
    omega
  · injection ha with ha
    subst ha
    have hi : i < m.length := by simpa using (List.getElem?_eq_some_iff.1 hu).1
    have h1 := k1.cell (t := i) (by omega)
    rw [hd, ari_get hi, Nat.zero_add] at h1
    rw [Addr.add_lit, Nat.zero_add, h1]
    simpa [hi, encU] using hu
/-- the keys of a map, rising -/
def SuOut (w : World) (f : Nat → Option Value) (e : Ending) (w' : World) : Prop := ∃ A c ts, e = .returned (.slice A (List.length ts) c) ∧ ts.Pairwise (· < ·) ∧ (∀ x, x ∈ ts ↔ (f x).isSome = true) ∧ Us w' A c ts ∧ Below w.heap.size w w' ∧ ∀ a, A = some a → w.heap.size ≤ a.block ∧ a.block < w'.heap.size
theorem rise_of {l m : List Nat} (h : l.Nodup) (hp : m.Perm l) (hs : m.Pairwise (· ≤ ·)) : m.Pairwise (· < ·) := by
  have hn : m.Nodup := hp.nodup_iff.2 h
  refine List.pairwise_iff_getElem.2 fun i j hi hj hij => ?_
  have h1 := List.pairwise_iff_getElem.1 hs i j hi hj hij
  have h2 := List.pairwise_iff_getElem.1 hn i j hi hj hij
  omega
set_option maxRecDepth 100000 in
set_option maxHeartbeats 2000000 in
theorem sortedu_at {w : World} {b N Bm : Nat} {f : Nat → Option Value} (hm : w.cell? ⟨Bm, 0, none⟩ = some (.map (some b))) (h : Mp w b f N) (hN : N ≤ 10000) (hlen : ∀ ks, AllK f ks → ks.length < 50) (hbd : ∀ x : Nat, (f x).isSome = true → (x : Int) ≤ 18446744073709551615) :
    Calls Tryz.prog 46 #[.func (.func 67) #[] #[.pointer (some ⟨Bm, 0, none⟩)]] w (SuOut w f) := by
  refine (callsIn_wide (n := 9)).1 ?_
  have hBm : Bm < w.heap.size := World.block_lt_of_cell? _ _ hm
  have hst := keys_stops Fence.wide 6 trivial rfl (by omega) Bm b N f w hBm hm h
  have hcol := colu_in Fence.wide 8 trivial trivial rfl (by omega) _ _ trivial (enters_of Tryz.func67 (by kernel_rfl) rfl) (AllK f) (fun _ => True) N (by omega) w hst
  refine callsIn_of_wp Tryz.func46 rfl trivial ?_ rfl
  simp only [Tryz.ntmps46, List.size_toArray, List.length_cons, List.length_nil, Nat.reduceAdd, Nat.reduceSub, Array.replicate_succ, Array.replicate_zero, List.push_toArray, List.append_toArray, List.nil_append, List.cons_append]
  gi_wp2_with (refine ⟨trivial, ?_⟩; gi_at_call 65; refine hcol.mono ?_; rintro e w1 ⟨v, ks, rfl, hall, hrow, hb⟩; obtain ⟨A, c, rfl⟩ := own_form hrow)
  have hkl := hlen ks hall
  cases A with
  | none =>
    have hz : ks.length = 0 := by
      rcases hrow.2 with ⟨_, h0⟩ | ⟨g, cap, cur, hv, _⟩
      · exact h0
      · cases hv
    obtain rfl : ks = [] := List.eq_nil_of_length_eq_zero hz
    dsimp only [List.length_nil]
    gi_wp2_with (refine ⟨trivial, ?_⟩; gi_at_call 66; refine (callsIn_wide.2 (osort_nil none c w1)).mono ?_; rintro e w2 ⟨rfl, rfl⟩)
    go_ret
    refine ⟨none, c, [], rfl, List.Pairwise.nil, hall.2, ?_, hb, fun a ha => by cases ha⟩
    rcases hrow.2 with ⟨hv, _⟩ | ⟨g, cap, cur, hv, _⟩
    · injection hv with _ _ h5
      subst h5
      exact ⟨Rd.nil 1 _, fun x hx => by cases hx⟩
    · cases hv
  | some a =>
    obtain ⟨g, rfl⟩ : ∃ g, a = ⟨g, 0, none⟩ := by
      rcases hrow.2 with ⟨hv, _⟩ | ⟨g, cap, cur, hv, _⟩
      · cases hv
      · injection hv with h1 _ _
        injection h1 with h1
        exact ⟨g, h1⟩
    have hg := (hrow.lt g rfl).1
    have hso := sortn_at hrow rfl hkl fun x hx => hbd x ((hall.2 x).1 hx)
    gi_wp2_with (refine ⟨trivial, ?_⟩; gi_at_call 66; refine (callsIn_wide.2 hso).mono ?_; rintro e w2 ⟨rfl, m, hp, hs, hu, hfr⟩)
    go_ret
    have hb2 : Below w.heap.size w w2 := hb.trans (hfr.below hb.size fun x hx => by simp at hx; subst hx; exact hg)
    exact ⟨some ⟨g, 0, none⟩, c, m, (by rw [hp.length_eq]; rfl), rise_of hall.1 hp hs, fun x => by rw [hp.mem_iff]; exact hall.2 x, hu, hb2, fun a ha => by cases ha; exact ⟨hg, Nat.lt_of_lt_of_le (hrow.lt g rfl).2 hfr.size⟩⟩
set_option maxRecDepth 20000 in
set_option maxHeartbeats 2000000 in
/-- Traces of a shard -/
theorem Sd.traces {w : World} {col : Nat → Nat} {sp : Nat} {p : Pr} {L : List Pn} (h : Sd w col sp p L) (hfew : L.length < 50) : Calls Tryz.prog 23 #[.pointer (some ⟨sp, 0, none⟩)] w (DuOut w (trs L)) := by
  have ha := sall_at h.c
  have c5 := h.rm.rx.cl.c5
  have hmt := h.rm.rx.mt
  have hbi := h.rm.sm.bi
  have hok := h.rm.sm.ok
  have bx : Below w.heap.size w (w.alloc (.cells #[.map (some p.bt)] 99)) := (Below.refl _ _).alloc (Nat.le_refl _) _
  have hNt : p.Nt ≤ 10000 := by
    have := h.rm.sm.nt
    have := trs_len L
    omega
  have hfs : ∀ x, ((fun t => (p.bi t).map mapv) x).isSome = true ↔ x ∈ trs L := fun x => by
    rw [← hbi x]
    simp
  have hs := sortedu_at (w := w.alloc (.cells #[.map (some p.bt)] 99)) (Bm := w.heap.size) (b := p.bt) (N := p.Nt) (f := fun t => (p.bi t).map mapv) (by simp) (hmt.below bx) hNt fun ks hk => by
    have hp : ks.Perm (trs L) := (List.perm_ext_iff_of_nodup hk.1 ((trs_rise L).imp fun {a b} h => by omega)).2 fun x => (hk.2 x).trans (hfs x)
    have := hp.length_eq
    have := trs_len L
    omega
  have hs := hs fun x hx => by
    obtain ⟨y, hy, rfl⟩ := mem_trs.1 ((hfs x).1 hx)
    exact (hok y hy).tn.2
  have HB := Lib.hid bx
  have HF := Lib.hid hfs
  clear h hmt hbi hNt hfs bx hok
  go_enter Tryz.func23, Tryz.ntmps23
  go_wp2_with fail
  refine ha.mono ?_
  rintro e w1 ⟨rfl, rfl⟩
  go_wp2_with fail
  refine ((callsIn_wide (n := 8)).1 (keys_in Fence.wide 8 trivial rfl (some p.bt) w)).mono ?_
  rintro e w2 ⟨rfl, rfl⟩
  go_wp2_with fail
  refine hs.mono ?_
  rintro e w3 ⟨A, c, ts, rfl, k1, k2, k3, hb, hnew⟩
  have ht : ts = trs L := rise_one k1 (trs_rise L) fun x => by rw [k2 x]; exact HF.out x
  subst ht
  have HX := Lib.hid (show DuOut w (trs L) (.returned (.slice A (trs L).length c)) w3 from ⟨A, c, rfl, k3, HB.out.trans (hb.mono HB.out.size), fun a ha => ⟨Nat.le_trans HB.out.size (hnew a ha).1, (hnew a ha).2⟩⟩)
  clear k1 k2 k3 hb hs HB hnew
  go_wp2
  go_returns
  exact HX.out
end Go.Proofs.YtdmibolbpgondaaGreat.X15
end
