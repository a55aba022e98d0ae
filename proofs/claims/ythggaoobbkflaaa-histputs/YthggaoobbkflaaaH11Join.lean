/-
  Join of a histogram (written by gen11/join.py).
-/
import Derived.Test.YthggaoobbkflaaaH11Put
import Derived.Test.YthggaoobbkflaaaP06Region
set_option linter.unusedSimpArgs false
set_option linter.unusedVariables false
namespace Go.Proofs.Ythggaoobbkflaaa.H11
open Go.RowKit Go.Lib Go.Proofs.Ythggaoobbkflaaa.Wd Go.Proofs.Ythggaoobbkflaaa.S10 Go.Proofs.Ythggaoobbkflaaa.P06

theorem join_in (S T : Nat) (w : World) : Calls Try.prog 23 #[ct (sn S) (sf S), ct (sn T) (sf T)] w fun e w' => e = .returned (ct (sn (S + T)) (sf (S + T))) ∧ Below w.heap.size w w' :=
  join_at (S : Int) (T : Int) (sn S) (sn T) _ _ _ _ w (is_ S) (is_ T) (is_add S T)
/-- two histograms, of which the one is being changed -/
structure Two (w0 : World) (p g q g2 lo hi : Nat) (A A2 : Option Addr) (c c2 : Nat) (bs : List Nat) (K K2 : Nat → Nat) (N N2 S S2 : Nat) (W : World) : Prop where
  h : Hr W p g A c bs K N S
  o : Hr W q g2 A2 c2 bs K2 N2 S2
  fx : Fx lo hi w0 W
  p1 : lo ≤ p ∧ p < hi
  g1 : lo ≤ g ∧ g < hi
  ap : ∀ k ∈ bl q g2 A2, k ≠ p ∧ k ≠ g
section
variable {w0 W W' : World} {p g q g2 lo hi : Nat} {A A2 : Option Addr} {c c2 : Nat} {bs : List Nat} {K K2 : Nat → Nat} {N N2 S S2 : Nat}
theorem Two.below (t : Two w0 p g q g2 lo hi A A2 c c2 bs K K2 N N2 S S2 W) (hb : Below W.heap.size W W') : Two w0 p g q g2 lo hi A A2 c c2 bs K K2 N N2 S S2 W' :=
  ⟨t.h.below hb, t.o.below hb, t.fx.trans (Fx.of hb lo hi), t.p1, t.g1, t.ap⟩
theorem Two.stays (t : Two w0 p g q g2 lo hi A A2 c c2 bs K K2 N N2 S S2 W) (B O T : Nat) (hB : B = p ∨ B = g) : Hr (cput W B O T) q g2 A2 c2 bs K2 N2 S2 ∧ Fx lo hi w0 (cput W B O T) := by
  have h1 : ∀ k ∈ bl q g2 A2, k ≠ B := fun k hk e => by
    have := t.ap k hk
    rcases hB with h | h
    · exact this.1 (e.trans h)
    · exact this.2 (e.trans h)
  have h2 : lo ≤ B ∧ B < hi := by
    rcases hB with rfl | rfl
    · exact t.p1
    · exact t.g1
  exact ⟨t.o.kept (by rw [size_cput]; exact Nat.le_refl _) fun k hk => heap_cput W B O T k (h1 k hk), t.fx.trans (Fx.put W B O T h2.1 h2.2)⟩
theorem Two.setn (t : Two w0 p g q g2 lo hi A A2 c c2 bs K K2 N N2 S S2 W) (T : Nat) : Two w0 p g q g2 lo hi A A2 c c2 bs K K2 T N2 S S2 (cput W p 4 T) :=
  ⟨t.h.setn T, (t.stays p 4 T (.inl rfl)).1, (t.stays p 4 T (.inl rfl)).2, t.p1, t.g1, t.ap⟩
theorem Two.sets (t : Two w0 p g q g2 lo hi A A2 c c2 bs K K2 N N2 S S2 W) (T : Nat) : Two w0 p g q g2 lo hi A A2 c c2 bs K K2 N N2 T S2 (cput W p 6 T) :=
  ⟨t.h.sets T, (t.stays p 6 T (.inl rfl)).1, (t.stays p 6 T (.inl rfl)).2, t.p1, t.g1, t.ap⟩
theorem Two.setr (t : Two w0 p g q g2 lo hi A A2 c c2 bs K K2 N N2 S S2 W) (T : Nat) : Two w0 p g q g2 lo hi A A2 c c2 bs (upd K bs.length T) K2 N N2 S S2 (cput W p 2 T) := by
  have k := t.h.setb (Nat.le_refl bs.length) T
  unfold bB bO at k
  rw [if_neg (Nat.lt_irrefl _), if_neg (Nat.lt_irrefl _)] at k
  exact ⟨k, (t.stays p 2 T (.inl rfl)).1, (t.stays p 2 T (.inl rfl)).2, t.p1, t.g1, t.ap⟩
theorem Two.setk (t : Two w0 p g q g2 lo hi A A2 c c2 bs K K2 N N2 S S2 W) {i : Nat} (hk : i < bs.length) (T : Nat) : Two w0 p g q g2 lo hi A A2 c c2 bs (upd K i T) K2 N N2 S S2 (cput W g (i * 2) T) := by
  have k := t.h.setb (Nat.le_of_lt hk) T
  unfold bB bO at k
  rw [if_pos hk, if_pos hk, Nat.mul_comm] at k
  exact ⟨k, (t.stays g (i * 2) T (.inr rfl)).1, (t.stays g (i * 2) T (.inr rfl)).2, t.p1, t.g1, t.ap⟩
theorem Two.eq (t : Two w0 p g q g2 lo hi A A2 c c2 bs K K2 N N2 S S2 W) {K' : Nat → Nat} (e : ∀ i, i ≤ bs.length → K i = K' i) : Two w0 p g q g2 lo hi A A2 c c2 bs K' K2 N N2 S S2 W :=
  ⟨t.h.eq e rfl rfl, t.o, t.fx, t.p1, t.g1, t.ap⟩
end
/-- the buckets in the midst of it: those below k are joined -/
def mid (K K2 : Nat → Nat) (k : Nat) : Nat → Nat := fun i => if i < k then K i + K2 i else K i
theorem mid_at (K K2 : Nat → Nat) (k : Nat) : mid K K2 k k = K k := by unfold mid; rw [if_neg (Nat.lt_irrefl _)]
theorem mid_step (K K2 : Nat → Nat) (k i : Nat) : upd (mid K K2 k) k (K k + K2 k) i = mid K K2 (k + 1) i := by
  unfold upd mid
  by_cases e : i = k
  · subst e
    rw [if_pos rfl, if_pos (Nat.lt_succ_self _)]
  · rw [if_neg e]
    by_cases h : i < k
    · rw [if_pos h, if_pos (by omega)]
    · rw [if_neg h, if_neg (by omega)]
set_option maxRecDepth 20000 in
set_option maxHeartbeats 2000000 in
theorem join_wrong (p q lo hi lo2 hi2 : Nat) (bs bs2 l m : List Nat) (w : World) (h0 : Hi w p lo hi bs l) (o0 : Hi w q lo2 hi2 bs2 m) (hne : bs ≠ bs2) :
    Calls Try.prog 11 #[.pointer (some ⟨p, 0, none⟩), .pointer (some ⟨q, 0, none⟩)] w fun e w' => e = .returned (.int .i64 1) ∧ Below w.heap.size w w' := by
  obtain ⟨g, A, c, h, _⟩ := h0
  obtain ⟨g2, A2, c2, o, _⟩ := o0
  have hE := fun W (h1 : Us W A c bs) (h2 : Us W A2 c2 bs2) => equal_at A A2 c c2 bs.length bs2.length bs bs2 false W h1 h2 rfl rfl ⟨fun h => (by cases h), fun h => absurd h hne⟩
  have a0 := h.c0
  have b0 := o.c0
  have u0 : Us w.drew A c bs := ⟨Rd.drew h.us.1, h.us.2⟩
  have v0 : Us w.drew A2 c2 bs2 := ⟨Rd.drew o.us.1, o.us.2⟩
  have hE2 := hE w.drew u0 v0
  have S0 : w.drew.cell? ⟨p, 0, none⟩ = some (.slice A bs.length c) ∧ w.drew.cell? ⟨q, 0, none⟩ = some (.slice A2 bs2.length c2) := ⟨a0, b0⟩
  have hp := h.r.lt
  have hq := o.r.lt
  have hS : ∀ W, Below w.drew.heap.size w.drew W → W.cell? ⟨p, 0, none⟩ = some (.slice A bs.length c) ∧ W.cell? ⟨q, 0, none⟩ = some (.slice A2 bs2.length c2) := fun W hW => ⟨(hW.cell (p := ⟨p, 0, none⟩) hp).trans S0.1, (hW.cell (p := ⟨q, 0, none⟩) hq).trans S0.2⟩
  have hbw : ∀ W, Below w.drew.heap.size w.drew W → Below w.heap.size w W := fun W hW => (Below.refl w.heap.size w).drew.trans hW
  clear h o hE u0 v0 hne a0 b0
  generalize bs.length = n at *
  generalize bs2.length = n2 at *
  go_enter Try.func11, Try.ntmps11
  go_wp2_with fail
  go_region_held3 (fun W => W.cell? ⟨p, 0, none⟩ = some (.slice A n c) ∧ W.cell? ⟨q, 0, none⟩ = some (.slice A2 n2 c2)) (first | (with_reducible exact hS _ B1) | (with_reducible exact S0))
    (first | (go_at_call 22; (with_reducible refine hE2.mono ?_); rintro e v1 ⟨rfl, B1⟩))
  clear hS S0 hE2
  go_wp2
  go_ret
  exact ⟨rfl, hbw _ B1⟩
set_option maxRecDepth 20000 in
set_option maxHeartbeats 8000000 in
theorem join_right (p q lo hi lo2 hi2 : Nat) (bs l m : List Nat) (w : World) (h0 : Hi w p lo hi bs l) (o0 : Hi w q lo2 hi2 bs m) (hap : hi ≤ lo2 ∨ hi2 ≤ lo) :
    Calls Try.prog 11 #[.pointer (some ⟨p, 0, none⟩), .pointer (some ⟨q, 0, none⟩)] w (PtOut p lo hi bs (l ++ m) 0 w) := by
  have mixed : Try.prog.follows .mixedOrders = true := by kernel_rfl
  obtain ⟨g, A, c, h, hb⟩ := h0
  obtain ⟨g2, A2, c2, o, ob⟩ := o0
  have hbp := hb p (mem_bl.2 (.inl rfl))
  have hbg := hb g (mem_bl.2 (.inr (.inl rfl)))
  have HBL := Lib.hid hb
  have T0 : Two w p g q g2 lo hi A A2 c c2 bs (kk bs l) (kk bs m) l.length m.length l.sum m.sum w.drew :=
    Two.below ⟨h, o, Fx.refl _ _ _, ⟨hbp.1, hbp.2.1⟩, ⟨hbg.1, hbg.2.1⟩, fun k hk => by have := ob k hk; omega⟩ (Below.refl w.heap.size w).drew
  have hf := h.rt.few
  have hE := equal_at A A2 c c2 bs.length bs.length bs bs true w.drew T0.h.us T0.o.us rfl rfl ⟨fun _ => rfl, fun _ => rfl⟩
  have HK := Lib.hid (show ∀ i, kk bs l i + kk bs m i = kk bs (l ++ m) i from fun i => (kk_app bs l m i).symm)
  generalize kk bs l = K at *
  generalize kk bs m = K2 at *
  have HL1 := Lib.hid (show l.length + m.length = (l ++ m).length from by simp)
  have HL2 := Lib.hid (show l.sum + m.sum = (l ++ m).sum from by simp)
  generalize l.length = N at *
  generalize m.length = N2 at *
  generalize l.sum = S at *
  generalize m.sum = S2 at *
  clear h o hb ob hap
  have S0 : w.drew.cell? ⟨p, 0, none⟩ = some (.slice A bs.length c) ∧ w.drew.cell? ⟨q, 0, none⟩ = some (.slice A2 bs.length c2) := ⟨T0.h.c0, T0.o.c0⟩
  have hS : ∀ W, Below w.drew.heap.size w.drew W → W.cell? ⟨p, 0, none⟩ = some (.slice A bs.length c) ∧ W.cell? ⟨q, 0, none⟩ = some (.slice A2 bs.length c2) := fun W hW => ⟨(T0.below hW).h.c0, (T0.below hW).o.c0⟩
  obtain ⟨n, hn⟩ : ∃ n, bs.length = n := ⟨_, rfl⟩
  rw [hn] at hS S0 hE hf
  have HN := Lib.hid hn
  clear hn
  go_enter Try.func11, Try.ntmps11
  go_wp2_with fail
  go_region_held3 (fun W => W.cell? ⟨p, 0, none⟩ = some (.slice A n c) ∧ W.cell? ⟨q, 0, none⟩ = some (.slice A2 n c2)) (first | (with_reducible exact hS _ B1) | (with_reducible exact S0))
    (first | (go_at_call 22; (with_reducible refine hE.mono ?_); rintro e v1 ⟨rfl, B1⟩))
  have T1 := T0.below B1
  clear hS S0 hE B1 T0
  rename_i hheld
  clear hheld
  have a1 := T1.o.c1
  rw [HN.out] at a1
  have E0 := Lib.hid (show ∀ i, i ≤ bs.length → K i = mid K K2 0 i from fun i _ => by unfold mid; rw [if_neg (Nat.not_lt_zero i)])
  have T2 := T1.eq E0.out
  clear T1 E0
  go_wp2
  clear a1
  go_loopw [28] (fun v wr => ∃ k : Nat, v = .int .i64 (k : Int) ∧ k ≤ n ∧ Two w p g q g2 lo hi A A2 c c2 bs (mid K K2 k) K2 N N2 S S2 wr) (fun v _ => n - (intOf v).toNat)
  case atStart => exact ⟨0, rfl, Nat.zero_le _, T2⟩
  case round =>
    clear T2
    obtain ⟨k, rfl, hk, T3⟩ := hrel
    by_cases hlt : k < n
    · have hltz : (k : Int) < (n : Int) := by omega
      have hkl : k < bs.length := by rw [HN.out]; exact hlt
      have o0 := (T3.o.ct k hkl).c0
      have o1 := (T3.o.ct k hkl).c1
      rw [Nat.mul_comm] at o0 o1
      have T4 := T3.below (below_box wr (.cells #[.int .u64 (sn (K2 k)), .bool (sf (K2 k))] 37))
      have C4 : (wr.alloc (.cells #[.int .u64 (sn (K2 k)), .bool (sf (K2 k))] 37)).cell? ⟨wr.heap.size, 0, none⟩ = some (.int .u64 (sn (K2 k))) ∧ (wr.alloc (.cells #[.int .u64 (sn (K2 k)), .bool (sf (K2 k))] 37)).cell? ⟨wr.heap.size, 1, none⟩ = some (.bool (sf (K2 k))) := by simp
      have L4 : wr.heap.size < (wr.alloc (.cells #[.int .u64 (sn (K2 k)), .bool (sf (K2 k))] 37)).heap.size := by simp
      have hJ := fun W => join_in (K k) (K2 k) W
      clear T3
      go_wp2_with fail
      generalize wr.alloc (.cells #[.int .u64 (sn (K2 k)), .bool (sf (K2 k))] 37) = w4 at *
      clear o0 o1
      generalize wr.heap.size = gc at *
      have T5 := T4.below (Below.refl w4.heap.size w4).drew
      have k0 := (T5.h.ct k hkl).c0
      have k1 := (T5.h.ct k hkl).c1
      rw [Nat.mul_comm, mid_at] at k0 k1
      have k2 := T5.h.c1
      rw [HN.out] at k2
      have TW : _ ∧ _ ∧ _ ∧ _ ∧ _ := ⟨k2, k0, k1, (show w4.drew.cell? ⟨gc, 0, none⟩ = _ from C4.1), (show w4.drew.cell? ⟨gc, 1, none⟩ = _ from C4.2)⟩
      refine wp_zed (S := fun W => W.cell? ⟨p, 1, none⟩ = some (.slice (some ⟨g, 0, none⟩) n n) ∧ W.cell? ⟨g, k * 2, none⟩ = some (.int .u64 (sn (K k))) ∧ W.cell? ⟨g, k * 2 + 1, none⟩ = some (.bool (sf (K k))) ∧ W.cell? ⟨gc, 0, none⟩ = some (.int .u64 (sn (K2 k))) ∧ W.cell? ⟨gc, 1, none⟩ = some (.bool (sf (K2 k)))) (z := 15) mixed ?_
      refine Zed.take (i := 0) (v := .pointer (some ⟨p, 0, none⟩)) rfl (by kernel_rfl) rfl (by kernel_rfl) (by kernel_rfl) (by kernel_rfl) (fun _ _ _ h => h) ?_ TW ?_
      · refine .inl ⟨rfl, fun W hW => ?_⟩
        obtain ⟨q1, q2, q3, q4, q5⟩ := hW
        go_simp
      (try simp only [Act.put, List.setIfInBounds_toArray, List.set_cons_zero, List.set_cons_succ])
      refine Zed.take (i := 1) (v := .pointer (some ⟨p, 0, none⟩)) rfl (by kernel_rfl) rfl (by kernel_rfl) (by kernel_rfl) (by kernel_rfl) (fun _ _ _ h => h) ?_ TW ?_
      · refine .inl ⟨rfl, fun W hW => ?_⟩
        obtain ⟨q1, q2, q3, q4, q5⟩ := hW
        go_simp
      (try simp only [Act.put, List.setIfInBounds_toArray, List.set_cons_zero, List.set_cons_succ])
      refine Zed.take (i := 2) (v := .pointer (some ⟨p, 1, none⟩)) rfl (by kernel_rfl) rfl (by kernel_rfl) (by kernel_rfl) (by kernel_rfl) (fun _ _ _ h => h) ?_ TW ?_
      · refine .inl ⟨rfl, fun W hW => ?_⟩
        obtain ⟨q1, q2, q3, q4, q5⟩ := hW
        go_simp
      (try simp only [Act.put, List.setIfInBounds_toArray, List.set_cons_zero, List.set_cons_succ])
      refine Zed.take (i := 3) (v := .slice (some ⟨g, 0, none⟩) n n) rfl (by kernel_rfl) rfl (by kernel_rfl) (by kernel_rfl) (by kernel_rfl) (fun _ _ _ h => h) ?_ TW ?_
      · refine .inl ⟨rfl, fun W hW => ?_⟩
        obtain ⟨q1, q2, q3, q4, q5⟩ := hW
        go_simp
      (try simp only [Act.put, List.setIfInBounds_toArray, List.set_cons_zero, List.set_cons_succ])
      refine Zed.take (i := 4) (v := .int .i64 (k : Int)) rfl (by kernel_rfl) rfl (by kernel_rfl) (by kernel_rfl) (by kernel_rfl) (fun _ _ _ h => h) ?_ TW ?_
      · refine .inl ⟨rfl, fun W hW => ?_⟩
        obtain ⟨q1, q2, q3, q4, q5⟩ := hW
        go_simp
      (try simp only [Act.put, List.setIfInBounds_toArray, List.set_cons_zero, List.set_cons_succ])
      refine Zed.take (i := 5) (v := .pointer (some ⟨p, 0, none⟩)) rfl (by kernel_rfl) rfl (by kernel_rfl) (by kernel_rfl) (by kernel_rfl) (fun _ _ _ h => h) ?_ TW ?_
      · refine .inl ⟨rfl, fun W hW => ?_⟩
        obtain ⟨q1, q2, q3, q4, q5⟩ := hW
        go_simp
      (try simp only [Act.put, List.setIfInBounds_toArray, List.set_cons_zero, List.set_cons_succ])
      refine Zed.take (i := 6) (v := .pointer (some ⟨p, 0, none⟩)) rfl (by kernel_rfl) rfl (by kernel_rfl) (by kernel_rfl) (by kernel_rfl) (fun _ _ _ h => h) ?_ TW ?_
      · refine .inl ⟨rfl, fun W hW => ?_⟩
        obtain ⟨q1, q2, q3, q4, q5⟩ := hW
        go_simp
      (try simp only [Act.put, List.setIfInBounds_toArray, List.set_cons_zero, List.set_cons_succ])
      refine Zed.take (i := 7) (v := .pointer (some ⟨p, 1, none⟩)) rfl (by kernel_rfl) rfl (by kernel_rfl) (by kernel_rfl) (by kernel_rfl) (fun _ _ _ h => h) ?_ TW ?_
      · refine .inl ⟨rfl, fun W hW => ?_⟩
        obtain ⟨q1, q2, q3, q4, q5⟩ := hW
        go_simp
      (try simp only [Act.put, List.setIfInBounds_toArray, List.set_cons_zero, List.set_cons_succ])
      refine Zed.take (i := 8) (v := .slice (some ⟨g, 0, none⟩) n n) rfl (by kernel_rfl) rfl (by kernel_rfl) (by kernel_rfl) (by kernel_rfl) (fun _ _ _ h => h) ?_ TW ?_
      · refine .inl ⟨rfl, fun W hW => ?_⟩
        obtain ⟨q1, q2, q3, q4, q5⟩ := hW
        go_simp
      (try simp only [Act.put, List.setIfInBounds_toArray, List.set_cons_zero, List.set_cons_succ])
      refine Zed.take (i := 9) (v := .int .i64 (k : Int)) rfl (by kernel_rfl) rfl (by kernel_rfl) (by kernel_rfl) (by kernel_rfl) (fun _ _ _ h => h) ?_ TW ?_
      · refine .inl ⟨rfl, fun W hW => ?_⟩
        obtain ⟨q1, q2, q3, q4, q5⟩ := hW
        go_simp
      (try simp only [Act.put, List.setIfInBounds_toArray, List.set_cons_zero, List.set_cons_succ])
      refine Zed.take (i := 10) (v := .pointer (some ⟨g, k * 2, none⟩)) rfl (by kernel_rfl) rfl (by kernel_rfl) (by kernel_rfl) (by kernel_rfl) (fun _ _ _ h => h) ?_ TW ?_
      · refine .inl ⟨rfl, fun W hW => ?_⟩
        obtain ⟨q1, q2, q3, q4, q5⟩ := hW
        go_simp
      (try simp only [Act.put, List.setIfInBounds_toArray, List.set_cons_zero, List.set_cons_succ])
      refine Zed.take (i := 11) (v := ct (sn (K k)) (sf (K k))) rfl (by kernel_rfl) rfl (by kernel_rfl) (by kernel_rfl) (by kernel_rfl) (fun _ _ _ h => h) ?_ TW ?_
      · refine .inl ⟨rfl, fun W hW => ?_⟩
        obtain ⟨q1, q2, q3, q4, q5⟩ := hW
        go_simp
      (try simp only [Act.put, List.setIfInBounds_toArray, List.set_cons_zero, List.set_cons_succ])
      refine Zed.take (i := 12) (v := ct (sn (K2 k)) (sf (K2 k))) rfl (by kernel_rfl) rfl (by kernel_rfl) (by kernel_rfl) (by kernel_rfl) (fun _ _ _ h => h) ?_ TW ?_
      · refine .inl ⟨rfl, fun W hW => ?_⟩
        obtain ⟨q1, q2, q3, q4, q5⟩ := hW
        go_simp
      (try simp only [Act.put, List.setIfInBounds_toArray, List.set_cons_zero, List.set_cons_succ])
      refine Zed.step (i := 13) (by kernel_rfl) rfl rfl (fun Kt hKt => ?_)
      go_simp
      refine (hJ _).mono ?_
      rintro e v2 ⟨rfl, B4⟩
      have T6 := T5.below B4
      have C6 : v2.cell? ⟨gc, 0, none⟩ = some (.int .u64 (sn (K2 k))) ∧ v2.cell? ⟨gc, 1, none⟩ = some (.bool (sf (K2 k))) := ⟨(B4.cell (p := ⟨gc, 0, none⟩) L4).trans C4.1, (B4.cell (p := ⟨gc, 1, none⟩) L4).trans C4.2⟩
      clear TW k0 k1 k2 T5 T4 C4 hJ B4 L4
      have k0 := (T6.h.ct k hkl).c0
      have k1 := (T6.h.ct k hkl).c1
      have f0 := (T6.h.ct k hkl).f0
      have f1 := (T6.h.ct k hkl).f1
      rw [Nat.mul_comm, mid_at] at k0 k1
      rw [Nat.mul_comm] at f0 f1
      have k2 := T6.h.c1
      rw [HN.out] at k2
      have TW : _ ∧ _ ∧ _ ∧ _ ∧ _ := ⟨k2, k0, k1, C6.1, C6.2⟩
      refine hKt _ _ ⟨.inr TW, ?_⟩
      clear hKt Kt C6
      (try simp only [Act.put, List.setIfInBounds_toArray, List.set_cons_zero, List.set_cons_succ])
      refine Zed.step (i := 14) (by kernel_rfl) rfl rfl (fun Kt hKt => ?_)
      go_simp
      refine hKt _ _ ⟨.inr TW, ?_⟩
      clear hKt Kt TW k2
      (try simp only [Act.put, List.setIfInBounds_toArray, List.set_cons_zero, List.set_cons_succ])
      refine Zed.step (i := 15) (by kernel_rfl) rfl rfl (fun Kt hKt => ?_)
      go_simp
      refine hKt _ _ ⟨.inl rfl, Zed.done (by kernel_rfl) ?_ _⟩
      clear hKt Kt k0 k1 f0 f1
      (try simp only [Act.put, List.setIfInBounds_toArray, List.set_cons_zero, List.set_cons_succ])
      have T7 := (T6.setk hkl (K k + K2 k)).eq fun i _ => mid_step K K2 k i
      unfold cput at T7
      generalize (v2.setCell ⟨g, k * 2, none⟩ (.int .u64 (sn (K k + K2 k)))).setCell ⟨g, k * 2 + 1, none⟩ (.bool (sf (K k + K2 k))) = w7 at *
      clear T6
      go_wp2
      go_roundw
      case rel => exact ⟨k + 1, by go_num, by omega, T7⟩
      case measure => first | go_num | (simp [intOf]; omega)
    · have hkn : k = n := by omega
      subst hkn
      have T4 := T3
      clear T3 hlt
      go_upto_region 10 with fail
      have hJ := fun W => join_in (K k) (K2 k) W
      have T5 := T4.below (Below.refl _ _).drew
      clear T4
      have k0 := T5.h.r.c0
      have k1 := T5.h.r.c1
      have k2 := T5.o.r.c0
      have k3 := T5.o.r.c1
      rw [HN.out, mid_at] at k0 k1
      rw [HN.out] at k2 k3
      simp only [Nat.reduceAdd] at k1 k3
      have TW : _ ∧ _ ∧ _ ∧ _ ∧ True := ⟨k0, k1, k2, k3, trivial⟩
      refine wp_zed (S := fun W => W.cell? ⟨p, 2, none⟩ = some (.int .u64 (sn (K k))) ∧ W.cell? ⟨p, 3, none⟩ = some (.bool (sf (K k))) ∧ W.cell? ⟨q, 2, none⟩ = some (.int .u64 (sn (K2 k))) ∧ W.cell? ⟨q, 3, none⟩ = some (.bool (sf (K2 k))) ∧ True) (z := 12) mixed ?_
      refine Zed.take (i := 0) (v := .pointer (some ⟨p, 0, none⟩)) rfl (by kernel_rfl) rfl (by kernel_rfl) (by kernel_rfl) (by kernel_rfl) (fun _ _ _ h => h) ?_ TW ?_
      · refine .inl ⟨rfl, fun W hW => ?_⟩
        obtain ⟨q1, q2, q3, q4, q5⟩ := hW
        go_simp
      (try simp only [Act.put, List.setIfInBounds_toArray, List.set_cons_zero, List.set_cons_succ])
      refine Zed.take (i := 1) (v := .pointer (some ⟨p, 0, none⟩)) rfl (by kernel_rfl) rfl (by kernel_rfl) (by kernel_rfl) (by kernel_rfl) (fun _ _ _ h => h) ?_ TW ?_
      · refine .inl ⟨rfl, fun W hW => ?_⟩
        obtain ⟨q1, q2, q3, q4, q5⟩ := hW
        go_simp
      (try simp only [Act.put, List.setIfInBounds_toArray, List.set_cons_zero, List.set_cons_succ])
      refine Zed.take (i := 2) (v := .pointer (some ⟨p, 0, none⟩)) rfl (by kernel_rfl) rfl (by kernel_rfl) (by kernel_rfl) (by kernel_rfl) (fun _ _ _ h => h) ?_ TW ?_
      · refine .inl ⟨rfl, fun W hW => ?_⟩
        obtain ⟨q1, q2, q3, q4, q5⟩ := hW
        go_simp
      (try simp only [Act.put, List.setIfInBounds_toArray, List.set_cons_zero, List.set_cons_succ])
      refine Zed.take (i := 3) (v := .pointer (some ⟨p, 2, none⟩)) rfl (by kernel_rfl) rfl (by kernel_rfl) (by kernel_rfl) (by kernel_rfl) (fun _ _ _ h => h) ?_ TW ?_
      · refine .inl ⟨rfl, fun W hW => ?_⟩
        obtain ⟨q1, q2, q3, q4, q5⟩ := hW
        go_simp
      (try simp only [Act.put, List.setIfInBounds_toArray, List.set_cons_zero, List.set_cons_succ])
      refine Zed.take (i := 4) (v := ct (sn (K k)) (sf (K k))) rfl (by kernel_rfl) rfl (by kernel_rfl) (by kernel_rfl) (by kernel_rfl) (fun _ _ _ h => h) ?_ TW ?_
      · refine .inl ⟨rfl, fun W hW => ?_⟩
        obtain ⟨q1, q2, q3, q4, q5⟩ := hW
        go_simp
      (try simp only [Act.put, List.setIfInBounds_toArray, List.set_cons_zero, List.set_cons_succ])
      refine Zed.take (i := 5) (v := .pointer (some ⟨q, 0, none⟩)) rfl (by kernel_rfl) rfl (by kernel_rfl) (by kernel_rfl) (by kernel_rfl) (fun _ _ _ h => h) ?_ TW ?_
      · refine .inl ⟨rfl, fun W hW => ?_⟩
        obtain ⟨q1, q2, q3, q4, q5⟩ := hW
        go_simp
      (try simp only [Act.put, List.setIfInBounds_toArray, List.set_cons_zero, List.set_cons_succ])
      refine Zed.take (i := 6) (v := .pointer (some ⟨q, 0, none⟩)) rfl (by kernel_rfl) rfl (by kernel_rfl) (by kernel_rfl) (by kernel_rfl) (fun _ _ _ h => h) ?_ TW ?_
      · refine .inl ⟨rfl, fun W hW => ?_⟩
        obtain ⟨q1, q2, q3, q4, q5⟩ := hW
        go_simp
      (try simp only [Act.put, List.setIfInBounds_toArray, List.set_cons_zero, List.set_cons_succ])
      refine Zed.take (i := 7) (v := .pointer (some ⟨q, 2, none⟩)) rfl (by kernel_rfl) rfl (by kernel_rfl) (by kernel_rfl) (by kernel_rfl) (fun _ _ _ h => h) ?_ TW ?_
      · refine .inl ⟨rfl, fun W hW => ?_⟩
        obtain ⟨q1, q2, q3, q4, q5⟩ := hW
        go_simp
      (try simp only [Act.put, List.setIfInBounds_toArray, List.set_cons_zero, List.set_cons_succ])
      refine Zed.take (i := 8) (v := ct (sn (K2 k)) (sf (K2 k))) rfl (by kernel_rfl) rfl (by kernel_rfl) (by kernel_rfl) (by kernel_rfl) (fun _ _ _ h => h) ?_ TW ?_
      · refine .inl ⟨rfl, fun W hW => ?_⟩
        obtain ⟨q1, q2, q3, q4, q5⟩ := hW
        go_simp
      (try simp only [Act.put, List.setIfInBounds_toArray, List.set_cons_zero, List.set_cons_succ])
      refine Zed.step (i := 9) (by kernel_rfl) rfl rfl (fun Kt hKt => ?_)
      go_simp
      refine (hJ _).mono ?_
      rintro e v2 ⟨rfl, B4⟩
      have T6 := T5.below B4
      clear TW k0 k1 k2 k3 T5 hJ B4
      have k0 := T6.h.r.c0
      have k1 := T6.h.r.c1
      have k2 := T6.o.r.c0
      have k3 := T6.o.r.c1
      rw [HN.out, mid_at] at k0 k1
      rw [HN.out] at k2 k3
      simp only [Nat.reduceAdd] at k1 k3
      have f0 := T6.h.r.f0
      have f1 : v2.frozen? ⟨p, 3, none⟩ = false := T6.h.r.f1
      have TW : _ ∧ _ ∧ _ ∧ _ ∧ True := ⟨k0, k1, k2, k3, trivial⟩
      refine hKt _ _ ⟨.inr TW, ?_⟩
      clear hKt Kt
      (try simp only [Act.put, List.setIfInBounds_toArray, List.set_cons_zero, List.set_cons_succ])
      refine Zed.step (i := 10) (by kernel_rfl) rfl rfl (fun Kt hKt => ?_)
      go_simp
      refine hKt _ _ ⟨.inr TW, ?_⟩
      clear hKt Kt
      (try simp only [Act.put, List.setIfInBounds_toArray, List.set_cons_zero, List.set_cons_succ])
      refine Zed.step (i := 11) (by kernel_rfl) rfl rfl (fun Kt hKt => ?_)
      go_simp
      refine hKt _ _ ⟨.inr TW, ?_⟩
      clear hKt Kt TW k2 k3
      (try simp only [Act.put, List.setIfInBounds_toArray, List.set_cons_zero, List.set_cons_succ])
      refine Zed.step (i := 12) (by kernel_rfl) rfl rfl (fun Kt hKt => ?_)
      go_simp
      refine hKt _ _ ⟨.inl rfl, Zed.done (by kernel_rfl) ?_ _⟩
      clear hKt Kt k0 k1 f0 f1
      (try simp only [Act.put, List.setIfInBounds_toArray, List.set_cons_zero, List.set_cons_succ])
      have T7 := T6.setr (K k + K2 k)
      unfold cput at T7
      simp only [Nat.reduceAdd] at T7
      generalize (v2.setCell ⟨p, 2, none⟩ (.int .u64 (sn (K k + K2 k)))).setCell ⟨p, 3, none⟩ (.bool (sf (K k + K2 k))) = w7 at *
      clear T6
      have T4 := T7
      clear T7
      go_upto_region 11 with fail
      have hJ := fun W => join_in (N) (N2) W
      have T5 := T4.below (Below.refl _ _).drew
      clear T4
      have k0 := T5.h.n.c0
      have k1 := T5.h.n.c1
      have k2 := T5.o.n.c0
      have k3 := T5.o.n.c1
      simp only [Nat.reduceAdd] at k1 k3
      have TW : _ ∧ _ ∧ _ ∧ _ ∧ True := ⟨k0, k1, k2, k3, trivial⟩
      refine wp_zed (S := fun W => W.cell? ⟨p, 4, none⟩ = some (.int .u64 (sn (N))) ∧ W.cell? ⟨p, 5, none⟩ = some (.bool (sf (N))) ∧ W.cell? ⟨q, 4, none⟩ = some (.int .u64 (sn (N2))) ∧ W.cell? ⟨q, 5, none⟩ = some (.bool (sf (N2))) ∧ True) (z := 12) mixed ?_
      refine Zed.take (i := 0) (v := .pointer (some ⟨p, 0, none⟩)) rfl (by kernel_rfl) rfl (by kernel_rfl) (by kernel_rfl) (by kernel_rfl) (fun _ _ _ h => h) ?_ TW ?_
      · refine .inl ⟨rfl, fun W hW => ?_⟩
        obtain ⟨q1, q2, q3, q4, q5⟩ := hW
        go_simp
      (try simp only [Act.put, List.setIfInBounds_toArray, List.set_cons_zero, List.set_cons_succ])
      refine Zed.take (i := 1) (v := .pointer (some ⟨p, 0, none⟩)) rfl (by kernel_rfl) rfl (by kernel_rfl) (by kernel_rfl) (by kernel_rfl) (fun _ _ _ h => h) ?_ TW ?_
      · refine .inl ⟨rfl, fun W hW => ?_⟩
        obtain ⟨q1, q2, q3, q4, q5⟩ := hW
        go_simp
      (try simp only [Act.put, List.setIfInBounds_toArray, List.set_cons_zero, List.set_cons_succ])
      refine Zed.take (i := 2) (v := .pointer (some ⟨p, 0, none⟩)) rfl (by kernel_rfl) rfl (by kernel_rfl) (by kernel_rfl) (by kernel_rfl) (fun _ _ _ h => h) ?_ TW ?_
      · refine .inl ⟨rfl, fun W hW => ?_⟩
        obtain ⟨q1, q2, q3, q4, q5⟩ := hW
        go_simp
      (try simp only [Act.put, List.setIfInBounds_toArray, List.set_cons_zero, List.set_cons_succ])
      refine Zed.take (i := 3) (v := .pointer (some ⟨p, 4, none⟩)) rfl (by kernel_rfl) rfl (by kernel_rfl) (by kernel_rfl) (by kernel_rfl) (fun _ _ _ h => h) ?_ TW ?_
      · refine .inl ⟨rfl, fun W hW => ?_⟩
        obtain ⟨q1, q2, q3, q4, q5⟩ := hW
        go_simp
      (try simp only [Act.put, List.setIfInBounds_toArray, List.set_cons_zero, List.set_cons_succ])
      refine Zed.take (i := 4) (v := ct (sn (N)) (sf (N))) rfl (by kernel_rfl) rfl (by kernel_rfl) (by kernel_rfl) (by kernel_rfl) (fun _ _ _ h => h) ?_ TW ?_
      · refine .inl ⟨rfl, fun W hW => ?_⟩
        obtain ⟨q1, q2, q3, q4, q5⟩ := hW
        go_simp
      (try simp only [Act.put, List.setIfInBounds_toArray, List.set_cons_zero, List.set_cons_succ])
      refine Zed.take (i := 5) (v := .pointer (some ⟨q, 0, none⟩)) rfl (by kernel_rfl) rfl (by kernel_rfl) (by kernel_rfl) (by kernel_rfl) (fun _ _ _ h => h) ?_ TW ?_
      · refine .inl ⟨rfl, fun W hW => ?_⟩
        obtain ⟨q1, q2, q3, q4, q5⟩ := hW
        go_simp
      (try simp only [Act.put, List.setIfInBounds_toArray, List.set_cons_zero, List.set_cons_succ])
      refine Zed.take (i := 6) (v := .pointer (some ⟨q, 0, none⟩)) rfl (by kernel_rfl) rfl (by kernel_rfl) (by kernel_rfl) (by kernel_rfl) (fun _ _ _ h => h) ?_ TW ?_
      · refine .inl ⟨rfl, fun W hW => ?_⟩
        obtain ⟨q1, q2, q3, q4, q5⟩ := hW
        go_simp
      (try simp only [Act.put, List.setIfInBounds_toArray, List.set_cons_zero, List.set_cons_succ])
      refine Zed.take (i := 7) (v := .pointer (some ⟨q, 4, none⟩)) rfl (by kernel_rfl) rfl (by kernel_rfl) (by kernel_rfl) (by kernel_rfl) (fun _ _ _ h => h) ?_ TW ?_
      · refine .inl ⟨rfl, fun W hW => ?_⟩
        obtain ⟨q1, q2, q3, q4, q5⟩ := hW
        go_simp
      (try simp only [Act.put, List.setIfInBounds_toArray, List.set_cons_zero, List.set_cons_succ])
      refine Zed.take (i := 8) (v := ct (sn (N2)) (sf (N2))) rfl (by kernel_rfl) rfl (by kernel_rfl) (by kernel_rfl) (by kernel_rfl) (fun _ _ _ h => h) ?_ TW ?_
      · refine .inl ⟨rfl, fun W hW => ?_⟩
        obtain ⟨q1, q2, q3, q4, q5⟩ := hW
        go_simp
      (try simp only [Act.put, List.setIfInBounds_toArray, List.set_cons_zero, List.set_cons_succ])
      refine Zed.step (i := 9) (by kernel_rfl) rfl rfl (fun Kt hKt => ?_)
      go_simp
      refine (hJ _).mono ?_
      rintro e v2 ⟨rfl, B4⟩
      have T6 := T5.below B4
      clear TW k0 k1 k2 k3 T5 hJ B4
      have k0 := T6.h.n.c0
      have k1 := T6.h.n.c1
      have k2 := T6.o.n.c0
      have k3 := T6.o.n.c1
      simp only [Nat.reduceAdd] at k1 k3
      have f0 := T6.h.n.f0
      have f1 : v2.frozen? ⟨p, 5, none⟩ = false := T6.h.n.f1
      have TW : _ ∧ _ ∧ _ ∧ _ ∧ True := ⟨k0, k1, k2, k3, trivial⟩
      refine hKt _ _ ⟨.inr TW, ?_⟩
      clear hKt Kt
      (try simp only [Act.put, List.setIfInBounds_toArray, List.set_cons_zero, List.set_cons_succ])
      refine Zed.step (i := 10) (by kernel_rfl) rfl rfl (fun Kt hKt => ?_)
      go_simp
      refine hKt _ _ ⟨.inr TW, ?_⟩
      clear hKt Kt
      (try simp only [Act.put, List.setIfInBounds_toArray, List.set_cons_zero, List.set_cons_succ])
      refine Zed.step (i := 11) (by kernel_rfl) rfl rfl (fun Kt hKt => ?_)
      go_simp
      refine hKt _ _ ⟨.inr TW, ?_⟩
      clear hKt Kt TW k2 k3
      (try simp only [Act.put, List.setIfInBounds_toArray, List.set_cons_zero, List.set_cons_succ])
      refine Zed.step (i := 12) (by kernel_rfl) rfl rfl (fun Kt hKt => ?_)
      go_simp
      refine hKt _ _ ⟨.inl rfl, Zed.done (by kernel_rfl) ?_ _⟩
      clear hKt Kt k0 k1 f0 f1
      (try simp only [Act.put, List.setIfInBounds_toArray, List.set_cons_zero, List.set_cons_succ])
      have T7 := T6.setn (N + N2)
      unfold cput at T7
      simp only [Nat.reduceAdd] at T7
      generalize (v2.setCell ⟨p, 4, none⟩ (.int .u64 (sn (N + N2)))).setCell ⟨p, 5, none⟩ (.bool (sf (N + N2))) = w7 at *
      clear T6
      have T4 := T7
      clear T7
      go_upto_region 12 with fail
      have hJ := fun W => join_in (S) (S2) W
      have T5 := T4.below (Below.refl _ _).drew
      clear T4
      have k0 := T5.h.s.c0
      have k1 := T5.h.s.c1
      have k2 := T5.o.s.c0
      have k3 := T5.o.s.c1
      simp only [Nat.reduceAdd] at k1 k3
      have TW : _ ∧ _ ∧ _ ∧ _ ∧ True := ⟨k0, k1, k2, k3, trivial⟩
      refine wp_zed (S := fun W => W.cell? ⟨p, 6, none⟩ = some (.int .u64 (sn (S))) ∧ W.cell? ⟨p, 7, none⟩ = some (.bool (sf (S))) ∧ W.cell? ⟨q, 6, none⟩ = some (.int .u64 (sn (S2))) ∧ W.cell? ⟨q, 7, none⟩ = some (.bool (sf (S2))) ∧ True) (z := 12) mixed ?_
      refine Zed.take (i := 0) (v := .pointer (some ⟨p, 0, none⟩)) rfl (by kernel_rfl) rfl (by kernel_rfl) (by kernel_rfl) (by kernel_rfl) (fun _ _ _ h => h) ?_ TW ?_
      · refine .inl ⟨rfl, fun W hW => ?_⟩
        obtain ⟨q1, q2, q3, q4, q5⟩ := hW
        go_simp
      (try simp only [Act.put, List.setIfInBounds_toArray, List.set_cons_zero, List.set_cons_succ])
      refine Zed.take (i := 1) (v := .pointer (some ⟨p, 0, none⟩)) rfl (by kernel_rfl) rfl (by kernel_rfl) (by kernel_rfl) (by kernel_rfl) (fun _ _ _ h => h) ?_ TW ?_
      · refine .inl ⟨rfl, fun W hW => ?_⟩
        obtain ⟨q1, q2, q3, q4, q5⟩ := hW
        go_simp
      (try simp only [Act.put, List.setIfInBounds_toArray, List.set_cons_zero, List.set_cons_succ])
      refine Zed.take (i := 2) (v := .pointer (some ⟨p, 0, none⟩)) rfl (by kernel_rfl) rfl (by kernel_rfl) (by kernel_rfl) (by kernel_rfl) (fun _ _ _ h => h) ?_ TW ?_
      · refine .inl ⟨rfl, fun W hW => ?_⟩
        obtain ⟨q1, q2, q3, q4, q5⟩ := hW
        go_simp
      (try simp only [Act.put, List.setIfInBounds_toArray, List.set_cons_zero, List.set_cons_succ])
      refine Zed.take (i := 3) (v := .pointer (some ⟨p, 6, none⟩)) rfl (by kernel_rfl) rfl (by kernel_rfl) (by kernel_rfl) (by kernel_rfl) (fun _ _ _ h => h) ?_ TW ?_
      · refine .inl ⟨rfl, fun W hW => ?_⟩
        obtain ⟨q1, q2, q3, q4, q5⟩ := hW
        go_simp
      (try simp only [Act.put, List.setIfInBounds_toArray, List.set_cons_zero, List.set_cons_succ])
      refine Zed.take (i := 4) (v := ct (sn (S)) (sf (S))) rfl (by kernel_rfl) rfl (by kernel_rfl) (by kernel_rfl) (by kernel_rfl) (fun _ _ _ h => h) ?_ TW ?_
      · refine .inl ⟨rfl, fun W hW => ?_⟩
        obtain ⟨q1, q2, q3, q4, q5⟩ := hW
        go_simp
      (try simp only [Act.put, List.setIfInBounds_toArray, List.set_cons_zero, List.set_cons_succ])
      refine Zed.take (i := 5) (v := .pointer (some ⟨q, 0, none⟩)) rfl (by kernel_rfl) rfl (by kernel_rfl) (by kernel_rfl) (by kernel_rfl) (fun _ _ _ h => h) ?_ TW ?_
      · refine .inl ⟨rfl, fun W hW => ?_⟩
        obtain ⟨q1, q2, q3, q4, q5⟩ := hW
        go_simp
      (try simp only [Act.put, List.setIfInBounds_toArray, List.set_cons_zero, List.set_cons_succ])
      refine Zed.take (i := 6) (v := .pointer (some ⟨q, 0, none⟩)) rfl (by kernel_rfl) rfl (by kernel_rfl) (by kernel_rfl) (by kernel_rfl) (fun _ _ _ h => h) ?_ TW ?_
      · refine .inl ⟨rfl, fun W hW => ?_⟩
        obtain ⟨q1, q2, q3, q4, q5⟩ := hW
        go_simp
      (try simp only [Act.put, List.setIfInBounds_toArray, List.set_cons_zero, List.set_cons_succ])
      refine Zed.take (i := 7) (v := .pointer (some ⟨q, 6, none⟩)) rfl (by kernel_rfl) rfl (by kernel_rfl) (by kernel_rfl) (by kernel_rfl) (fun _ _ _ h => h) ?_ TW ?_
      · refine .inl ⟨rfl, fun W hW => ?_⟩
        obtain ⟨q1, q2, q3, q4, q5⟩ := hW
        go_simp
      (try simp only [Act.put, List.setIfInBounds_toArray, List.set_cons_zero, List.set_cons_succ])
      refine Zed.take (i := 8) (v := ct (sn (S2)) (sf (S2))) rfl (by kernel_rfl) rfl (by kernel_rfl) (by kernel_rfl) (by kernel_rfl) (fun _ _ _ h => h) ?_ TW ?_
      · refine .inl ⟨rfl, fun W hW => ?_⟩
        obtain ⟨q1, q2, q3, q4, q5⟩ := hW
        go_simp
      (try simp only [Act.put, List.setIfInBounds_toArray, List.set_cons_zero, List.set_cons_succ])
      refine Zed.step (i := 9) (by kernel_rfl) rfl rfl (fun Kt hKt => ?_)
      go_simp
      refine (hJ _).mono ?_
      rintro e v2 ⟨rfl, B4⟩
      have T6 := T5.below B4
      clear TW k0 k1 k2 k3 T5 hJ B4
      have k0 := T6.h.s.c0
      have k1 := T6.h.s.c1
      have k2 := T6.o.s.c0
      have k3 := T6.o.s.c1
      simp only [Nat.reduceAdd] at k1 k3
      have f0 := T6.h.s.f0
      have f1 : v2.frozen? ⟨p, 7, none⟩ = false := T6.h.s.f1
      have TW : _ ∧ _ ∧ _ ∧ _ ∧ True := ⟨k0, k1, k2, k3, trivial⟩
      refine hKt _ _ ⟨.inr TW, ?_⟩
      clear hKt Kt
      (try simp only [Act.put, List.setIfInBounds_toArray, List.set_cons_zero, List.set_cons_succ])
      refine Zed.step (i := 10) (by kernel_rfl) rfl rfl (fun Kt hKt => ?_)
      go_simp
      refine hKt _ _ ⟨.inr TW, ?_⟩
      clear hKt Kt
      (try simp only [Act.put, List.setIfInBounds_toArray, List.set_cons_zero, List.set_cons_succ])
      refine Zed.step (i := 11) (by kernel_rfl) rfl rfl (fun Kt hKt => ?_)
      go_simp
      refine hKt _ _ ⟨.inr TW, ?_⟩
      clear hKt Kt TW k2 k3
      (try simp only [Act.put, List.setIfInBounds_toArray, List.set_cons_zero, List.set_cons_succ])
      refine Zed.step (i := 12) (by kernel_rfl) rfl rfl (fun Kt hKt => ?_)
      go_simp
      refine hKt _ _ ⟨.inl rfl, Zed.done (by kernel_rfl) ?_ _⟩
      clear hKt Kt k0 k1 f0 f1
      (try simp only [Act.put, List.setIfInBounds_toArray, List.set_cons_zero, List.set_cons_succ])
      have T7 := T6.sets (S + S2)
      unfold cput at T7
      simp only [Nat.reduceAdd] at T7
      generalize (v2.setCell ⟨p, 6, none⟩ (.int .u64 (sn (S + S2)))).setCell ⟨p, 7, none⟩ (.bool (sf (S + S2))) = w7 at *
      clear T6
      have T4 := T7
      clear T7
      go_wp2
      go_ret
      refine ⟨rfl, ⟨g, A, c, T4.h.eq (fun i hi => ?_) HL1.out HL2.out, fun x hx => ?_⟩, T4.fx⟩
      · rw [← HK.out]
        have e := mid_step K K2 bs.length i
        rw [HN.out] at e hi ⊢
        rw [e]
        unfold mid
        rw [if_pos (by omega)]
      · have := HBL.out x hx
        exact ⟨this.1, this.2.1, Nat.lt_of_lt_of_le this.2.2 T4.fx.size⟩
end Go.Proofs.Ythggaoobbkflaaa.H11
