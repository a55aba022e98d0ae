/-
  The walk of SatOrder (written by gen10/law_order.py): two counts, the one from the front on, the other the other way round.
-/
import Derived.Test.YtandphbjhggnaaaS10Ref
import Derived.Test.YtandphbjhggnaaaP06Region
set_option linter.unusedSimpArgs false
set_option linter.unusedVariables false
namespace Go.Proofs.Ytandphbjhggnaaa.S10
open Go.RowKit Go.Lib Go.Proofs.Ytandphbjhggnaaa.Wd Go.Proofs.Ytandphbjhggnaaa.P06

/-- the order in which the law adds them the other way -/
def back (l : List Nat) (y : Nat) : List Nat := (l.take (y % l.length)).reverse ++ (l.drop (y % l.length)).reverse
theorem back_len (l : List Nat) (y : Nat) : (back l y).length = l.length := by
  unfold back
  simp only [List.length_append, List.length_reverse, List.length_take, List.length_drop]
  omega
theorem tot_rev (l : List Nat) : tot l.reverse = tot l := by unfold tot; rw [List.sum_reverse]
theorem back_tot (l : List Nat) (y : Nat) : tot (back l y) = tot l := by
  unfold back
  rw [tot_app, tot_rev, tot_rev, tot_cut]
theorem way_lt (n k y : Nat) (h : 0 < n) : (n - 1 - k + y) % n < n := Nat.mod_lt _ h
theorem back_get {l : List Nat} {k : Nat} (y : Nat) (h : k < l.length) : (back l y)[k]'(by rw [back_len]; exact h) = l[(l.length - 1 - k + y) % l.length]'(way_lt _ _ _ (by omega)) := by
  have hs : y % l.length < l.length := Nat.mod_lt _ (by omega)
  have e : (l.length - 1 - k + y) % l.length = (l.length - 1 - k + y % l.length) % l.length := by rw [Nat.add_mod_mod]
  unfold back
  by_cases c : k < y % l.length
  · have e2 : (l.length - 1 - k + y) % l.length = y % l.length - 1 - k := by
      rw [e, show l.length - 1 - k + y % l.length = l.length + (y % l.length - 1 - k) by omega, Nat.add_mod_left, Nat.mod_eq_of_lt (by omega)]
    rw [List.getElem_append_left (by simp only [List.length_reverse, List.length_take]; omega), List.getElem_reverse]
    simp only [List.getElem_take, List.length_take, e2]
    congr 1
    omega
  · have e2 : (l.length - 1 - k + y) % l.length = l.length - 1 - k + y % l.length := by rw [e, Nat.mod_eq_of_lt (by omega)]
    rw [List.getElem_append_right (by simp only [List.length_reverse, List.length_take]; omega), List.getElem_reverse]
    simp only [List.getElem_drop, List.length_drop, List.length_take, List.length_reverse, e2]
    congr 1
    omega
theorem cell_keep {W W' : World} {p : Addr} {v : Value} (h : W.cell? p = some v) (hb : Below W.heap.size W W') : W'.cell? p = some v := by
  rw [hb.cell (World.block_lt_of_cell? _ _ h)]
  exact h
/-- two counts in their cells -/
structure PrC (w1 : World) (ga gb : Nat) (n : Int) (f : Bool) (m : Int) (g : Bool) (W : World) : Prop where
  ka : Cb W ga n f
  kb : Cb W gb m g
  bel : Below w1.heap.size w1 W
  la : w1.heap.size ≤ ga
  lb : ga < gb
theorem PrC.below {w1 : World} {ga gb : Nat} {n m : Int} {f g : Bool} {W W' : World} (h : PrC w1 ga gb n f m g W) (hb : Below W.heap.size W W') : PrC w1 ga gb n f m g W' :=
  ⟨h.ka.below hb, h.kb.below hb, h.bel.trans (hb.mono h.bel.size), h.la, h.lb⟩
theorem below_drew (W : World) : Below W.heap.size W W.drew := ⟨rfl, rfl, rfl, Nat.le_refl _, fun _ _ => rfl⟩
theorem PrC.drew {w1 : World} {ga gb : Nat} {n m : Int} {f g : Bool} {W : World} (h : PrC w1 ga gb n f m g W) : PrC w1 ga gb n f m g W.drew := h.below (below_drew W)
theorem PrC.seta {w1 : World} {ga gb : Nat} {n m : Int} {f g : Bool} {W : World} (h : PrC w1 ga gb n f m g W) (n2 : Int) (f2 : Bool) : PrC w1 ga gb n2 f2 m g (S10.put W ga n2 f2) :=
  ⟨h.ka.put n2 f2, h.kb.other (by have := h.lb; omega) n2 f2, below_put h.bel h.la n2 f2, h.la, h.lb⟩
theorem PrC.setb {w1 : World} {ga gb : Nat} {n m : Int} {f g : Bool} {W : World} (h : PrC w1 ga gb n f m g W) (n2 : Int) (f2 : Bool) : PrC w1 ga gb n f n2 f2 (S10.put W gb n2 f2) :=
  ⟨h.ka.other (by have := h.lb; omega) n2 f2, h.kb.put n2 f2, below_put h.bel (by have := h.la; have := h.lb; omega) n2 f2, h.la, h.lb⟩
/-- and a third, which stays -/
structure Pr3 (w1 : World) (ga gb gc : Nat) (n : Int) (f : Bool) (m : Int) (g : Bool) (p : Int) (q : Bool) (W : World) : Prop where
  r : PrC w1 ga gb n f m g W
  kc : Cb W gc p q
  lc : gb < gc
theorem Pr3.below {w1 : World} {ga gb gc : Nat} {n m p : Int} {f g q : Bool} {W W' : World} (h : Pr3 w1 ga gb gc n f m g p q W) (hb : Below W.heap.size W W') : Pr3 w1 ga gb gc n f m g p q W' := ⟨h.r.below hb, h.kc.below hb, h.lc⟩
theorem Pr3.drew {w1 : World} {ga gb gc : Nat} {n m p : Int} {f g q : Bool} {W : World} (h : Pr3 w1 ga gb gc n f m g p q W) : Pr3 w1 ga gb gc n f m g p q W.drew := h.below (below_drew W)
theorem Pr3.seta {w1 : World} {ga gb gc : Nat} {n m p : Int} {f g q : Bool} {W : World} (h : Pr3 w1 ga gb gc n f m g p q W) (n2 : Int) (f2 : Bool) : Pr3 w1 ga gb gc n2 f2 m g p q (S10.put W ga n2 f2) :=
  ⟨h.r.seta n2 f2, h.kc.other (by have := h.lc; have := h.r.lb; omega) n2 f2, h.lc⟩
theorem Pr3.setb {w1 : World} {ga gb gc : Nat} {n m p : Int} {f g q : Bool} {W : World} (h : Pr3 w1 ga gb gc n f m g p q W) (n2 : Int) (f2 : Bool) : Pr3 w1 ga gb gc n f n2 f2 p q (S10.put W gb n2 f2) :=
  ⟨h.r.setb n2 f2, h.kc.other (by have := h.lc; omega) n2 f2, h.lc⟩
theorem tot_step {l : List Nat} {k : Nat} {n : Int} {f : Bool} (h : k < l.length) (I : Is (tot (l.take k)) n f) : ∃ n2 f2, Is (tot (l.take (k + 1))) n2 f2 ∧ Is (tot (l.take k) + (l[k] : Int)) n2 f2 ∧ n ≤ n2 ∧ (f = true → f2 = true) := by
  obtain ⟨n2, f2, I2⟩ := Is.of _ (tot_pos (l.take (k + 1)))
  have e := tot_take h
  have := I.le I2 (by omega)
  exact ⟨n2, f2, I2, by rw [e]; exact I2, this⟩

set_option maxRecDepth 20000 in
set_option maxHeartbeats 4000000 in
theorem order_law (A : Option Addr) (c N : Nat) (l : List Nat) (y : Nat) (w : World) (ha : Us w A c l) (hN : l.length = N) (hy : y ≤ 255) :
    Calls Try.prog 4 #[.slice A N c, .int .u8 (y : Int)] w fun e w' => e = .returned (.bool true) ∧ Below w.heap.size w w' := by
  have b0 := Below.refl w.heap.size w
  have mixed : Try.prog.follows .mixedOrders = true := by kernel_rfl
  have HN := Lib.hid hN
  clear hN
  go_enter Try.func4, Try.ntmps4
  go_wp2_with fail
  refine (alive_any _).mono ?_
  rintro e w1 ⟨rfl, b1⟩
  replace b0 := b0.trans (b1.mono b0.size)
  clear b1
  by_cases h2 : (200 : Int) < (N : Int)
  · go_wp2
    go_ret
    exact ⟨rfl, b0⟩
  have ha1 := ha.below b0
  have HB := Lib.hid b0
  clear ha b0
  have R0 : PrC w1 w1.heap.size (w1.heap.size + 1) 0 false 0 false ((w1.alloc (.cells (cb 0 false) 28)).alloc (.cells (cb 0 false) 28)) :=
    ⟨(Cb.new w1 0 false).old _, second (by simp) (Below.refl _ _), by go_grown, Nat.le_refl _, by omega⟩
  have I0 := Lib.hid (show Is (tot (l.take 0)) 0 false from Is.zero)
  have J0 := Lib.hid (show Is (tot ((back l y).take 0)) 0 false from Is.zero)
  go_wp2
  generalize (w1.alloc (.cells (cb 0 false) 28)).alloc (.cells (cb 0 false) 28) = w5 at *
  obtain ⟨ga, hga⟩ : ∃ g, w1.heap.size = g := ⟨_, rfl⟩
  rw [hga] at R0 ⊢
  obtain ⟨gb, hgb⟩ : ∃ g, ga + 1 = g := ⟨_, rfl⟩
  rw [hgb] at R0 ⊢
  clear hga hgb
  go_loopw [7] (fun v wr => ∃ (k : Nat) (n m : Int) (f g : Bool), v = .int .i64 (k : Int) ∧ k ≤ N ∧ Hid (Is (tot (l.take k)) n f) ∧ Hid (Is (tot ((back l y).take k)) m g) ∧ PrC w1 ga gb n f m g wr) (fun v _ => N - (intOf v).toNat)
  case atStart => exact ⟨0, 0, 0, false, false, rfl, by omega, I0, J0, R0⟩
  case round =>
    clear I0 J0 R0
    obtain ⟨k, n, m, f, g, rfl, hk, I, J, R⟩ := hrel
    by_cases hlt : k < N
    · have hkl : k < l.length := by rw [HN.out]; exact hlt
      have hltz : (k : Int) < (N : Int) := by omega
      have hbl : k < (back l y).length := by rw [back_len]; exact hkl
      have hjl := way_lt l.length k y (by omega)
      obtain ⟨n2, f2, I2, I3, hle, hff⟩ := tot_step hkl I.out
      obtain ⟨m2, g2, J2, J3, _, _⟩ := tot_step hbl J.out
      rw [back_get y hkl] at J3
      have rt := I2.right
      have hR := fun W => right_at n2 f2 true W rt
      have n20 := I2.low
      have n21 := I2.max
      have n00 := I.out.low
      have HI2 := Lib.hid I2
      have HJ2 := Lib.hid J2
      obtain ⟨ad, hAd, hcell, hx⟩ := (ha1.below R.bel).get hkl
      subst hAd
      have hcellb := fun W (hW : Below w1.heap.size w1 W) => (ha1.below hW).get hjl
      have hA := fun W => add_at _ n (l[k] : Nat) n2 f f2 W I.out (by omega) hx I3
      obtain ⟨z, hz⟩ : ∃ z, (l.length - 1 - k + y) % l.length = z := ⟨_, rfl⟩
      have hzN : z < N := by rw [← hz, ← HN.out]; exact hjl
      have hrem : ((N : Int) - 1 - (k : Int) + (y : Int)) % (N : Int) = (z : Int) := by
        rw [← hz, Int.natCast_emod, HN.out]
        congr 1
        omega
      simp only [hz] at hcellb J3
      have hx2 : (l[z]'(by rw [HN.out]; exact hzN) : Int) ≤ 18446744073709551615 := by
        obtain ⟨_, _, _, h⟩ := hcellb _ R.bel
        exact h
      have hB := fun W => add_at _ m (l[z]'(by rw [HN.out]; exact hzN) : Nat) m2 g g2 W J.out (by omega) hx2 J3
      generalize (l[z]'(by rw [HN.out]; exact hzN)) = x2 at hcellb hB hx2
      generalize l[k] = x at hcell hx hA
      have wr0 : IntKind.i64.wrap (y : Int) = (y : Int) := by rw [IntKind.wrap_i64]; omega
      have hN0 : ¬ N = 0 := by omega
      have wr1 : IntKind.i64.wrap ((N : Int) - 1) = (N : Int) - 1 := by rw [IntKind.wrap_i64]; omega
      have wr2 : IntKind.i64.wrap ((N : Int) - 1 - (k : Int)) = (N : Int) - 1 - (k : Int) := by rw [IntKind.wrap_i64]; omega
      have wr3 : IntKind.i64.wrap ((N : Int) - 1 - (k : Int) + (y : Int)) = (N : Int) - 1 - (k : Int) + (y : Int) := by rw [IntKind.wrap_i64]; omega
      have hremt : ((N : Int) - 1 - (k : Int) + (y : Int)).tmod (N : Int) = (z : Int) := by rw [Int.tmod_eq_emod_of_nonneg (by omega)]; exact hrem
      clear I2 J2 I3 J3 I J hz hbl hjl rt
      have c0 := R.ka.c0
      have c1 := R.ka.c1
      have R8 : PrC w1 ga gb n f m g (wr.alloc (.cells (cb n f) 28)) := R.below ((Below.refl _ _).alloc (Nat.le_refl _) _)
      have C8 := Cb.new wr n f
      have hcell8 := cell_keep hcell ((Below.refl _ _).alloc (Nat.le_refl _) (.cells (cb n f) 28))
      have hg8a : gb < wr.heap.size := R.kb.lt
      have hg8b : ga < wr.heap.size := R.ka.lt
      have R9 : Pr3 w1 ga gb wr.heap.size n f m g n f (wr.alloc (.cells (cb n f) 28)) := ⟨R8, C8, hg8a⟩
      clear R hcell R8 C8
      go_wp2_with fail
      generalize wr.alloc (.cells (cb n f) 28) = w8 at *
      clear c0 c1
      generalize wr.heap.size = gc at *
      replace hcell : w8.drew.cell? (ad.add k) = some (.int .u64 (x : Int)) := hcell8
      clear hcell8
      have R' := R9.drew
      have TW : _ ∧ _ ∧ _ := ⟨R'.r.ka.c0, R'.r.ka.c1, hcell⟩
      refine wp_zed (S := fun w' => w'.cell? ⟨ga, 0, none⟩ = some (.int .u64 n) ∧ w'.cell? ⟨ga, 1, none⟩ = some (.bool f) ∧ w'.cell? (ad.add k) = some (.int .u64 (x : Int))) (z := 6) mixed ?_
      refine Zed.take (i := 0) (v := ct n f) rfl (by kernel_rfl) rfl (by kernel_rfl) (by kernel_rfl) (by kernel_rfl) (fun _ _ _ h => h) ?_ TW ?_
      · refine .inl ⟨rfl, fun W hW => ?_⟩
        obtain ⟨q1, q2, q3⟩ := hW
        go_simp
      (try simp only [Act.put, List.setIfInBounds_toArray, List.set_cons_zero, List.set_cons_succ])
      refine Zed.take (i := 1) (v := .slice (some ad) N c) rfl (by kernel_rfl) rfl (by kernel_rfl) (by kernel_rfl) (by kernel_rfl) (fun _ _ _ h => h) ?_ TW ?_
      · refine .inl ⟨rfl, fun W hW => ?_⟩
        obtain ⟨q1, q2, q3⟩ := hW
        go_simp
      (try simp only [Act.put, List.setIfInBounds_toArray, List.set_cons_zero, List.set_cons_succ])
      refine Zed.take (i := 2) (v := .int .i64 (k : Int)) rfl (by kernel_rfl) rfl (by kernel_rfl) (by kernel_rfl) (by kernel_rfl) (fun _ _ _ h => h) ?_ TW ?_
      · refine .inl ⟨rfl, fun W hW => ?_⟩
        obtain ⟨q1, q2, q3⟩ := hW
        go_simp
      (try simp only [Act.put, List.setIfInBounds_toArray, List.set_cons_zero, List.set_cons_succ])
      refine Zed.take (i := 3) (v := .pointer (some (ad.add k))) rfl (by kernel_rfl) rfl (by kernel_rfl) (by kernel_rfl) (by kernel_rfl) (fun _ _ _ h => h) ?_ TW ?_
      · refine .inl ⟨rfl, fun W hW => ?_⟩
        obtain ⟨q1, q2, q3⟩ := hW
        go_simp
      (try simp only [Act.put, List.setIfInBounds_toArray, List.set_cons_zero, List.set_cons_succ])
      refine Zed.take (i := 4) (v := .int .u64 (x : Int)) rfl (by kernel_rfl) rfl (by kernel_rfl) (by kernel_rfl) (by kernel_rfl) (fun _ _ _ h => h) ?_ TW ?_
      · refine .inl ⟨rfl, fun W hW => ?_⟩
        obtain ⟨q1, q2, q3⟩ := hW
        go_simp
      (try simp only [Act.put, List.setIfInBounds_toArray, List.set_cons_zero, List.set_cons_succ])
      refine Zed.step (i := 5) (by kernel_rfl) rfl rfl (fun K hK => ?_)
      go_simp
      refine (hA _).mono ?_
      rintro e v2 ⟨rfl, B4⟩
      have hcell2 := (cell_keep hcell B4 : _)
      have R2 := R'.below B4
      refine hK _ _ ⟨.inr ⟨R2.r.ka.c0, R2.r.ka.c1, hcell2⟩, ?_⟩
      clear hK K TW R' B4 hcell hcell2 hA
      (try simp only [Act.put, List.setIfInBounds_toArray, List.set_cons_zero, List.set_cons_succ])
      have y0 := R2.r.ka.c0
      have y1 := R2.r.ka.c1
      have f0 := R2.r.ka.f0
      have f1 := R2.r.ka.f1
      refine Zed.step (i := 6) (by kernel_rfl) rfl rfl (fun K hK => ?_)
      go_simp
      refine hK _ _ ⟨.inl rfl, Zed.done (by kernel_rfl) ?_ _⟩
      clear hK K y0 y1 f0 f1
      (try simp only [Act.put, List.setIfInBounds_toArray, List.set_cons_zero, List.set_cons_succ])
      have R10 := R2.seta n2 f2
      obtain ⟨wz, hW⟩ : ∃ W, S10.put v2 ga n2 f2 = W := ⟨_, rfl⟩
      rw [hW] at R10
      unfold S10.put at hW
      rw [hW]
      clear hW R2
      obtain ⟨ad2, hAd, hcell3, _⟩ := hcellb _ R10.r.bel
      injection hAd with hAd
      subst hAd
      clear hcellb
      generalize wz = w9 at *
      replace hcell : w9.drew.cell? (ad.add z) = some (.int .u64 (x2 : Int)) := hcell3
      clear hcell3
      go_wp2_with fail
      have R' := R10.drew
      have TW : _ ∧ _ ∧ _ := ⟨R'.r.kb.c0, R'.r.kb.c1, hcell⟩
      refine wp_zed (S := fun w' => w'.cell? ⟨gb, 0, none⟩ = some (.int .u64 m) ∧ w'.cell? ⟨gb, 1, none⟩ = some (.bool g) ∧ w'.cell? (ad.add z) = some (.int .u64 (x2 : Int))) (z := 16) mixed ?_
      refine Zed.take (i := 0) (v := ct m g) rfl (by kernel_rfl) rfl (by kernel_rfl) (by kernel_rfl) (by kernel_rfl) (fun _ _ _ h => h) ?_ TW ?_
      · refine .inl ⟨rfl, fun W hW => ?_⟩
        obtain ⟨q1, q2, q3⟩ := hW
        go_simp
      (try simp only [Act.put, List.setIfInBounds_toArray, List.set_cons_zero, List.set_cons_succ])
      refine Zed.take (i := 1) (v := .slice (some ad) N c) rfl (by kernel_rfl) rfl (by kernel_rfl) (by kernel_rfl) (by kernel_rfl) (fun _ _ _ h => h) ?_ TW ?_
      · refine .inl ⟨rfl, fun W hW => ?_⟩
        obtain ⟨q1, q2, q3⟩ := hW
        go_simp
      (try simp only [Act.put, List.setIfInBounds_toArray, List.set_cons_zero, List.set_cons_succ])
      refine Zed.take (i := 2) (v := .slice (some ad) N c) rfl (by kernel_rfl) rfl (by kernel_rfl) (by kernel_rfl) (by kernel_rfl) (fun _ _ _ h => h) ?_ TW ?_
      · refine .inl ⟨rfl, fun W hW => ?_⟩
        obtain ⟨q1, q2, q3⟩ := hW
        go_simp
      (try simp only [Act.put, List.setIfInBounds_toArray, List.set_cons_zero, List.set_cons_succ])
      refine Zed.take (i := 3) (v := .int .i64 (N : Int)) rfl (by kernel_rfl) rfl (by kernel_rfl) (by kernel_rfl) (by kernel_rfl) (fun _ _ _ h => h) ?_ TW ?_
      · refine .inl ⟨rfl, fun W hW => ?_⟩
        obtain ⟨q1, q2, q3⟩ := hW
        go_simp
      (try simp only [Act.put, List.setIfInBounds_toArray, List.set_cons_zero, List.set_cons_succ])
      refine Zed.take (i := 4) (v := .int .i64 ((N : Int) - 1)) rfl (by kernel_rfl) rfl (by kernel_rfl) (by kernel_rfl) (by kernel_rfl) (fun _ _ _ h => h) ?_ TW ?_
      · refine .inl ⟨rfl, fun W hW => ?_⟩
        obtain ⟨q1, q2, q3⟩ := hW
        go_simp
      (try simp only [Act.put, List.setIfInBounds_toArray, List.set_cons_zero, List.set_cons_succ])
      refine Zed.take (i := 5) (v := .int .i64 (k : Int)) rfl (by kernel_rfl) rfl (by kernel_rfl) (by kernel_rfl) (by kernel_rfl) (fun _ _ _ h => h) ?_ TW ?_
      · refine .inl ⟨rfl, fun W hW => ?_⟩
        obtain ⟨q1, q2, q3⟩ := hW
        go_simp
      (try simp only [Act.put, List.setIfInBounds_toArray, List.set_cons_zero, List.set_cons_succ])
      refine Zed.take (i := 6) (v := .int .i64 ((N : Int) - 1 - (k : Int))) rfl (by kernel_rfl) rfl (by kernel_rfl) (by kernel_rfl) (by kernel_rfl) (fun _ _ _ h => h) ?_ TW ?_
      · refine .inl ⟨rfl, fun W hW => ?_⟩
        obtain ⟨q1, q2, q3⟩ := hW
        go_simp
      (try simp only [Act.put, List.setIfInBounds_toArray, List.set_cons_zero, List.set_cons_succ])
      refine Zed.take (i := 7) (v := .int .u8 (y : Int)) rfl (by kernel_rfl) rfl (by kernel_rfl) (by kernel_rfl) (by kernel_rfl) (fun _ _ _ h => h) ?_ TW ?_
      · refine .inl ⟨rfl, fun W hW => ?_⟩
        obtain ⟨q1, q2, q3⟩ := hW
        go_simp
      (try simp only [Act.put, List.setIfInBounds_toArray, List.set_cons_zero, List.set_cons_succ])
      refine Zed.take (i := 8) (v := .int .i64 (y : Int)) rfl (by kernel_rfl) rfl (by kernel_rfl) (by kernel_rfl) (by kernel_rfl) (fun _ _ _ h => h) ?_ TW ?_
      · refine .inl ⟨rfl, fun W hW => ?_⟩
        obtain ⟨q1, q2, q3⟩ := hW
        go_simp
      (try simp only [Act.put, List.setIfInBounds_toArray, List.set_cons_zero, List.set_cons_succ])
      refine Zed.take (i := 9) (v := .int .i64 ((N : Int) - 1 - (k : Int) + (y : Int))) rfl (by kernel_rfl) rfl (by kernel_rfl) (by kernel_rfl) (by kernel_rfl) (fun _ _ _ h => h) ?_ TW ?_
      · refine .inl ⟨rfl, fun W hW => ?_⟩
        obtain ⟨q1, q2, q3⟩ := hW
        go_simp
      (try simp only [Act.put, List.setIfInBounds_toArray, List.set_cons_zero, List.set_cons_succ])
      refine Zed.take (i := 10) (v := .slice (some ad) N c) rfl (by kernel_rfl) rfl (by kernel_rfl) (by kernel_rfl) (by kernel_rfl) (fun _ _ _ h => h) ?_ TW ?_
      · refine .inl ⟨rfl, fun W hW => ?_⟩
        obtain ⟨q1, q2, q3⟩ := hW
        go_simp
      (try simp only [Act.put, List.setIfInBounds_toArray, List.set_cons_zero, List.set_cons_succ])
      refine Zed.take (i := 11) (v := .int .i64 (N : Int)) rfl (by kernel_rfl) rfl (by kernel_rfl) (by kernel_rfl) (by kernel_rfl) (fun _ _ _ h => h) ?_ TW ?_
      · refine .inl ⟨rfl, fun W hW => ?_⟩
        obtain ⟨q1, q2, q3⟩ := hW
        go_simp
      (try simp only [Act.put, List.setIfInBounds_toArray, List.set_cons_zero, List.set_cons_succ])
      refine Zed.take (i := 12) (v := .int .i64 (z : Int)) rfl (by kernel_rfl) rfl (by kernel_rfl) (by kernel_rfl) (by kernel_rfl) (fun _ _ _ h => h) ?_ TW ?_
      · refine .inl ⟨rfl, fun W hW => ?_⟩
        obtain ⟨q1, q2, q3⟩ := hW
        go_simp
      (try simp only [Act.put, List.setIfInBounds_toArray, List.set_cons_zero, List.set_cons_succ])
      refine Zed.take (i := 13) (v := .pointer (some (ad.add z))) rfl (by kernel_rfl) rfl (by kernel_rfl) (by kernel_rfl) (by kernel_rfl) (fun _ _ _ h => h) ?_ TW ?_
      · refine .inl ⟨rfl, fun W hW => ?_⟩
        obtain ⟨q1, q2, q3⟩ := hW
        go_simp
      (try simp only [Act.put, List.setIfInBounds_toArray, List.set_cons_zero, List.set_cons_succ])
      refine Zed.take (i := 14) (v := .int .u64 (x2 : Int)) rfl (by kernel_rfl) rfl (by kernel_rfl) (by kernel_rfl) (by kernel_rfl) (fun _ _ _ h => h) ?_ TW ?_
      · refine .inl ⟨rfl, fun W hW => ?_⟩
        obtain ⟨q1, q2, q3⟩ := hW
        go_simp
      (try simp only [Act.put, List.setIfInBounds_toArray, List.set_cons_zero, List.set_cons_succ])
      refine Zed.step (i := 15) (by kernel_rfl) rfl rfl (fun K hK => ?_)
      go_simp
      refine (hB _).mono ?_
      rintro e v2 ⟨rfl, B4⟩
      have hcell2 := (cell_keep hcell B4 : _)
      have R2 := R'.below B4
      refine hK _ _ ⟨.inr ⟨R2.r.kb.c0, R2.r.kb.c1, hcell2⟩, ?_⟩
      clear hK K TW R' B4 hcell hcell2 hB
      (try simp only [Act.put, List.setIfInBounds_toArray, List.set_cons_zero, List.set_cons_succ])
      have y0 := R2.r.kb.c0
      have y1 := R2.r.kb.c1
      have f0 := R2.r.kb.f0
      have f1 := R2.r.kb.f1
      refine Zed.step (i := 16) (by kernel_rfl) rfl rfl (fun K hK => ?_)
      go_simp
      refine hK _ _ ⟨.inl rfl, Zed.done (by kernel_rfl) ?_ _⟩
      clear hK K y0 y1 f0 f1
      (try simp only [Act.put, List.setIfInBounds_toArray, List.set_cons_zero, List.set_cons_succ])
      have R11 := R2.setb m2 g2
      obtain ⟨wz, hW⟩ : ∃ W, S10.put v2 gb m2 g2 = W := ⟨_, rfl⟩
      rw [hW] at R11
      unfold S10.put at hW
      rw [hW]
      clear hW R2
      clear hrem hremt wr0 wr1 wr2 wr3
      have a0 := R11.r.ka.c0
      have a1 := R11.r.ka.c1
      have d0 := R11.kc.c0
      have d1 := R11.kc.c1
      have hlt2 : ¬ (n2 < n) := by omega
      have RR := R11.r
      clear R11
      cases f with
      | true =>
        have hf2 := hff rfl
        subst hf2
        clear hff
        go_wp2_with fail
        refine (hR _).mono ?_
        rintro e w7 ⟨rfl, B7⟩
        have R12 := RR.below B7
        clear RR B7 a0 a1 d0 d1
        go_wp2
        go_roundw
        case rel => exact ⟨k + 1, n2, m2, true, g2, by go_num, by omega, HI2, HJ2, R12⟩
        case measure => first | go_num | (simp [intOf]; omega)
      | false =>
        clear hff
        go_wp2_with fail
        refine (hR _).mono ?_
        rintro e w7 ⟨rfl, B7⟩
        have R12 := RR.below B7
        clear RR B7 a0 a1 d0 d1
        go_wp2
        go_roundw
        case rel => exact ⟨k + 1, n2, m2, f2, g2, by go_num, by omega, HI2, HJ2, R12⟩
        case measure => first | go_num | (simp [intOf]; omega)
    · have hkn : k = N := by omega
      subst hkn
      have I2 : Is (tot l) n f := by have := I.out; rwa [List.take_of_length_le (by rw [HN.out]; exact Nat.le_refl _)] at this
      have J2 : Is (tot l) m g := by have := J.out; rwa [List.take_of_length_le (by rw [back_len, HN.out]; exact Nat.le_refl _), back_tot] at this
      obtain ⟨e1, e2⟩ := I2.same J2
      subst e1 e2
      clear I J I2 J2
      have a0 := R.ka.c0
      have a1 := R.ka.c1
      have d0 := R.kb.c0
      have d1 := R.kb.c1
      have bel := HB.out.trans (R.bel.mono HB.out.size)
      clear R
      go_wp2
      go_ret
      exact ⟨rfl, bel⟩
end Go.Proofs.Ytandphbjhggnaaa.S10
