/-
  The walk of SatSmall (written by gen10/law_small.py).
-/
import Derived.Test.YtandphbjhggnaaaS10LawOrder
import Derived.Deep.RegionHeld3
set_option linter.unusedSimpArgs false
set_option linter.unusedVariables false
namespace Go.Proofs.Ytandphbjhggnaaa.S10
open Go.RowKit Go.Lib Go.Proofs.Ytandphbjhggnaaa.Wd Go.Proofs.Ytandphbjhggnaaa.P06

/-- a slice of numbers of 16 bits -/
def Hs (w : World) (A : Option Addr) (c : Nat) (l : List Nat) : Prop := Rd 1 w A l.length c (l.map fun (x : Nat) => Value.int .u16 (x : Int)) ∧ ∀ x ∈ l, (x : Int) ≤ 65535
theorem Hs.below {w w' : World} {A : Option Addr} {c : Nat} {l : List Nat} (h : Hs w A c l) (hb : Below w.heap.size w w') : Hs w' A c l := ⟨Rd.below h.1 hb, h.2⟩
theorem Hs.get {w : World} {A : Option Addr} {c : Nat} {l : List Nat} (h : Hs w A c l) {k : Nat} (hk : k < l.length) : ∃ ad, A = some ad ∧ w.cell? (ad.add k) = some (.int .u16 (l[k] : Int)) ∧ (l[k] : Int) ≤ 65535 := by
  obtain ⟨ad, u, hA, hu, hc⟩ := Rd.get h.1 hk
  simp only [List.getElem?_map, List.getElem?_eq_getElem hk, Option.map_some, Option.some.injEq] at hu
  subst hu
  exact ⟨ad, hA, hc, h.2 _ (List.getElem_mem hk)⟩
theorem Hs.of_row {w : World} {A : Option Addr} {c : Nat} {zs : List Int} {n : Nat} (h : (A = none ∧ n = 0 ∧ c = 0 ∧ zs = []) ∨
    ∃ x, A = some x ∧ n ≤ c ∧ c ≤ maxLen ∧ zs.length = c ∧ (∀ i, i < zs.length → w.cell? (x.add i) = some (.int .u16 (zs.getD i 0))) ∧ ∀ y ∈ zs, (Lit.int .u16 y).wf = true) :
    ∃ l : List Nat, l.length = n ∧ Hs w A c l := by
  rcases h with ⟨rfl, rfl, rfl, rfl⟩ | ⟨x, rfl, hnc, hc, hz, hcell, hwf⟩
  · exact ⟨[], rfl, Rd.nil 1 w, by simp⟩
  · have hb : ∀ i, i < n → 0 ≤ zs.getD i 0 ∧ zs.getD i 0 ≤ 65535 := by
      intro i hi
      have hm : zs.getD i 0 ∈ zs := by
        rw [List.getD_eq_getElem?_getD, List.getElem?_eq_getElem (by omega)]
        exact List.getElem_mem _
      have := hwf _ hm
      simpa [Lit.wf, IntKind.min, IntKind.max, IntKind.signed, IntKind.bits] using this
    refine ⟨(List.range n).map fun i => (zs.getD i 0).toNat, by simp, ⟨by simp, (fun e => by cases e), by simpa using hnc, hc, fun ad ha i u hu => ?_⟩, fun y hy => ?_⟩
    · injection ha with ha
      subst ha
      simp only [List.map_map, List.getElem?_map, Option.map_eq_some_iff] at hu
      obtain ⟨j, hj, rfl⟩ := hu
      obtain ⟨hi, rfl⟩ := List.getElem?_eq_some_iff.1 hj
      simp only [List.length_range] at hi
      simp only [List.getElem_range, Function.comp]
      rw [hcell i (by omega)]
      have := hb i hi
      rw [Int.toNat_of_nonneg this.1]
    · simp only [List.mem_map, List.mem_range] at hy
      obtain ⟨i, hi, rfl⟩ := hy
      have := hb i hi
      omega
theorem field1 (n : Int) (f : Bool) (w : World) : (Instr.field 28 (ct n f) 1).run Try.prog w = .ok (.bool f) w := by kernel_rfl
theorem Is.sm {s : Int} (h0 : 0 ≤ s) (h1 : s ≤ 9223372036854775807) : Is s s false := ⟨h0, h0, h1, fun _ => rfl, fun e => by cases e⟩
theorem Is.fl {s : Int} (h : 9223372036854775807 < s) : Is s 9223372036854775807 true := ⟨by omega, by omega, by omega, (fun e => by cases e), fun _ => ⟨rfl, h⟩⟩

set_option maxRecDepth 20000 in
set_option maxHeartbeats 4000000 in
theorem small_law (A : Option Addr) (c N : Nat) (l : List Nat) (n : Int) (w : World) (ha : Hs w A c l) (hN : l.length = N) (n0 : 0 ≤ n) (n1 : n ≤ 18446744073709551615) :
    Calls Try.prog 6 #[.slice A N c, .int .u64 n] w fun e w' => e = .returned (.bool true) ∧ Below w.heap.size w w' := by
  have b0 := Below.refl w.heap.size w
  have mixed : Try.prog.follows .mixedOrders = true := by kernel_rfl
  have HN := Lib.hid hN
  clear hN
  have hE1 := fun W => add_at 9223372036854775807 9223372036854775807 0 9223372036854775807 false false W (Is.sm (by omega) (by omega)) (by omega) (by omega) (Is.sm (by omega) (by omega))
  have hE2 := fun W => add_at 9223372036854775807 9223372036854775807 1 9223372036854775807 false true W (Is.sm (by omega) (by omega)) (by omega) (by omega) (Is.fl (by omega))
  have hE3 := fun W => right_at 9223372036854775807 false true W (by simp [S10.right])
  have hE4 := fun W => join_at 9223372036854775807 9223372036854775807 9223372036854775807 9223372036854775807 9223372036854775807 false false true W (Is.sm (by omega) (by omega)) (Is.sm (by omega) (by omega)) (Is.fl (by omega))
  have HE1 := Lib.hid hE1
  have HE2 := Lib.hid hE2
  have HE3 := Lib.hid hE3
  have HE4 := Lib.hid hE4
  clear hE1 hE2 hE3 hE4
  go_enter Try.func6, Try.ntmps6
  go_wp2_with fail
  refine (alive_any _).mono ?_
  rintro e w1 ⟨rfl, b1⟩
  replace b0 := b0.trans (b1.mono b0.size)
  clear b1
  by_cases h2 : (200 : Int) < (N : Int)
  · go_wp2
    go_ret
    exact ⟨rfl, b0⟩
  have ha1 := ha.below b0
  have HB := Lib.hid b0
  clear ha b0
  have C0 : Cb (w1.alloc (.cells (cb 0 false) 28)) w1.heap.size 0 false := Cb.new w1 0 false
  have B0 : Below w1.heap.size w1 (w1.alloc (.cells (cb 0 false) 28)) := by go_grown
  go_wp2
  generalize w1.alloc (.cells (cb 0 false) 28) = w5 at *
  obtain ⟨ga, hga⟩ : ∃ g, w1.heap.size = g := ⟨_, rfl⟩
  have hgw : w1.heap.size ≤ ga := by omega
  rw [hga] at C0 ⊢
  clear hga
  go_loopw [5, 7] (fun u v wr => ∃ (k : Nat) (s : Int), u = .int .u64 s ∧ v = .int .i64 (k : Int) ∧ k ≤ N ∧ 0 ≤ s ∧ s ≤ 65535 * k ∧ Cb wr ga s false ∧ Below w1.heap.size w1 wr) (fun _ v _ => N - (intOf v).toNat)
  case atStart => exact ⟨0, 0, rfl, rfl, by omega, by omega, by omega, C0, B0⟩
  case round =>
    clear C0 B0
    obtain ⟨k, s, rfl, rfl, hk, s0, s1, C, B⟩ := hrel
    by_cases hlt : k < N
    · have hkl : k < l.length := by rw [HN.out]; exact hlt
      have hltz : (k : Int) < (N : Int) := by omega
      obtain ⟨ad, hAd, hcell, hx⟩ := (ha1.below B).get hkl
      subst hAd
      generalize l[k] = x at hcell hx
      have hA := fun W => add_at s s (x : Int) (s + x) false false W (Is.sm s0 (by omega)) (by omega) (by omega) (Is.sm (by omega) (by omega))
      have e1 : IntKind.u64.wrap (x : Int) = (x : Int) := IntWalk.u64_in _ (by omega)
      have e2 : IntKind.u64.wrap (s + (x : Int)) = s + (x : Int) := IntWalk.u64_in _ (by omega)
      go_wp2_with fail
      have C' := C.drew
      have B' := B.drew
      replace hcell : wr.drew.cell? (ad.add k) = some (.int .u16 (x : Int)) := hcell
      have TW : _ ∧ _ ∧ _ := ⟨C'.c0, C'.c1, hcell⟩
      clear C B
      refine wp_zed (S := fun w' => w'.cell? ⟨ga, 0, none⟩ = some (.int .u64 s) ∧ w'.cell? ⟨ga, 1, none⟩ = some (.bool false) ∧ w'.cell? (ad.add k) = some (.int .u16 (x : Int))) (z := 7) mixed ?_
      refine Zed.take (i := 0) (v := ct s false) rfl (by kernel_rfl) rfl (by kernel_rfl) (by kernel_rfl) (by kernel_rfl) (fun _ _ _ h => h) ?_ TW ?_
      · refine .inl ⟨rfl, fun W hW => ?_⟩
        obtain ⟨q1, q2, q3⟩ := hW
        go_simp
      (try simp only [Act.put, List.setIfInBounds_toArray, List.set_cons_zero, List.set_cons_succ])
      refine Zed.take (i := 1) (v := .slice (some ad) N c) rfl (by kernel_rfl) rfl (by kernel_rfl) (by kernel_rfl) (by kernel_rfl) (fun _ _ _ h => h) ?_ TW ?_
      · refine .inl ⟨rfl, fun W hW => ?_⟩
        obtain ⟨q1, q2, q3⟩ := hW
        go_simp
      (try simp only [Act.put, List.setIfInBounds_toArray, List.set_cons_zero, List.set_cons_succ])
      refine Zed.take (i := 2) (v := .int .i64 (k : Int)) rfl (by kernel_rfl) rfl (by kernel_rfl) (by kernel_rfl) (by kernel_rfl) (fun _ _ _ h => h) ?_ TW ?_
      · refine .inl ⟨rfl, fun W hW => ?_⟩
        obtain ⟨q1, q2, q3⟩ := hW
        go_simp
      (try simp only [Act.put, List.setIfInBounds_toArray, List.set_cons_zero, List.set_cons_succ])
      refine Zed.take (i := 3) (v := .pointer (some (ad.add k))) rfl (by kernel_rfl) rfl (by kernel_rfl) (by kernel_rfl) (by kernel_rfl) (fun _ _ _ h => h) ?_ TW ?_
      · refine .inl ⟨rfl, fun W hW => ?_⟩
        obtain ⟨q1, q2, q3⟩ := hW
        go_simp
      (try simp only [Act.put, List.setIfInBounds_toArray, List.set_cons_zero, List.set_cons_succ])
      refine Zed.take (i := 4) (v := .int .u16 (x : Int)) rfl (by kernel_rfl) rfl (by kernel_rfl) (by kernel_rfl) (by kernel_rfl) (fun _ _ _ h => h) ?_ TW ?_
      · refine .inl ⟨rfl, fun W hW => ?_⟩
        obtain ⟨q1, q2, q3⟩ := hW
        go_simp
      (try simp only [Act.put, List.setIfInBounds_toArray, List.set_cons_zero, List.set_cons_succ])
      refine Zed.take (i := 5) (v := .int .u64 (x : Int)) rfl (by kernel_rfl) rfl (by kernel_rfl) (by kernel_rfl) (by kernel_rfl) (fun _ _ _ h => h) ?_ TW ?_
      · refine .inl ⟨rfl, fun W hW => ?_⟩
        obtain ⟨q1, q2, q3⟩ := hW
        go_simp
      (try simp only [Act.put, List.setIfInBounds_toArray, List.set_cons_zero, List.set_cons_succ])
      refine Zed.step (i := 6) (by kernel_rfl) rfl rfl (fun K hK => ?_)
      go_simp
      refine (hA _).mono ?_
      rintro e v2 ⟨rfl, B4⟩
      have hcell2 := cell_keep hcell B4
      have C2 := C'.below B4
      have B2 := B'.trans (B4.mono B'.size)
      refine hK _ _ ⟨.inr ⟨C2.c0, C2.c1, hcell2⟩, ?_⟩
      clear hK K TW C' B' B4 hcell hcell2 hA
      (try simp only [Act.put, List.setIfInBounds_toArray, List.set_cons_zero, List.set_cons_succ])
      have y0 := C2.c0
      have y1 := C2.c1
      have f0 := C2.f0
      have f1 := C2.f1
      refine Zed.step (i := 7) (by kernel_rfl) rfl rfl (fun K hK => ?_)
      go_simp
      refine hK _ _ ⟨.inl rfl, Zed.done (by kernel_rfl) ?_ _⟩
      clear hK K y0 y1 f0 f1
      (try simp only [Act.put, List.setIfInBounds_toArray, List.set_cons_zero, List.set_cons_succ])
      have C3 := C2.put (s + (x : Int)) false
      have B3 := below_put B2 hgw (s + (x : Int)) false
      obtain ⟨wz, hW⟩ : ∃ W, S10.put v2 ga (s + (x : Int)) false = W := ⟨_, rfl⟩
      rw [hW] at C3 B3
      unfold S10.put at hW
      rw [hW]
      clear hW C2 B2
      go_wp2
      go_roundw
      case rel => exact ⟨k + 1, s + x, rfl, by go_num, by omega, by omega, by omega, C3, B3⟩
      case measure => first | go_num | (simp [intOf]; omega)
    · have hkn : k = N := by omega
      subst hkn
      have c0 := C.c0
      have c1 := C.c1
      obtain ⟨n2, f2, I⟩ := Is.of n n0
      have hD := fun W => add_at 0 0 n n2 false f2 W Is.zero n0 n1 (by rw [Int.zero_add]; exact I)
      have HI := Lib.hid I
      have BB := HB.out.trans (B.mono HB.out.size)
      clear I
      go_wp2_with fail
      refine (hD _).mono ?_
      rintro e w6 ⟨rfl, b6⟩
      replace BB := BB.trans (b6.mono BB.size)
      clear b6 hD B C c0 c1
      have arm : ∀ (n3 : Int) (f3 : Bool), Cb (((w6.alloc (.cells (cb n3 f3) 28)).alloc (.cells (cb 9223372036854775807 false) 28)).drew) (w6.heap.size + 1) 9223372036854775807 false := fun n3 f3 => (second (by simp) (Below.refl _ _)).drew
      have brm : ∀ (n3 : Int) (f3 : Bool), Below w.heap.size w (((w6.alloc (.cells (cb n3 f3) 28)).alloc (.cells (cb 9223372036854775807 false) 28)).drew) := fun n3 f3 => ((BB.alloc BB.size _).alloc (by have := BB.size; simp; omega) _).drew
      by_cases hn : 9223372036854775807 < n
      · obtain ⟨e1, e2⟩ := HI.out.over hn
        subst e1 e2
        go_wp2_with fail
        have hE1 := HE1.out
        have hE2 := HE2.out
        have hE3 := HE3.out
        have hE4 := HE4.out
        have hF := fun W => field1 9223372036854775807 true W
        have K0 := arm 9223372036854775807 true
        have Z0 := brm 9223372036854775807 true
        clear arm brm
        go_region_held3 (fun w' => w'.cell? ⟨w6.heap.size + 1, 0, none⟩ = some (.int .u64 9223372036854775807) ∧ w'.cell? ⟨w6.heap.size + 1, 1, none⟩ = some (.bool false))
          (first | exact ⟨K4.c0, K4.c1⟩ | exact ⟨K3.c0, K3.c1⟩ | exact ⟨K2.c0, K2.c1⟩ | exact ⟨K1.c0, K1.c1⟩ | exact ⟨K0.c0, K0.c1⟩ | go_keep)
          (first
            | (go_at_call 12; (with_reducible refine (hE1 _).mono ?_); rintro e v1 ⟨rfl, B1⟩; have K1 := K0.below B1; have Z1 := Z0.trans (B1.mono Z0.size))
            | (go_at_call 12; (with_reducible refine (hE2 _).mono ?_); rintro e v2 ⟨rfl, B2⟩; have K2 := K1.below B2; have Z2 := Z1.trans (B2.mono Z1.size))
            | (go_at_call 11; (with_reducible refine (hE3 _).mono ?_); rintro e v3 ⟨rfl, B3⟩; have K3 := K2.below B3; have Z3 := Z2.trans (B3.mono Z2.size))
            | (go_at_call 10; (with_reducible refine (hE4 _).mono ?_); rintro e v4 ⟨rfl, B4⟩; have K4 := K3.below B4; have Z4 := Z3.trans (B4.mono Z3.size)))
        go_wp2
        go_ret
        exact ⟨rfl, Z4⟩
      · obtain ⟨e1, e2⟩ := HI.out.under (by omega)
        subst e1 e2
        go_wp2_with fail
        have hE1 := HE1.out
        have hE2 := HE2.out
        have hE3 := HE3.out
        have hE4 := HE4.out
        have hF := fun W => field1 9223372036854775807 true W
        have K0 := arm n2 false
        have Z0 := brm n2 false
        clear arm brm
        go_region_held3 (fun w' => w'.cell? ⟨w6.heap.size + 1, 0, none⟩ = some (.int .u64 9223372036854775807) ∧ w'.cell? ⟨w6.heap.size + 1, 1, none⟩ = some (.bool false))
          (first | exact ⟨K4.c0, K4.c1⟩ | exact ⟨K3.c0, K3.c1⟩ | exact ⟨K2.c0, K2.c1⟩ | exact ⟨K1.c0, K1.c1⟩ | exact ⟨K0.c0, K0.c1⟩ | go_keep)
          (first
            | (go_at_call 12; (with_reducible refine (hE1 _).mono ?_); rintro e v1 ⟨rfl, B1⟩; have K1 := K0.below B1; have Z1 := Z0.trans (B1.mono Z0.size))
            | (go_at_call 12; (with_reducible refine (hE2 _).mono ?_); rintro e v2 ⟨rfl, B2⟩; have K2 := K1.below B2; have Z2 := Z1.trans (B2.mono Z1.size))
            | (go_at_call 11; (with_reducible refine (hE3 _).mono ?_); rintro e v3 ⟨rfl, B3⟩; have K3 := K2.below B3; have Z3 := Z2.trans (B3.mono Z2.size))
            | (go_at_call 10; (with_reducible refine (hE4 _).mono ?_); rintro e v4 ⟨rfl, B4⟩; have K4 := K3.below B4; have Z4 := Z3.trans (B4.mono Z3.size)))
        go_wp2
        go_ret
        exact ⟨rfl, Z4⟩
end Go.Proofs.Ytandphbjhggnaaa.S10
