/-
  The walk of SatSums.
-/
import Derived.Test.YtandphbjhggnaaaS10LawRight
set_option linter.unusedSimpArgs false
set_option linter.unusedVariables false
namespace Go.Proofs.Ytandphbjhggnaaa.S10
open Go.RowKit Go.Lib Go.Proofs.Ytandphbjhggnaaa.Wd Go.Proofs.Ytandphbjhggnaaa.P06

theorem Us.take {w : World} {A : Option Addr} {c : Nat} {l : List Nat} (h : Us w A c l) (k : Nat) (hk : k ≤ l.length) : Us w A c (l.take k) := by
  have hl : (l.take k).length = k := by simp; omega
  refine ⟨⟨by simp, fun ha => ⟨by have := (h.1.none_ ha).1; omega, (h.1.none_ ha).2⟩, by rw [hl]; exact Nat.le_trans hk h.1.cap, h.1.max, fun ad ha i u hu => ?_⟩, fun x hx => h.2 x (List.mem_of_mem_take hx)⟩
  refine h.1.at_ ad ha i u ?_
  rw [List.map_take, List.getElem?_take] at hu
  split at hu
  · exact hu
  · cases hu
theorem Us.drop {w : World} {A : Option Addr} {c : Nat} {l : List Nat} (h : Us w A c l) (k : Nat) (hk : k ≤ l.length) : Us w (cutA A c k) (c - k) (l.drop k) := by
  have hc := h.1.cap
  have hm := h.1.max
  refine ⟨⟨by simp, fun ha => ?_, by simp; omega, by omega, fun ad ha i u hu => ?_⟩, fun x hx => h.2 x (List.mem_of_mem_drop hx)⟩
  · unfold cutA at ha
    split at ha
    · rename_i hck
      exact ⟨by simp; omega, by omega⟩
    · simp only [Option.map_eq_none_iff] at ha
      have := h.1.none_ ha
      exact ⟨by simp; omega, by omega⟩
  · rw [List.map_drop, List.getElem?_drop] at hu
    have hi : k + i < l.length := by
      have := (List.getElem?_eq_some_iff.1 hu).1
      simpa using this
    unfold cutA at ha
    rw [if_neg (by omega)] at ha
    cases hA : A with
    | none => rw [hA] at ha; cases ha
    | some a0 =>
      rw [hA] at ha
      simp only [Option.map_some, Option.some.injEq] at ha
      subst ha
      rw [add_add]
      exact h.1.at_ a0 hA (k + i) u hu

section
variable {w : World} {ga gb : Nat} {n m : Int} {a b : Bool} {L : List Nat} {W : World}
/-- the one that was there and one more -/
theorem StR.mk0 (h : StR w ga gb n a m b [] W) (P : Int) (F : Bool) (hP : P = n) (hF : F = a) : Fin2 w P F ga W.heap.size (W.alloc (.cells #[.int .u64 P, .bool F] 28)) := by
  subst hP hF
  exact ⟨h.ka.old _, Cb.new _ _ _, h.bel.alloc h.bel.size _⟩
theorem StR.mk1 {g : Nat} (h : StR w ga gb n a m b [g] W) (P : Int) (F : Bool) (hP : P = n) (hF : F = a) : Fin2 w P F ga g ((W.setCell ⟨g, 0, none⟩ (.int .u64 P)).setCell ⟨g, 1, none⟩ (.bool F)) := by
  subst hP hF
  have k := h.all g List.mem_cons_self
  have k2 := h.pt0 P F
  exact ⟨k2.ka, k.1.put P F, k2.bel⟩
end
set_option maxRecDepth 20000 in
set_option maxHeartbeats 4000000 in
theorem sums_law (A : Option Addr) (c N : Nat) (l : List Nat) (y : Nat) (w : World) (ha : Us w A c l) (hN : l.length = N) (hy : y ≤ 255) :
    Calls Try.prog 3 #[.slice A N c, .int .u8 (y : Int)] w fun e w' => e = .returned (.bool true) ∧ Below w.heap.size w w' := by
  have b0 := Below.refl w.heap.size w
  have HN := Lib.hid hN
  have hcap : N ≤ c := by have := ha.1.cap; omega
  have hmx : c ≤ 9223372036854775807 := by have := ha.1.max; unfold maxLen at this; omega
  clear hN
  go_enter Try.func3, Try.ntmps3
  go_wp2_with fail
  refine (alive_any _).mono ?_
  rintro e w1 ⟨rfl, b1⟩
  replace b0 := b0.trans (b1.mono b0.size)
  clear b1
  by_cases h2 : (200 : Int) < (N : Int)
  · go_wp2
    go_ret
    exact ⟨rfl, b0⟩
  have ha1 := ha.below b0
  have HB := Lib.hid b0
  clear ha b0
  obtain ⟨n, f, I⟩ := Is.of (tot l) (tot_pos l)
  have hQ := rsum_at A c N l n f w1 ha1 HN.out I
  have hS := sum_at A c N l n f w1 ha1 HN.out I
  obtain ⟨k, hk⟩ : ∃ k, y % (N + 1) = k := ⟨_, rfl⟩
  have hkN : k ≤ N := by have := Nat.mod_lt y (show 0 < N + 1 by omega); omega
  have hrem : (y : Int) % ((N : Int) + 1) = (k : Int) := by rw [← hk, Int.natCast_emod]; rfl
  have hkl : k ≤ l.length := by rw [HN.out]; exact hkN
  obtain ⟨n1, f1, I1⟩ := Is.of (tot (l.take k)) (tot_pos _)
  obtain ⟨n2, f2, I2⟩ := Is.of (tot (l.drop k)) (tot_pos _)
  have hS1 := fun W (hW : Below w1.heap.size w1 W) => sum_at A c k (l.take k) n1 f1 W (Us.take (ha1.below hW) k hkl) (by rw [List.length_take]; omega) I1
  have hS2 := fun W (hW : Below w1.heap.size w1 W) => sum_at (cutA A c k) (c - k) (N - k) (l.drop k) n2 f2 W (Us.drop (ha1.below hW) k hkl) (by rw [List.length_drop, HN.out]) I2
  have hJ := fun W => join_at _ _ n1 n2 n f1 f2 f W I1 I2 (by rw [tot_cut]; exact I)
  have hR := fun W => right_at n f true W I.right
  have wr1 : IntKind.i64.wrap (y : Int) = (y : Int) := by rw [IntKind.wrap_i64]; omega
  have wr2 : IntKind.i64.wrap ((N : Int) + 1) = (N : Int) + 1 := by rw [IntKind.wrap_i64]; omega
  have hnz : ¬ ((N : Int) + 1 = 0) := by omega
  clear I I1 I2 hk hkl
  go_wp2_with fail
  refine hQ.mono ?_
  rintro e w2 ⟨rfl, rfl⟩
  go_wp2_with fail
  refine hS.mono ?_
  rintro e w2 ⟨rfl, b2⟩
  clear hQ hS
  have S9 : StR w1 w2.heap.size w2.heap.size n f n f [] (w2.alloc (.cells (cb n f) 28)) := ⟨Cb.new _ _ _, Cb.new _ _ _, b2.alloc b2.size _, (fun g hg => by cases hg), List.nodup_nil⟩
  go_upto_region 8 with fail
  generalize w2.alloc (.cells (cb n f) 28) = w3 at *
  generalize w2.heap.size = gc at *
  rw [hrem]
  clear hrem hnz wr1 wr2
  go_cut [9] from 28 to 55 (fun u9 wc => ∃ g1, u9 = .pointer (some ⟨g1, 0, none⟩) ∧ Fin2 w1 n f gc g1 wc)
  case first =>
    have S0 := S9.below (below_drew w3)
    have Z1 := S9.al.below (below_drew _)
    clear S9 hR
    by_cases hck : c = k
    · have e1 : cutA A c k = A := by unfold cutA; rw [if_pos hck]
      subst hck
      rw [e1, Nat.sub_self] at hS2
      have hS4 := hS2
      rw [show N - c = 0 by omega] at hS4
      have q1 : (c : Int) ≤ (N : Int) := by omega
      clear e1
      go_region_held3 (fun _ => True) (exact trivial) (first
        | (go_at_call 9; (with_reducible refine (hS1 _ S0.bel).mono ?_); rintro e v1 ⟨rfl, B1⟩; have S1 := S0.below B1)
        | (go_at_call 9; (with_reducible refine (hS1 _ Z1.bel).mono ?_); rintro e v1 ⟨rfl, B1⟩; have S1 := Z1.below B1)
        | (go_at_call 9; (with_reducible refine (hS2 _ S1.bel).mono ?_); rintro e v2 ⟨rfl, B2⟩; have S2 := S1.below B2)
        | (go_at_call 9; (with_reducible refine (hS2 _ S1.al.bel).mono ?_); rintro e v2 ⟨rfl, B2⟩; have S2 := S1.al.below B2)
        | (go_at_call 9; (with_reducible refine (hS4 _ S1.bel).mono ?_); rintro e v2 ⟨rfl, B2⟩; have S2 := S1.below B2)
        | (go_at_call 9; (with_reducible refine (hS4 _ S1.al.bel).mono ?_); rintro e v2 ⟨rfl, B2⟩; have S2 := S1.al.below B2)
        | (go_at_call 10; (with_reducible refine (hJ _).mono ?_); rintro e v3 ⟨rfl, B3⟩; have S3 := S2.below B3; have G3 := S3.got; simp only [Got, Got1, World.size_alloc] at G3)
        | (go_at_call 10; (with_reducible refine (hJ _).mono ?_); rintro e v3 ⟨rfl, B3⟩; have S3 := S2.al.below B3; have G3 := S3.got; simp only [Got, Got1, World.size_alloc] at G3))
      all_goals
        go_wp2_with fail
        go_meet
        case rel =>
          refine ⟨_, rfl, ?_⟩
          first | (with_reducible exact S3.mk0 n f rfl rfl) | (with_reducible exact S3.mk1 n f rfl rfl)
    · have e1 : cutA A c k = A.map (·.add k) := by unfold cutA; rw [if_neg hck]
      rw [e1] at hS2
      have hS4 := hS2
      have q0 : (0 : Int) ≤ (k : Int) := by omega
      have q1 : (k : Int) ≤ (N : Int) := by omega
      have q2 : (k : Int) ≤ (c : Int) := by omega
      have q3 : (k : Int).toNat = k := by omega
      clear e1
      go_region_held3 (fun _ => True) (exact trivial) (first
        | (go_at_call 9; (with_reducible refine (hS1 _ S0.bel).mono ?_); rintro e v1 ⟨rfl, B1⟩; have S1 := S0.below B1)
        | (go_at_call 9; (with_reducible refine (hS1 _ Z1.bel).mono ?_); rintro e v1 ⟨rfl, B1⟩; have S1 := Z1.below B1)
        | (go_at_call 9; (with_reducible refine (hS2 _ S1.bel).mono ?_); rintro e v2 ⟨rfl, B2⟩; have S2 := S1.below B2)
        | (go_at_call 9; (with_reducible refine (hS2 _ S1.al.bel).mono ?_); rintro e v2 ⟨rfl, B2⟩; have S2 := S1.al.below B2)
        | (go_at_call 9; (with_reducible refine (hS4 _ S1.bel).mono ?_); rintro e v2 ⟨rfl, B2⟩; have S2 := S1.below B2)
        | (go_at_call 9; (with_reducible refine (hS4 _ S1.al.bel).mono ?_); rintro e v2 ⟨rfl, B2⟩; have S2 := S1.al.below B2)
        | (go_at_call 10; (with_reducible refine (hJ _).mono ?_); rintro e v3 ⟨rfl, B3⟩; have S3 := S2.below B3; have G3 := S3.got; simp only [Got, Got1, World.size_alloc] at G3)
        | (go_at_call 10; (with_reducible refine (hJ _).mono ?_); rintro e v3 ⟨rfl, B3⟩; have S3 := S2.al.below B3; have G3 := S3.got; simp only [Got, Got1, World.size_alloc] at G3))
      all_goals
        go_wp2_with fail
        go_meet
        case rel =>
          refine ⟨_, rfl, ?_⟩
          first | (with_reducible exact S3.mk0 n f rfl rfl) | (with_reducible exact S3.mk1 n f rfl rfl)
  case rest =>
    clear hS1 hS2 hJ S9
    obtain ⟨g1, rfl, K1, K2, b3⟩ := hcut
    have c0 := K1.c0
    have c1 := K1.c1
    have d0 := K2.c0
    have d1 := K2.c1
    go_wp2_with fail
    refine (hR _).mono ?_
    rintro e w7 ⟨rfl, b7⟩
    replace b3 := b3.trans (b7.mono b3.size)
    clear c0 c1 d0 d1 b7 K1 K2 hR
    go_wp2
    go_ret
    exact ⟨rfl, HB.out.trans (b3.mono HB.out.size)⟩
end Go.Proofs.Ytandphbjhggnaaa.S10
