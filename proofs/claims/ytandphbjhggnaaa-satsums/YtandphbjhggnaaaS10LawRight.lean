/-
  The walk of SatRight.
-/
import Derived.Test.YtandphbjhggnaaaS10LawSmall
import Derived.Deep.CutRange
set_option linter.unusedSimpArgs false
set_option linter.unusedVariables false
namespace Go.Proofs.Ytandphbjhggnaaa.S10
open Go.RowKit Go.Lib Go.Proofs.Ytandphbjhggnaaa.Wd Go.Proofs.Ytandphbjhggnaaa.P06

/-- two counts in their cells, and blocks of zeros made since -/
structure StR (w : World) (ga gb : Nat) (n : Int) (a : Bool) (m : Int) (b : Bool) (L : List Nat) (W : World) : Prop where
  ka : Cb W ga n a
  kb : Cb W gb m b
  bel : Below w.heap.size w W
  all : ∀ g ∈ L, Cb W g 0 false ∧ w.heap.size ≤ g ∧ ga < g ∧ gb < g
  nd : L.Nodup
section
variable {w : World} {ga gb : Nat} {n m : Int} {a b : Bool} {L : List Nat} {W W' : World}
theorem StR.below (h : StR w ga gb n a m b L W) (hb : Below W.heap.size W W') : StR w ga gb n a m b L W' :=
  ⟨h.ka.below hb, h.kb.below hb, h.bel.trans (hb.mono h.bel.size), fun g hg => ⟨(h.all g hg).1.below hb, (h.all g hg).2⟩, h.nd⟩
abbrev zb : Obj := .cells #[.int .u64 0, .bool false] 28
theorem StR.more (h : StR w ga gb n a m b L W) (o : Obj) : StR w ga gb n a m b L (W.alloc o) := h.below ((Below.refl _ _).alloc (Nat.le_refl _) o)
theorem StR.al (h : StR w ga gb n a m b L W) : StR w ga gb n a m b (W.heap.size :: L) (W.alloc zb) :=
  have h2 := h.more zb
  ⟨h2.ka, h2.kb, h2.bel, fun g hg => by
    rcases List.mem_cons.1 hg with rfl | hg
    · exact ⟨Cb.new _ _ _, h.bel.size, h.ka.lt, h.kb.lt⟩
    · exact h2.all g hg, List.nodup_cons.2 ⟨fun hg => by have := (h.all _ hg).1.lt; omega, h.nd⟩⟩
theorem StR.al2 (h : StR w ga gb n a m b L W) : StR w ga gb n a m b ((W.heap.size + 1) :: W.heap.size :: L) ((W.alloc zb).alloc zb) := by
  have k := h.al.al
  rw [World.size_alloc] at k
  exact k
theorem StR.pt0 {g : Nat} (h : StR w ga gb n a m b (g :: L) W) (P : Int) (F : Bool) : StR w ga gb n a m b L (S10.put W g P F) := by
  obtain ⟨h1, h2, h3, h4⟩ := h.all g List.mem_cons_self
  have hn := List.nodup_cons.1 h.nd
  exact ⟨h.ka.other (by omega) P F, h.kb.other (by omega) P F, below_put h.bel h2 P F, fun g' hg => by
    have := h.all g' (List.mem_cons_of_mem _ hg)
    exact ⟨this.1.other (fun e => hn.1 (by rw [e]; exact hg)) P F, this.2⟩, hn.2⟩
theorem StR.pt {g : Nat} (h : StR w ga gb n a m b (g :: L) W) (P : Int) (F : Bool) : StR w ga gb n a m b L ((W.setCell ⟨g, 0, none⟩ (.int .u64 P)).setCell ⟨g, 1, none⟩ (.bool F)) := h.pt0 P F
theorem StR.swap {g g' : Nat} (h : StR w ga gb n a m b (g' :: g :: L) W) : StR w ga gb n a m b (g :: g' :: L) W :=
  ⟨h.ka, h.kb, h.bel, fun x hx => h.all x (by simp only [List.mem_cons] at hx ⊢; rcases hx with h | h | h <;> simp [h]), by
    have := h.nd
    simp only [List.nodup_cons, List.mem_cons, not_or] at this ⊢
    exact ⟨⟨fun e => this.1.1 e.symm, this.2.1⟩, this.1.2, this.2.2⟩⟩
/-- what is known of a block of zeros -/
def Got1 (g : Nat) (W : World) : Prop := W.cell? ⟨g, 0, none⟩ = some (.int .u64 0) ∧ W.cell? ⟨g, 1, none⟩ = some (.bool false) ∧ W.frozen? ⟨g, 0, none⟩ = false ∧ W.frozen? ⟨g, 1, none⟩ = false ∧ g < W.heap.size
def Got : List Nat → World → Prop
  | [], _ => True
  | [g], W => Got1 g W
  | g' :: g :: _, W => Got1 g' W ∧ Got1 g W ∧ ¬ g = g' ∧ ¬ g' = g
theorem StR.got (h : StR w ga gb n a m b L W) : Got L W := by
  have key : ∀ g ∈ L, Got1 g W := fun g hg => by
    have k := (h.all g hg).1
    exact ⟨k.c0, k.c1, k.f0, k.f1, k.lt⟩
  have hn := h.nd
  match L with
  | [] => trivial
  | [g] => exact key g List.mem_cons_self
  | g' :: g :: _ =>
    simp only [List.nodup_cons, List.mem_cons, not_or] at hn
    exact ⟨key g' List.mem_cons_self, key g (List.mem_cons_of_mem _ List.mem_cons_self), fun e => hn.1.1 e.symm, hn.1.1⟩
/-- two equal counts -/
structure Fin2 (w : World) (P : Int) (F : Bool) (g1 g2 : Nat) (W : World) : Prop where
  k1 : Cb W g1 P F
  k2 : Cb W g2 P F
  bel : Below w.heap.size w W
theorem Fin2.swap {P : Int} {F : Bool} {g1 g2 : Nat} (h : Fin2 w P F g1 g2 W) : Fin2 w P F g2 g1 W := ⟨h.k2, h.k1, h.bel⟩
theorem StR.fin0 (h : StR w ga gb n a m b [] W) (P : Int) (F : Bool) : Fin2 w P F W.heap.size (W.heap.size + 1) ((W.alloc (.cells #[.int .u64 P, .bool F] 28)).alloc (.cells #[.int .u64 P, .bool F] 28)) :=
  ⟨(Cb.new W P F).old _, second (by simp) (Below.refl _ _), (h.bel.alloc h.bel.size _).alloc (by have := h.bel.size; simp; omega) _⟩
theorem StR.fin1 {g : Nat} (h : StR w ga gb n a m b [g] W) (P : Int) (F : Bool) : Fin2 w P F g W.heap.size (((W.setCell ⟨g, 0, none⟩ (.int .u64 P)).setCell ⟨g, 1, none⟩ (.bool F)).alloc (.cells #[.int .u64 P, .bool F] 28)) := by
  have k := h.all g List.mem_cons_self
  have c := k.1.put P F
  have b0 := below_put h.bel k.2.1 P F
  have hs := size_put W g P F
  have nw := Cb.new (S10.put W g P F) P F
  rw [hs] at nw
  exact ⟨c.old _, nw, b0.alloc (by rw [hs]; exact h.bel.size) _⟩
theorem StR.fin2 {g g' : Nat} (h : StR w ga gb n a m b [g', g] W) (P : Int) (F : Bool) : Fin2 w P F g g' ((((W.setCell ⟨g, 0, none⟩ (.int .u64 P)).setCell ⟨g, 1, none⟩ (.bool F)).setCell ⟨g', 0, none⟩ (.int .u64 P)).setCell ⟨g', 1, none⟩ (.bool F)) := by
  have k := h.swap.all g List.mem_cons_self
  have k2 := h.swap.pt0 P F
  have k3 := k2.all g' List.mem_cons_self
  have hn := h.nd
  simp only [List.nodup_cons, List.mem_cons, List.not_mem_nil, or_false] at hn
  exact ⟨(k.1.put P F).other hn.1 P F, k3.1.put P F, below_put k2.bel k3.2.1 P F⟩
end
theorem StR.cells {w : World} {ga gb : Nat} {n m : Int} {a b : Bool} {L : List Nat} {W : World} (h : StR w ga gb n a m b L W) :
    W.cell? ⟨ga, 0, none⟩ = some (.int .u64 n) ∧ W.cell? ⟨ga, 1, none⟩ = some (.bool a) ∧ W.cell? ⟨gb, 0, none⟩ = some (.int .u64 m) ∧ W.cell? ⟨gb, 1, none⟩ = some (.bool b) := ⟨h.ka.c0, h.ka.c1, h.kb.c0, h.kb.c1⟩
theorem right_iff {n : Int} {a : Bool} (h0 : 0 ≤ n) : S10.right n a = (decide (n < 9223372036854775808) && (!a || n == 9223372036854775807)) := by
  unfold S10.right
  cases a
  · simp
    omega
  · simp
    omega

set_option maxRecDepth 20000 in
set_option maxHeartbeats 4000000 in
theorem right_law (n m : Int) (a b : Bool) (w : World) (n0 : 0 ≤ n) (n1 : n ≤ 18446744073709551615) (m0 : 0 ≤ m) (m1 : m ≤ 18446744073709551615) :
    Calls Try.prog 5 #[.int .u64 n, .int .u64 m, .bool a, .bool b] w fun e w' => e = .returned (.bool true) ∧ Below w.heap.size w w' := by
  have b0 := Below.refl w.heap.size w
  obtain ⟨p, hp⟩ : ∃ p, S10.right n a = p := ⟨_, rfl⟩
  obtain ⟨q, hq⟩ : ∃ q, S10.right m b = q := ⟨_, rfl⟩
  have hR1 := fun W => right_at n a p W hp
  have hR2 := fun W => right_at m b q W hq
  have HP := Lib.hid hp
  have HQ := Lib.hid hq
  rw [right_iff n0] at hp
  have HP2 := Lib.hid hp
  clear hp hq
  go_enter Try.func5, Try.ntmps5
  go_wp2_with fail
  refine (alive_any _).mono ?_
  rintro e w1 ⟨rfl, b1⟩
  replace b0 := b0.trans (b1.mono b0.size)
  clear b1
  have bs := b0.size
  have K1 : Cb ((w1.alloc (.cells (cb n a) 28)).alloc (.cells (cb m b) 28)) w1.heap.size n a := (Cb.new w1 n a).old _
  have K2 : Cb ((w1.alloc (.cells (cb n a) 28)).alloc (.cells (cb m b) 28)) (w1.heap.size + 1) m b := second (by simp) (Below.refl _ _)
  have b2 : Below w.heap.size w ((w1.alloc (.cells (cb n a) 28)).alloc (.cells (cb m b) 28)) := by go_grown
  go_upto_region 4 with fail
  generalize (w1.alloc (.cells (cb n a) 28)).alloc (.cells (cb m b) 28) = w2 at *
  obtain ⟨ga, hga⟩ : ∃ g, w1.heap.size = g := ⟨_, rfl⟩
  rw [hga] at K1 K2 bs ⊢
  clear hga b0
  obtain ⟨gb, hgb⟩ : ∃ g, ga + 1 = g := ⟨_, rfl⟩
  rw [hgb] at K2 ⊢
  have hgl : ga < gb := by omega
  clear hgb
  have c0 := K1.c0
  have c1 := K1.c1
  go_cut [33] from 21 to 84 (fun u33 wc => u33 = .bool false ∧ Cb wc ga n a ∧ Cb wc gb m b ∧ Below w.heap.size w wc)
  case first =>
    have e1 : a = true ∧ n = 9223372036854775807 ∧ p = true ∨ a = true ∧ (n == 9223372036854775807) = false ∧ ¬ n = 9223372036854775807 ∧ n < 9223372036854775808 ∧ p = false ∨ ¬ n < 9223372036854775808 ∧ p = false ∨ a = false ∧ n < 9223372036854775808 ∧ p = true := by
      have h := HP2.out
      cases a
      · by_cases k : n < 9223372036854775808
        · right; right; right
          simp [k] at h
          exact ⟨rfl, k, h⟩
        · right; right; left
          simp [k] at h
          exact ⟨k, h⟩
      · by_cases k : n < 9223372036854775808
        · by_cases k2 : n = 9223372036854775807
          · left
            simp [k2] at h
            exact ⟨rfl, k2, h⟩
          · right; left
            have k3 : (n == 9223372036854775807) = false := by simp [k2]
            simp [k, k3] at h
            exact ⟨rfl, k3, k2, k, h⟩
        · right; right; left
          simp [k] at h
          exact ⟨k, h⟩
    clear HP HP2
    rcases e1 with ⟨rfl, rfl, rfl⟩ | ⟨rfl, k1, k2, k3, rfl⟩ | ⟨k1, rfl⟩ | ⟨rfl, k1, rfl⟩
    all_goals
      go_wp2_with fail
      refine (hR1 _).mono ?_
      rintro e w3 ⟨rfl, b3⟩
      replace K1 := K1.below b3
      replace K2 := K2.below b3
      replace b2 := b2.trans (b3.mono b2.size)
      clear b3 c0 c1
      go_wp2_with fail
      go_meet
      case rel => exact ⟨rfl, K1, K2, b2⟩
  case rest =>
    clear c0 c1 K1 K2 b2
    obtain ⟨rfl, K1, K2, b2⟩ := hcut
    have c0 := K1.c0
    have c1 := K1.c1
    have d0 := K2.c0
    have d1 := K2.c1
    clear HP2
    cases p with
    | false =>
      go_wp2_with fail
      refine (hR1 _).mono ?_
      rintro e w3 ⟨rfl, b3⟩
      replace b2 := b2.trans (b3.mono b2.size)
      clear K1 K2 b3 c0 c1 d0 d1
      go_wp2
      go_ret
      exact ⟨rfl, b2⟩
    | true =>
      go_wp2_with fail
      refine (hR1 _).mono ?_
      rintro e w3 ⟨rfl, b3⟩
      replace K1 := K1.below b3
      replace K2 := K2.below b3
      replace b2 := b2.trans (b3.mono b2.size)
      clear b3 c0 c1 d0 d1
      have c0 := K1.c0
      have c1 := K1.c1
      have d0 := K2.c0
      have d1 := K2.c1
      cases q with
      | false =>
        go_wp2_with fail
        refine (hR2 _).mono ?_
        rintro e w4 ⟨rfl, b3⟩
        replace b2 := b2.trans (b3.mono b2.size)
        clear K1 K2 b3 c0 c1 d0 d1
        go_wp2
        go_ret
        exact ⟨rfl, b2⟩
      | true =>
        obtain ⟨S, hS⟩ : ∃ S, (if a then n + 1 else n) = S := ⟨_, rfl⟩
        obtain ⟨T, hT⟩ : ∃ T, (if b then m + 1 else m) = T := ⟨_, rfl⟩
        have IS := Is.of_right n0 HP.out
        have IT := Is.of_right m0 HQ.out
        rw [hS] at IS
        rw [hT] at IT
        obtain ⟨P, F, I⟩ := Is.of (S + T) (by have := IS.pos; have := IT.pos; omega)
        have hJ1 := fun W => join_at S T n m P a b F W IS IT I
        have hJ2 := fun W => join_at T S m n P b a F W IT IS (by rw [Int.add_comm]; exact I)
        have hR3 := fun W => right_at P F true W I.right
        have HF : F = true → P = 9223372036854775807 := fun h => (I.great h).1
        have HG : F = false → a = false ∧ b = false ∧ P = n + m ∧ n + m ≤ 9223372036854775807 := fun h => by
          have h1 := I.small h
          have h2 := I.max
          have h3 := IS.pos
          have h4 := IT.pos
          have h5 := IS.great
          have h6 := IT.great
          cases a
          · cases b
            · simp at hS hT
              exact ⟨rfl, rfl, by omega, by omega⟩
            · have := h6 rfl; omega
          · have := h5 rfl; omega
        have H1 := Lib.hid HF
        have H2 := Lib.hid HG
        clear hS hT IS IT I HF HG HP HQ hR1
        go_wp2_with fail
        refine (hR2 _).mono ?_
        rintro e w4 ⟨rfl, b3⟩
        replace K1 := K1.below b3
        replace K2 := K2.below b3
        replace b2 := b2.trans (b3.mono b2.size)
        clear b3 c0 c1 d0 d1 hR2
        go_upto_region 8 with fail
        go_cut [11, 12] from 42 to 84 (fun u11 u12 wc => ∃ g1 g2, u11 = .pointer (some ⟨g1, 0, none⟩) ∧ u12 = .pointer (some ⟨g2, 0, none⟩) ∧ Fin2 w P F g1 g2 wc)
        case first =>
          have S9 : StR w ga gb n a m b [] w4 := ⟨K1, K2, b2, (fun g hg => by cases hg), List.nodup_nil⟩
          have S0 : StR w ga gb n a m b [] w4.drew := S9.below (below_drew w4)
          have Z1 : StR w ga gb n a m b [w4.heap.size] (w4.alloc zb).drew := S9.al.below (below_drew _)
          have Z2 : StR w ga gb n a m b [w4.heap.size + 1, w4.heap.size] ((w4.alloc zb).alloc zb).drew := S9.al2.below (below_drew _)
          clear S9
          clear K1 K2 b2 H1 H2
          go_region_held3 (fun w' => w'.cell? ⟨ga, 0, none⟩ = some (.int .u64 n) ∧ w'.cell? ⟨ga, 1, none⟩ = some (.bool a) ∧ w'.cell? ⟨gb, 0, none⟩ = some (.int .u64 m) ∧ w'.cell? ⟨gb, 1, none⟩ = some (.bool b))
            (first | (with_reducible exact S2.cells) | (with_reducible exact (S2.more _).cells) | (with_reducible exact ((S2.more _).more _).cells) | (with_reducible exact (S2.pt P F).cells) | (with_reducible exact (S2.swap.pt P F).cells) | (with_reducible exact ((S2.pt P F).pt P F).cells) | (with_reducible exact ((S2.swap.pt P F).pt P F).cells) | (with_reducible exact ((S2.pt P F).more _).cells) | (with_reducible exact S1.cells) | (with_reducible exact S1.al.cells) | (with_reducible exact S1.al2.cells) | (with_reducible exact S0.cells) | (with_reducible exact Z1.cells) | (with_reducible exact Z2.cells))
            (first
              | (go_at_call 10; (with_reducible refine (hJ1 _).mono ?_); rintro e v1 ⟨rfl, B1⟩; have S1 := S0.below B1)
              | (go_at_call 10; (with_reducible refine (hJ1 _).mono ?_); rintro e v1 ⟨rfl, B1⟩; have S1 := Z1.below B1)
              | (go_at_call 10; (with_reducible refine (hJ1 _).mono ?_); rintro e v1 ⟨rfl, B1⟩; have S1 := Z2.below B1)
              | (go_at_call 10; (with_reducible refine (hJ2 _).mono ?_); rintro e v2 ⟨rfl, B2⟩; have S2 := S1.below B2; have G2 := S2.got; simp only [Got, Got1, World.size_alloc] at G2)
              | (go_at_call 10; (with_reducible refine (hJ2 _).mono ?_); rintro e v2 ⟨rfl, B2⟩; have S2 := S1.al.below B2; have G2 := S2.got; simp only [Got, Got1, World.size_alloc] at G2)
              | (go_at_call 10; (with_reducible refine (hJ2 _).mono ?_); rintro e v2 ⟨rfl, B2⟩; have S2 := S1.al2.below B2; have G2 := S2.got; simp only [Got, Got1, World.size_alloc] at G2))
          all_goals
            go_wp2_with fail
            go_meet
            case rel =>
              refine ⟨_, _, rfl, rfl, ?_⟩
              first | (with_reducible exact S2.fin0 P F) | (with_reducible exact (S2.fin0 P F).swap) | (with_reducible exact S2.fin1 P F) | (with_reducible exact (S2.fin1 P F).swap) | (with_reducible exact S2.fin2 P F) | (with_reducible exact S2.swap.fin2 P F)
        case rest =>
          clear K1 K2 b2 hJ1 hJ2
          obtain ⟨g1, g2, rfl, rfl, K1, K2, b2⟩ := hcut
          have c0 := K1.c0
          have c1 := K1.c1
          have d0 := K2.c0
          have d1 := K2.c1
          cases F with
          | true =>
            have e1 := H1.out rfl
            subst e1
            clear H1 H2
            go_wp2_with fail
            refine (hR3 _).mono ?_
            rintro e w7 ⟨rfl, b7⟩
            replace b2 := b2.trans (b7.mono b2.size)
            replace K1 := K1.below b7
            clear c0 c1 d0 d1 b7 K2 hR3
            have c0 := K1.c0
            have c1 := K1.c1
            go_wp2
            go_ret
            exact ⟨rfl, b2⟩
          | false =>
            obtain ⟨rfl, rfl, e1, e2⟩ := H2.out rfl
            subst e1
            have e3 : IntKind.u64.wrap (n + m) = n + m := IntWalk.u64_in _ (by omega)
            clear H1 H2
            go_wp2_with fail
            refine (hR3 _).mono ?_
            rintro e w7 ⟨rfl, b7⟩
            replace b2 := b2.trans (b7.mono b2.size)
            replace K1 := K1.below b7
            clear c0 c1 d0 d1 b7 K2 hR3
            have c0 := K1.c0
            have c1 := K1.c1
            go_wp2
            go_ret
            exact ⟨rfl, b2⟩
end Go.Proofs.Ytandphbjhggnaaa.S10
