/-
  The walk of HistPuts.
-/
import Derived.Test.YthggaoobbkflaaaH11Back
import Derived.Deep.CutRange
set_option linter.unusedSimpArgs false
set_option linter.unusedVariables false
namespace Go.Proofs.Ythggaoobbkflaaa.H11
open Go.RowKit Go.Lib Go.Proofs.Ythggaoobbkflaaa.Wd Go.Proofs.Ythggaoobbkflaaa.S10

/-- three histograms, one behind the other -/
structure Q3 (w0 : World) (ph pa pb x0 x1 x2 x3 : Nat) (bs lh la lb : List Nat) (W : World) : Prop where
  h : Hi W ph x0 x1 bs lh
  a : Hi W pa x1 x2 bs la
  b : Hi W pb x2 x3 bs lb
  bel : Below w0.heap.size w0 W
  o0 : w0.heap.size ≤ x0
  o1 : x0 ≤ x1
  o2 : x1 ≤ x2
  o3 : x2 ≤ x3
section
variable {w0 W W' : World} {ph pa pb x0 x1 x2 x3 : Nat} {bs lh la lb m : List Nat}
theorem Q3.below (r : Q3 w0 ph pa pb x0 x1 x2 x3 bs lh la lb W) (hb : Below W.heap.size W W') : Q3 w0 ph pa pb x0 x1 x2 x3 bs lh la lb W' :=
  ⟨r.h.below hb, r.a.below hb, r.b.below hb, r.bel.trans (hb.mono r.bel.size), r.o0, r.o1, r.o2, r.o3⟩
theorem Q3.puth (r : Q3 w0 ph pa pb x0 x1 x2 x3 bs lh la lb W) (h : Hi W' ph x0 x1 bs m) (f : Fx x0 x1 W W') : Q3 w0 ph pa pb x0 x1 x2 x3 bs m la lb W' :=
  ⟨h, r.a.fx f (.inr (Nat.le_refl _)), r.b.fx f (.inr r.o2), r.bel.trans (f.below r.o0 r.bel.size), r.o0, r.o1, r.o2, r.o3⟩
theorem Q3.puta (r : Q3 w0 ph pa pb x0 x1 x2 x3 bs lh la lb W) (h : Hi W' pa x1 x2 bs m) (f : Fx x1 x2 W W') : Q3 w0 ph pa pb x0 x1 x2 x3 bs lh m lb W' :=
  ⟨r.h.fx f (.inl (Nat.le_refl _)), h, r.b.fx f (.inr (Nat.le_refl _)), r.bel.trans (f.below (Nat.le_trans r.o0 r.o1) r.bel.size), r.o0, r.o1, r.o2, r.o3⟩
theorem Q3.putb (r : Q3 w0 ph pa pb x0 x1 x2 x3 bs lh la lb W) (h : Hi W' pb x2 x3 bs m) (f : Fx x2 x3 W W') : Q3 w0 ph pa pb x0 x1 x2 x3 bs lh la m W' :=
  ⟨r.h.fx f (.inl r.o2), r.a.fx f (.inl (Nat.le_refl _)), h, r.bel.trans (f.below (Nat.le_trans (Nat.le_trans r.o0 r.o1) r.o2) r.bel.size), r.o0, r.o1, r.o2, r.o3⟩
theorem Q3.eq (r : Q3 w0 ph pa pb x0 x1 x2 x3 bs lh la lb W) {lh' la' lb' : List Nat} (e1 : lh = lh') (e2 : la = la') (e3 : lb = lb') : Q3 w0 ph pa pb x0 x1 x2 x3 bs lh' la' lb' W := by
  subst e1 e2 e3
  exact r
end
theorem Hi.mono {W : World} {p lo hi lo' hi' : Nat} {bs l : List Nat} (h : Hi W p lo hi bs l) (h1 : lo' ≤ lo) (h2 : hi ≤ hi') : Hi W p lo' hi' bs l := by
  obtain ⟨g, A, c, h, hb⟩ := h
  exact ⟨g, A, c, h, fun k hk => by have := hb k hk; omega⟩
theorem take_min {l : List Nat} {i k : Nat} (h : i < l.length) (hk : i < k) : l.take (min i k) ++ [l[i]] = l.take (min (i + 1) k) := by
  rw [Nat.min_eq_left (by omega), Nat.min_eq_left (by omega), List.take_succ_eq_append_getElem h]
theorem take_min2 {l : List Nat} {i k : Nat} (hk : ¬ i < k) : l.take (min i k) = l.take (min (i + 1) k) := by
  rw [Nat.min_eq_right (by omega), Nat.min_eq_right (by omega)]
theorem drop_min {l : List Nat} {i k : Nat} (hk : i < k) : (l.take i).drop k = (l.take (i + 1)).drop k := by
  rw [List.drop_eq_nil_of_le (by rw [List.length_take]; omega), List.drop_eq_nil_of_le (by rw [List.length_take]; omega)]
theorem drop_min2 {l : List Nat} {i k : Nat} (h : i < l.length) (hk : ¬ i < k) : (l.take i).drop k ++ [l[i]] = (l.take (i + 1)).drop k := by
  rw [List.take_succ_eq_append_getElem h, List.drop_append_of_le_length (by rw [List.length_take]; omega)]
set_option maxRecDepth 20000 in
set_option maxHeartbeats 8000000 in
theorem puts_law (A B D : Option Addr) (c d e0 n N M y : Nat) (bs l ot : List Nat) (w : World) (ha : Us w A c bs) (hb : Us w B d l) (ho : Us w D e0 ot) (hn : bs.length = n) (hN : l.length = N) (hM : ot.length = M) (hy : y ≤ 255) :
    Calls Try.prog 3 #[.slice A n c, .slice B N d, .int .u8 (y : Int), .slice D M e0] w fun e w' => e = .returned (.bool true) ∧ Below w.heap.size w w' := by
  have HN := Lib.hid hN
  have HM := Lib.hid hn
  have HO := Lib.hid hM
  have hNd : N ≤ d := by rw [← hN]; exact hb.1.cap
  have hdm : d ≤ 9223372036854775807 := by have := hb.1.max; unfold maxLen at this; omega
  clear hN hn hM
  go_enter Try.func3, Try.ntmps3
  go_wp2_with fail
  refine (alive_any _).mono ?_
  rintro e w1 ⟨rfl, b0⟩
  by_cases h2 : (60 : Int) < (n : Int)
  · go_wp2
    go_ret
    exact ⟨rfl, b0⟩
  by_cases h3 : (200 : Int) < (N : Int)
  · go_wp2
    go_ret
    exact ⟨rfl, b0⟩
  by_cases h4 : (60 : Int) < (M : Int)
  · go_wp2
    go_ret
    exact ⟨rfl, b0⟩
  have ha1 := ha.below b0
  have hb1 := hb.below b0
  have ho1 := ho.below b0
  have B0 := Lib.hid b0
  clear ha hb ho b0
  have hfew : n ≤ 60 ∧ N ≤ 200 ∧ M ≤ 60 := by omega
  clear h2 h3 h4
  go_wp2_with fail
  refine (new_any A c n bs _ ha1 HM.out).mono ?_
  rintro e w2 (⟨hr, rfl, b2⟩ | ⟨hr, ph, rfl, H1, b2⟩)
  · have B2 := B0.out.trans (b2.mono B0.out.size)
    go_wp2_with fail
    refine (rright_at A c n bs false _ (ha1.below b2) HM.out ⟨fun h => (by cases h), fun h => absurd h hr⟩).mono ?_
    rintro e w3 ⟨rfl, b3⟩
    go_wp2
    go_ret
    exact ⟨rfl, B2.trans (b3.mono B2.size)⟩
  go_wp2_with fail
  refine (rright_at A c n bs true _ (ha1.below b2) HM.out ⟨fun _ => hr, fun _ => rfl⟩).mono ?_
  rintro e w3 ⟨rfl, b3⟩
  have s2 := b2.size
  replace H1 := H1.below b3
  replace b2 := b2.trans (b3.mono b2.size)
  have s3 := b3.size
  clear b3
  go_wp2_with fail
  refine (new_right A c n bs _ (ha1.below b2) HM.out hr).mono ?_
  rintro e w4 ⟨pa, rfl, H2, b4⟩
  replace H1 := H1.below b4
  replace b2 := b2.trans (b4.mono b2.size)
  have s4 := b4.size
  clear b4
  go_wp2_with fail
  refine (new_right A c n bs _ (ha1.below b2) HM.out hr).mono ?_
  rintro e w5 ⟨pb, rfl, H3, b5⟩
  have R0 : Q3 w1 ph pa pb w1.heap.size w3.heap.size w4.heap.size w5.heap.size bs [] [] [] w5 :=
    ⟨(H1.below b5).mono (Nat.le_refl _) s3, H2.below b5, H3, b2.trans (b5.mono b2.size), Nat.le_refl _, Nat.le_trans s2 s3, s4, b5.size⟩
  clear H1 H2 H3 b2 b5 s2 s3 s4
  generalize hx0 : w1.heap.size = x0 at R0
  generalize hx1 : w3.heap.size = x1 at R0
  generalize hx2 : w4.heap.size = x2 at R0
  generalize hx3 : w5.heap.size = x3 at R0
  clear hx0 hx1 hx2 hx3
  obtain ⟨k, hk⟩ : ∃ k, y % (N + 1) = k := ⟨_, rfl⟩
  have hkN : k ≤ N := by have := Nat.mod_lt y (show 0 < N + 1 by omega); omega
  have hrem : (y : Int) % ((N : Int) + 1) = (k : Int) := by rw [← hk, Int.natCast_emod]; rfl
  have hkl : k ≤ l.length := by rw [HN.out]; exact hkN
  have wr1 : IntKind.i64.wrap (y : Int) = (y : Int) := by rw [IntKind.wrap_i64]; omega
  have wr2 : IntKind.i64.wrap ((N : Int) + 1) = (N : Int) + 1 := by rw [IntKind.wrap_i64]; omega
  have hnz : ¬ ((N : Int) + 1 = 0) := by omega
  clear hk
  go_wp2
  rw [hrem]
  clear hrem wr1 wr2 hnz
  go_loopw [16] (fun v wr => ∃ i : Nat, v = .int .i64 (i : Int) ∧ i ≤ N ∧ Q3 w1 ph pa pb x0 x1 x2 x3 bs (l.take i) (l.take (min i k)) ((l.take i).drop k) wr) (fun v _ => N - (intOf v).toNat)
  case atStart => exact ⟨0, rfl, Nat.zero_le _, R0.eq rfl (by simp) (by simp)⟩
  case round =>
    clear R0
    obtain ⟨i, rfl, hi, R⟩ := hrel
    by_cases hlt : i < N
    · have hil : i < l.length := by rw [HN.out]; exact hlt
      have hltz : (i : Int) < (N : Int) := by omega
      obtain ⟨ad, rfl, hcell, hx⟩ := (hb1.below R.bel).get hil
      have hcell1 := fun W (hW : Below w1.heap.size w1 W) => (hb1.below hW).get hil
      have E0 := Lib.hid (List.take_succ_eq_append_getElem hil)
      by_cases hik : i < k
      · have hikz : (i : Int) < (k : Int) := by omega
        have E1 := Lib.hid (take_min hil hik)
        have E2 := Lib.hid (drop_min (l := l) hik)
        generalize l[i] = x at *
        have hP := put_at ph x0 x1 x bs (l.take i) wr R.h hx
        go_wp2_with fail
        refine hP.mono ?_
        rintro e w6 ⟨rfl, H6, F6⟩
        have R6 := R.puth H6 F6
        obtain ⟨ad2, hA2, hcell2, _⟩ := hcell1 _ R6.bel
        injection hA2 with hA2
        subst hA2
        have hP2 := put_at pa x1 x2 x bs _ w6 R6.a hx
        clear hP H6 F6 R hcell hcell1
        go_wp2_with fail
        refine hP2.mono ?_
        rintro e w7 ⟨rfl, H7, F7⟩
        have R7 := (R6.puta H7 F7).eq E0.out.symm E1.out E2.out
        clear hP2 H7 F7 R6 hcell2 E0 E1 E2
        go_wp2
        go_roundw
        case rel => exact ⟨i + 1, by go_num, by omega, R7⟩
        case measure => first | go_num | (simp [intOf]; omega)
      · have hikz : ¬ (i : Int) < (k : Int) := by omega
        have E1 := Lib.hid (take_min2 (l := l) hik)
        have E2 := Lib.hid (drop_min2 hil hik)
        generalize l[i] = x at *
        have hP := put_at ph x0 x1 x bs (l.take i) wr R.h hx
        go_wp2_with fail
        refine hP.mono ?_
        rintro e w6 ⟨rfl, H6, F6⟩
        have R6 := R.puth H6 F6
        obtain ⟨ad2, hA2, hcell2, _⟩ := hcell1 _ R6.bel
        injection hA2 with hA2
        subst hA2
        have hP2 := put_at pb x2 x3 x bs _ w6 R6.b hx
        clear hP H6 F6 R hcell hcell1
        go_wp2_with fail
        refine hP2.mono ?_
        rintro e w7 ⟨rfl, H7, F7⟩
        have R7 := (R6.putb H7 F7).eq E0.out.symm E1.out E2.out
        clear hP2 H7 F7 R6 hcell2 E0 E1 E2
        go_wp2
        go_roundw
        case rel => exact ⟨i + 1, by go_num, by omega, R7⟩
        case measure => first | go_num | (simp [intOf]; omega)
    · have hiN : i = N := by omega
      subst hiN
      have R1 := R.eq (lh' := l) (la' := l.take k) (lb' := l.drop k) (List.take_of_length_le (by rw [HN.out]; exact Nat.le_refl _)) (by rw [Nat.min_eq_right hkN]) (by rw [List.take_of_length_le (by rw [HN.out]; exact Nat.le_refl _)])
      clear R hlt hi
      --end of the loop
      have sh1 : ∀ W p lo hi, Hi W p lo hi bs (l.take k) → Below w1.heap.size w1 W → Calls Try.prog 10 #[.pointer (some ⟨p, 0, none⟩), .slice A n c, .slice B k d] W fun e w' => e = .returned (.bool true) ∧ Below W.heap.size W w' := fun W p lo hi h hW =>
        shows_at p lo hi A B c d n k bs (l.take k) W h (ha1.below hW) (Us.take (hb1.below hW) k hkl) HM.out (by rw [List.length_take]; omega) (by omega)
      have sh2 : ∀ W p lo hi, Hi W p lo hi bs (l.drop k) → Below w1.heap.size w1 W → Calls Try.prog 10 #[.pointer (some ⟨p, 0, none⟩), .slice A n c, .slice (cutA B d k) (i - k) (d - k)] W fun e w' => e = .returned (.bool true) ∧ Below W.heap.size W w' := fun W p lo hi h hW =>
        shows_at p lo hi A (cutA B d k) c (d - k) n (i - k) bs (l.drop k) W h (ha1.below hW) (Us.drop (hb1.below hW) k hkl) HM.out (by rw [List.length_drop, HN.out]) (by omega)
      have sh3 : ∀ W p lo hi, Hi W p lo hi bs l → Below w1.heap.size w1 W → Calls Try.prog 10 #[.pointer (some ⟨p, 0, none⟩), .slice A n c, .slice B i d] W fun e w' => e = .returned (.bool true) ∧ Below W.heap.size W w' := fun W p lo hi h hW =>
        shows_at p lo hi A B c d n i bs l W h (ha1.below hW) (hb1.below hW) HM.out HN.out (by omega)
      have hNew : ∀ W, Below w1.heap.size w1 W → Calls Try.prog 7 #[.slice D M e0] W (NewOut ot W) := fun W hW => new_any D e0 M ot W (ho1.below hW) HO.out
      have hne : ¬ M = n → bs ≠ ot := fun h e => h (by rw [← HO.out, ← HM.out, e])
      have Hne := Lib.hid hne
      have q0 : (0 : Int) ≤ (k : Int) := by omega
      have q1 : (k : Int) ≤ (i : Int) := by omega
      have q2 : (k : Int) ≤ (d : Int) := by omega
      have q3 : (k : Int).toNat = k := by omega
      clear hne ha1 hb1 ho1 hkl
      by_cases hdk : d = k
      · have e1 : cutA B d k = B := by unfold cutA; rw [if_pos hdk]
        rw [e1] at sh2
        subst hdk
        rw [Nat.sub_self, show i - d = 0 by omega] at sh2
        clear e1
        go_wp2_with fail
        refine (sh1 _ pa x1 x2 R1.a R1.bel).mono ?_
        rintro e w6 ⟨rfl, bb⟩
        have R2 := R1.below bb
        clear bb R1
        go_wp2_with fail
        refine (sh2 _ pb x2 x3 R2.b R2.bel).mono ?_
        rintro e w7 ⟨rfl, bb⟩
        have R3 := R2.below bb
        clear bb R2
        go_wp2_with fail
        refine (join_right pa pb x1 x2 x2 x3 bs (l.take d) (l.drop d) _ R3.a R3.b (.inl (Nat.le_refl _))).mono ?_
        rintro e w8 ⟨rfl, H8, F8⟩
        have R4 := (R3.puta H8 F8).eq rfl (List.take_append_drop d l) rfl
        clear H8 F8 R3
        go_wp2_with fail
        refine (hNew _ R4.bel).mono ?_
        rintro e w9 (⟨_, rfl, b9⟩ | ⟨_, po, rfl, H9, b9⟩)
        · have R5 := R4.below b9
          clear b9 R4
          go_wp2_with fail
          refine (sh3 _ ph x0 x1 R5.h R5.bel).mono ?_
          rintro e wa ⟨rfl, bb⟩
          have Ra := R5.below bb
          clear bb R5
          go_wp2_with fail
          refine (sh3 _ pa x1 x2 Ra.a Ra.bel).mono ?_
          rintro e wb ⟨rfl, bb⟩
          have Rb := Ra.below bb
          clear bb Ra
          go_wp2_with fail
          refine (sh2 _ pb x2 x3 Rb.b Rb.bel).mono ?_
          rintro e wc ⟨rfl, bb⟩
          have Rc := Rb.below bb
          clear bb Rb
          have bz := B0.out.trans (Rc.bel.mono B0.out.size)
          clear Rc
          go_wp2
          go_ret
          exact ⟨rfl, bz⟩
        have R5 := R4.below b9
        clear b9 R4
        by_cases hMn : M = n
        · have hMz : (M : Int) = (n : Int) := by omega
          clear H9
          go_wp2_with fail
          refine (sh3 _ ph x0 x1 R5.h R5.bel).mono ?_
          rintro e wa ⟨rfl, bb⟩
          have Ra := R5.below bb
          clear bb R5
          go_wp2_with fail
          refine (sh3 _ pa x1 x2 Ra.a Ra.bel).mono ?_
          rintro e wb ⟨rfl, bb⟩
          have Rb := Ra.below bb
          clear bb Ra
          go_wp2_with fail
          refine (sh2 _ pb x2 x3 Rb.b Rb.bel).mono ?_
          rintro e wc ⟨rfl, bb⟩
          have Rc := Rb.below bb
          clear bb Rb
          have bz := B0.out.trans (Rc.bel.mono B0.out.size)
          clear Rc
          go_wp2
          go_ret
          exact ⟨rfl, bz⟩
        · have hMz : ¬ (M : Int) = (n : Int) := by omega
          go_wp2_with fail
          refine (join_wrong pa po x1 x2 _ _ bs ot l [] _ R5.a H9 (Hne.out hMn)).mono ?_
          rintro e w10 ⟨rfl, b10⟩
          have R6 := R5.below b10
          clear b10 R5 H9
          go_wp2_with fail
          refine (sh3 _ ph x0 x1 R6.h R6.bel).mono ?_
          rintro e wa ⟨rfl, bb⟩
          have Ra := R6.below bb
          clear bb R6
          go_wp2_with fail
          refine (sh3 _ pa x1 x2 Ra.a Ra.bel).mono ?_
          rintro e wb ⟨rfl, bb⟩
          have Rb := Ra.below bb
          clear bb Ra
          go_wp2_with fail
          refine (sh2 _ pb x2 x3 Rb.b Rb.bel).mono ?_
          rintro e wc ⟨rfl, bb⟩
          have Rc := Rb.below bb
          clear bb Rb
          have bz := B0.out.trans (Rc.bel.mono B0.out.size)
          clear Rc
          go_wp2
          go_ret
          exact ⟨rfl, bz⟩
      · have e1 : cutA B d k = B.map (·.add k) := by unfold cutA; rw [if_neg hdk]
        rw [e1] at sh2
        clear e1
        go_wp2_with fail
        refine (sh1 _ pa x1 x2 R1.a R1.bel).mono ?_
        rintro e w6 ⟨rfl, bb⟩
        have R2 := R1.below bb
        clear bb R1
        go_wp2_with fail
        refine (sh2 _ pb x2 x3 R2.b R2.bel).mono ?_
        rintro e w7 ⟨rfl, bb⟩
        have R3 := R2.below bb
        clear bb R2
        go_wp2_with fail
        refine (join_right pa pb x1 x2 x2 x3 bs (l.take k) (l.drop k) _ R3.a R3.b (.inl (Nat.le_refl _))).mono ?_
        rintro e w8 ⟨rfl, H8, F8⟩
        have R4 := (R3.puta H8 F8).eq rfl (List.take_append_drop k l) rfl
        clear H8 F8 R3
        go_wp2_with fail
        refine (hNew _ R4.bel).mono ?_
        rintro e w9 (⟨_, rfl, b9⟩ | ⟨_, po, rfl, H9, b9⟩)
        · have R5 := R4.below b9
          clear b9 R4
          go_wp2_with fail
          refine (sh3 _ ph x0 x1 R5.h R5.bel).mono ?_
          rintro e wa ⟨rfl, bb⟩
          have Ra := R5.below bb
          clear bb R5
          go_wp2_with fail
          refine (sh3 _ pa x1 x2 Ra.a Ra.bel).mono ?_
          rintro e wb ⟨rfl, bb⟩
          have Rb := Ra.below bb
          clear bb Ra
          go_wp2_with fail
          refine (sh2 _ pb x2 x3 Rb.b Rb.bel).mono ?_
          rintro e wc ⟨rfl, bb⟩
          have Rc := Rb.below bb
          clear bb Rb
          have bz := B0.out.trans (Rc.bel.mono B0.out.size)
          clear Rc
          go_wp2
          go_ret
          exact ⟨rfl, bz⟩
        have R5 := R4.below b9
        clear b9 R4
        by_cases hMn : M = n
        · have hMz : (M : Int) = (n : Int) := by omega
          clear H9
          go_wp2_with fail
          refine (sh3 _ ph x0 x1 R5.h R5.bel).mono ?_
          rintro e wa ⟨rfl, bb⟩
          have Ra := R5.below bb
          clear bb R5
          go_wp2_with fail
          refine (sh3 _ pa x1 x2 Ra.a Ra.bel).mono ?_
          rintro e wb ⟨rfl, bb⟩
          have Rb := Ra.below bb
          clear bb Ra
          go_wp2_with fail
          refine (sh2 _ pb x2 x3 Rb.b Rb.bel).mono ?_
          rintro e wc ⟨rfl, bb⟩
          have Rc := Rb.below bb
          clear bb Rb
          have bz := B0.out.trans (Rc.bel.mono B0.out.size)
          clear Rc
          go_wp2
          go_ret
          exact ⟨rfl, bz⟩
        · have hMz : ¬ (M : Int) = (n : Int) := by omega
          go_wp2_with fail
          refine (join_wrong pa po x1 x2 _ _ bs ot l [] _ R5.a H9 (Hne.out hMn)).mono ?_
          rintro e w10 ⟨rfl, b10⟩
          have R6 := R5.below b10
          clear b10 R5 H9
          go_wp2_with fail
          refine (sh3 _ ph x0 x1 R6.h R6.bel).mono ?_
          rintro e wa ⟨rfl, bb⟩
          have Ra := R6.below bb
          clear bb R6
          go_wp2_with fail
          refine (sh3 _ pa x1 x2 Ra.a Ra.bel).mono ?_
          rintro e wb ⟨rfl, bb⟩
          have Rb := Ra.below bb
          clear bb Ra
          go_wp2_with fail
          refine (sh2 _ pb x2 x3 Rb.b Rb.bel).mono ?_
          rintro e wc ⟨rfl, bb⟩
          have Rc := Rb.below bb
          clear bb Rb
          have bz := B0.out.trans (Rc.bel.mono B0.out.size)
          clear Rc
          go_wp2
          go_ret
          exact ⟨rfl, bz⟩
end Go.Proofs.Ythggaoobbkflaaa.H11
