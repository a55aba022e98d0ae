/-
  The law's due: which traces are, by the document's First, Deadline and Take.
  ShardPlays: the two lists of what is due, beside one another, as a piece of its own. (Written by gen15/reg34.py.)
  ShardPlays: one trace taken off the document's, as a piece of its own. (Written by gen15/reg44.py.)
-/
import Derived.Test.YtdmibolbpgondaaGreatKX15RefF
import Derived.Test.YtdmibolbpgondaaGreatKX15Ints
import Derived.Test.YtdmibolbpgondaaGreatKP06Span
import Derived.Test.YtdmibolbpgondaaGreatKU12Less
import Derived.Deep.CutRange
section
set_option linter.unusedSimpArgs false
set_option linter.unusedVariables false
namespace Go.Proofs.YtdmibolbpgondaaGreat.X15
open Go.RowKit Go.Lib Go.Maps Go.Proofs.YtdmibolbpgondaaGreat.Wd Go.Proofs.YtdmibolbpgondaaGreat.P06
open Go.Proofs.YtdmibolbpgondaaGreat.U12 (Lt It)
open Go.Proofs.YtdmibolbpgondaaGreat.B07 (Pn OkN OkA OkP Spn Sps pns tenA ten Ten)
theorem trace_rest {L : List Pn} {t u : Nat} (h : u ≠ t) : trace (rest L t) u = trace L u := by
  unfold trace rest
  rw [List.filter_filter]
  refine List.filter_congr fun x _ => ?_
  by_cases e : tn x = u
  · simp [e, h]
  · simp [e]
theorem dqs_head (G : Nat) {L : List Pn} (h : L ≠ []) : dqs G L = (first G L, dl G L (first G L)) :: dqs G (rest L (first G L)) := by
  obtain ⟨hin, m, hm⟩ := first_in (G := G) h
  obtain ⟨t, ht⟩ : ∃ t, first G L = t := ⟨_, rfl⟩
  rw [ht] at hin hm ⊢
  have hs := dqs_sorted G L
  have hnd := dqs_nodup G L
  rw [hm] at hs hnd ⊢
  congr 1
  refine lt_one (List.pairwise_cons.1 hs).2 (dqs_sorted _ _) fun y => ?_
  have hmy : y ∈ m ↔ y ∈ dqs G L ∧ y.1 ≠ t := by
    rw [hm]
    constructor
    · intro hy
      refine ⟨List.mem_cons_of_mem _ hy, fun e => ?_⟩
      exact (List.pairwise_cons.1 (show ((t, dl G L t) :: m).map (·.1) |>.Nodup from hnd)).1 y.1 (List.mem_map.2 ⟨y, hy, rfl⟩) e.symm
    · rintro ⟨hy, e⟩
      rcases List.mem_cons.1 hy with rfl | hy
      · exact absurd rfl e
      · exact hy
  rw [hmy, mem_dqs, mem_dqs]
  constructor
  · rintro ⟨⟨u, hu, rfl⟩, e⟩
    refine ⟨u, trs_trace.2 ?_, ?_⟩
    · rw [trace_rest e]; exact trs_trace.1 hu
    · unfold dl; rw [trace_rest e]
  · rintro ⟨u, hu, rfl⟩
    obtain ⟨x, hx, hxu⟩ := mem_trs.1 hu
    have e : u ≠ t := by rw [← hxu]; exact (mem_rest.1 hx).2
    refine ⟨⟨u, mem_trs.2 ⟨x, (mem_rest.1 hx).1, hxu⟩, ?_⟩, e⟩
    unfold dl; rw [trace_rest e]
theorem due_nil' (G m : Nat) : due G [] m = [] := rfl
theorem due_end {G : Nat} {L : List Pn} {m : Nat} (h : L ≠ []) (hd : m < dl G L (first G L)) : due G L m = [] := by
  unfold due
  rw [U12.due_take (dqs_sorted G L), dqs_head G h, List.takeWhile_cons, if_neg (by simpa using hd)]
  rfl
theorem due_go {G : Nat} {L : List Pn} {m : Nat} (h : L ≠ []) (hd : dl G L (first G L) ≤ m) : due G L m = first G L :: due G (rest L (first G L)) m := by
  unfold due
  rw [U12.due_take (dqs_sorted G L), U12.due_take (dqs_sorted G _), dqs_head G h, List.takeWhile_cons, if_pos (by simpa using hd)]
  rfl
theorem due_in {G : Nat} {L : List Pn} {m t : Nat} (h : t ∈ due G L m) : t ∈ trs L := by
  unfold due at h
  obtain ⟨y, hy, rfl⟩ := List.mem_map.1 h
  obtain ⟨u, hu, rfl⟩ := mem_dqs.1 (List.mem_filter.1 hy).1
  exact hu
theorem own_up {w w' : World} {base sz n : Nat} {e : TypeId} {v : Value} {xs : List Value} {o : List Nat} (h : w.ownsRow base e sz v n xs) (f : Wd.Fr o w w') (ho : ∀ x ∈ o, x < base) : w'.ownsRow base e sz v n xs :=
  ⟨h.1, h.2.elim .inl fun ⟨g, cap, cur, hv, hb, hg, r⟩ => .inr ⟨g, cap, cur, hv, hb, by rw [f.block g (Array.getElem?_eq_some_iff.1 hg).1 (fun hm => by have := ho g hm; omega)]; exact hg, r⟩⟩
/-- between two rounds: what is told, the list that is left -/
structure Du (w : World) (g G S B : Nat) (M0 : List Spn) (os : List Nat) (U : Option Addr) (r d : Nat) (A : Option Addr) (n c : Nat) (M : List Spn) (L : List Pn) (W : World) : Prop where
  kh : Bk W g 31 (sac G S B A n c)
  sp : Sps W A c M
  pl : pns M = L
  ln : M.length = n
  mm : ∀ y ∈ M, y ∈ M0
  so : So L
  ok : ∀ x ∈ L, Okx x
  row : W.ownsRow (g + 1) 22 1 (.slice U r d) r (os.map encU)
  rl : os.length = r
  s1 : 0 < M.length → ∀ k a, (Value.slice U r d).ownBlock = some k → A = some a → a.block ≠ k
  bel : Below w.heap.size w W
section
variable {w W W3 W4 W5 W6 : World} {g G S B r d n c n2 c2 c' a t : Nat} {M0 M M2 : List Spn} {os : List Nat} {U U' A A2 : Option Addr} {L : List Pn}
theorem Du.below (h : Du w g G S B M0 os U r d A n c M L W) (b : Below W.heap.size W W3) : Du w g G S B M0 os U r d A n c M L W3 :=
  ⟨h.kh.below b, h.sp.below b, h.pl, h.ln, h.mm, h.so, h.ok, own_below h.row b, h.rl, h.s1, h.bel.trans (b.mono h.bel.size)⟩
theorem Du.app (hg : w.heap.size = g) (hA0 : ∀ y ∈ M0, Ats w y.A y.c y.l) (h0 : Du w g G S B M0 os U r d A n c M L W) (b3 : Below W.heap.size W W3)
    (hrow : W4.ownsRow (g + 1) 22 1 (.slice U' (r + 1) c') (r + 1) (os.map encU ++ [encU a])) (hgr : W3.grownBy W4 (Value.slice U r d).ownBlock)
    (hat : (Value.slice U' (r + 1) c').ownBlock = (Value.slice U r d).ownBlock ∨ (Value.slice U' (r + 1) c').ownBlock = some W3.heap.size) : Du w g G S B M0 (os ++ [a]) U' (r + 1) c' A n c M L W4 := by
  have h := h0.below b3
  obtain ⟨o, ho⟩ : ∃ o, ((Value.slice U r d).ownBlock).toList = o := ⟨_, rfl⟩
  have hin : ∀ x, x ∈ o ↔ (Value.slice U r d).ownBlock = some x := fun x => by rw [← ho]; simp [Option.mem_toList]
  have f : Wd.Fr o W3 W4 := Fr.of_grown hgr fun k hk => (hin k).2 hk
  have hoB : ∀ x ∈ o, g + 1 ≤ x := fun x hx => (h.row.lt x ((hin x).1 hx)).1
  have hbw : Below w.heap.size w W4 := ((Fr.of_below o h.bel).then f).below (Nat.le_refl _) fun x hx => by have := hoB x hx; omega
  refine ⟨?_, sps_grown h.sp f (fun hz b hb hm => h.s1 hz _ b ((hin _).1 hm) hb rfl) (fun y hy => hA0 y (h.mm y hy)) hbw, h.pl, h.ln, h.mm, h.so, h.ok, by rw [List.map_append]; exact hrow, by simp [h.rl], fun hz k b hk hb => ?_, hbw⟩
  · have := h.kh
    unfold Bk at *
    rw [f.block g (Array.getElem?_eq_some_iff.1 this).1 fun hm => by have := hoB g hm; omega]
    exact this
  · rcases hat with e | e
    · rw [hk] at e
      exact h.s1 hz k b e.symm hb
    · rw [hk] at e
      have e : k = W3.heap.size := Option.some.inj e
      obtain ⟨ad, p, hA, hp, F⟩ := h.sp.get hz
      have e0 : ad.add (0 * 10) = ad := by simp [Addr.add]
      rw [e0] at hp
      subst hp
      have hl := World.block_lt_of_cell? _ _ F.c0
      rw [hb] at hA
      injection hA with hA
      subst hA
      omega
theorem Du.take (hg : w.heap.size = g) (h : Du w g G S B M0 os U r d A n c M L W4) (b5 : Below W4.heap.size W4 W5) (p2 : pns M2 = rest L t) (l2 : M2.length = n2) (r2 : Sps W5 A2 c2 M2) (m2 : ∀ y ∈ M2, y ∈ M) (hf : ∀ a, A2 = some a → W4.heap.size ≤ a.block)
    (f : Wd.Fr [g] W5 W6) (kg : Bk W6 g 31 (sac G S B A2 n2 c2)) : Du w g G S B M0 os U r d A2 n2 c2 M2 (rest L t) W6 := by
  have h5 := h.below b5
  have hnt := sac_nt h5.kh
  refine ⟨kg, sps_fr r2 hnt f, p2, l2, fun y hy => h.mm y (m2 y hy), rest_so h.so _, fun x hx => h.ok x (mem_rest.1 hx).1, ?_, h.rl, fun hz k b hk hb => ?_, ((Fr.of_below [g] h5.bel).then f).below (Nat.le_refl _) fun x hx => by simp at hx; omega⟩
  · exact own_up h5.row f fun x hx => by simp at hx; omega
  · have h1 := hf b hb
    have h2 := (h.row.lt k hk).2
    omega
end
set_option maxRecDepth 20000 in
set_option maxHeartbeats 8000000 in
theorem ldue_at (G S B m : Nat) (A : Option Addr) (n c : Nat) (M : List Spn) (L : List Pn) (w : World) (h : Sps w A c M) (hn : M.length = n) (hL : pns M = L) (hso : So L) (hok : ∀ x ∈ L, Okx x) (hfew : n ≤ 300) (hG : G ≤ MT) (hm : (m : Int) ≤ 18446744073709551615) :
    Calls Tryz.prog 20 #[sag G S B A n c, .int .u64 (m : Int)] w fun e w' => ∃ U d, e = .returned (.slice U (due G L m).length d) ∧ Us w' U d (due G L m) ∧ Below w.heap.size w w' := by
  obtain ⟨i0, hi, hz0, hz1, hz2⟩ := info_parts u64_info
  obtain ⟨g, hg⟩ : ∃ g, w.heap.size = g := ⟨_, rfl⟩
  obtain ⟨X, hX⟩ : ∃ X, w.alloc (.cells (sac G S B A n c) 31) = X := ⟨_, rfl⟩
  have b0 : Below w.heap.size w X := by rw [← hX]; exact (Below.refl _ _).alloc (Nat.le_refl _) _
  have D0 := Lib.hid (show Du w g G S B M [] none 0 0 A n c M L X from
    ⟨by rw [← hX, ← hg]; exact Bk.new w _ _, h.below b0, hL, hn, fun _ h => h, hso, hok, World.ownsRow_nil _ _ _ _, rfl, fun _ k a hk => (by cases hk), b0⟩)
  have HA0 := Lib.hid h.ats
  have HX := Lib.hid hX
  have HT := Lib.hid (show ∀ t ∈ trs L, (t : Int) ≤ 18446744073709551615 from fun t ht => by
    obtain ⟨x, hx, rfl⟩ := mem_trs.1 ht
    exact (hok x hx).tn.2)
  clear h hn hL hso hok b0 hX
  go_enter Tryz.func20, Tryz.ntmps20
  go_wp2
  (try rw [hg])
  rw [HX.out]
  go_loopw [5] (fun v wr => ∃ U r d A n c M' L' os, v = .slice U r d ∧ n ≤ 300 ∧ r ≤ 300 ∧ Hid (Du w g G S B M os U r d A n c M' L' wr ∧ os ++ due G L' m = due G L m ∧ r + n ≤ 300)) (fun _ wr => match wr.cell? ⟨g, 3, none⟩ with | some (.slice _ n _) => n | _ => 0)
  case atStart => exact ⟨none, 0, 0, A, n, c, M, L, [], rfl, hfew, by omega, Lib.hid ⟨D0.out, rfl, by omega⟩⟩
  case round =>
    clear D0
    obtain ⟨U, r, d, A, n, c, M', L', os, rfl, hnl, hrl, HD⟩ := hrel
    have c0 := HD.out.1.kh.cell 0
    have c1 := HD.out.1.kh.cell 1
    have c2 := HD.out.1.kh.cell 2
    have c3 := HD.out.1.kh.cell 3
    simp only [sac, List.getElem?_toArray, List.getElem?_cons_zero, List.getElem?_cons_succ] at c0 c1 c2 c3
    have htr := rtraces_at G S B A n c M' L' wr HD.out.1.sp HD.out.1.ln HD.out.1.pl HD.out.1.so HD.out.1.ok (by omega)
    have HC3 := Lib.hid c3
    go_wp2_with fail
    refine htr.mono ?_
    rintro e w2 ⟨V, e1, rfl, hv, bv⟩
    clear htr hv c0 c1 c2 c3
    obtain ⟨q, hq⟩ : ∃ q, (trs L').length = q := ⟨_, rfl⟩
    rw [hq]
    have HD2 := Lib.hid (And.intro (HD.out.1.below bv) HD.out.2)
    clear bv
    by_cases hq0 : q = 0
    · subst hq0
      have hLn : L' = [] := Classical.byContradiction fun e => trs_none e (List.eq_nil_of_length_eq_zero hq)
      have hout : os = due G L m := by
        have := HD2.out.2.1
        rw [hLn, due_nil', List.append_nil] at this
        exact this
      have FIN := Lib.hid (show Us w2 U d (due G L m) ∧ r = (due G L m).length ∧ Below w.heap.size w w2 from by
        rw [← hout]
        have := HD2.out.1.rl
        refine ⟨⟨by rw [this]; exact Rd.own HD2.out.1.row, fun x hx => ?_⟩, this.symm, HD2.out.1.bel⟩
        rw [hout] at hx
        exact HT.out x (due_in hx))
      clear HD HD2 hq hLn hout
      go_wp2
      go_ret
      exact ⟨U, d, by rw [FIN.out.2.1]; rfl, FIN.out.1, FIN.out.2.2⟩
    · have hqz : ((q : Int) == 0) = false := by simp; omega
      have hqn : ¬ q = 0 := hq0
      have hLn : L' ≠ [] := fun e => by subst e; exact hq0 hq.symm
      have c0 := HD2.out.1.kh.cell 0
      have c1 := HD2.out.1.kh.cell 1
      have c2 := HD2.out.1.kh.cell 2
      have c3 := HD2.out.1.kh.cell 3
      simp only [sac, List.getElem?_toArray, List.getElem?_cons_zero, List.getElem?_cons_succ] at c0 c1 c2 c3
      have hfi := rfirst_at G S B A n c M' L' w2 HD2.out.1.sp HD2.out.1.ln HD2.out.1.pl HD2.out.1.so HD2.out.1.ok (by omega) hG hLn
      obtain ⟨t, ht⟩ : ∃ t, first G L' = t := ⟨_, rfl⟩
      rw [ht] at hfi
      have HF := Lib.hid (And.intro ht hLn)
      clear hq0 hq hLn ht
      go_wp2_with fail
      refine hfi.mono ?_
      rintro e w3 ⟨rfl, b3⟩
      have HD3 := Lib.hid (And.intro (HD2.out.1.below b3) HD2.out.2)
      clear hfi HD2 b3 c0 c1 c2 c3 hqz hqn
      have c0 := HD3.out.1.kh.cell 0
      have c1 := HD3.out.1.kh.cell 1
      have c2 := HD3.out.1.kh.cell 2
      have c3 := HD3.out.1.kh.cell 3
      simp only [sac, List.getElem?_toArray, List.getElem?_cons_zero, List.getElem?_cons_succ] at c0 c1 c2 c3
      have hde := rdead_at G S B t A n c M' L' w3 HD3.out.1.sp HD3.out.1.ln HD3.out.1.pl HD3.out.1.ok (by omega) hG
      obtain ⟨u, hu⟩ : ∃ u, mx (trace L' t) + G = u := ⟨_, rfl⟩
      rw [hu] at hde
      have HU := Lib.hid (show dl G L' (first G L') = u from by rw [HF.out.1]; exact hu)
      clear hu
      go_wp2_with fail
      refine hde.mono ?_
      rintro e w4 ⟨rfl, b4⟩
      have HD4 := Lib.hid (And.intro (HD3.out.1.below b4) HD3.out.2)
      clear hde HD3 b4 c0 c1 c2 c3
      by_cases hmu : m < u
      · have hmz : (m : Int) < (u : Int) := by omega
        have hout : os = due G L m := by
          have := HD4.out.2.1
          rw [due_end HF.out.2 (by rw [HU.out]; exact hmu), List.append_nil] at this
          exact this
        have FIN := Lib.hid (show Us w4 U d (due G L m) ∧ r = (due G L m).length ∧ Below w.heap.size w w4 from by
          rw [← hout]
          have := HD4.out.1.rl
          refine ⟨⟨by rw [this]; exact Rd.own HD4.out.1.row, fun x hx => ?_⟩, this.symm, HD4.out.1.bel⟩
          rw [hout] at hx
          exact HT.out x (due_in hx))
        clear HD HD4 hout
        go_wp2
        go_ret
        exact ⟨U, d, by rw [FIN.out.2.1]; rfl, FIN.out.1, FIN.out.2.2⟩
      · have hmz : ¬ (m : Int) < (u : Int) := by omega
        have hstep := due_go (m := m) HF.out.2 (by rw [HU.out]; omega)
        rw [HF.out.1] at hstep
        have hti : t ∈ trs L' := by have := (first_in (G := G) HF.out.2).1; rw [HF.out.1] at this; exact this
        have hless := rest_less hti
        have HS := Lib.hid (And.intro hstep hless)
        have own1 := HD4.out.1.row
        have bl : Below w4.heap.size w4 (w4.alloc (.cells #[.int .u64 (t : Int)] 22)) := (Below.refl _ _).alloc (Nat.le_refl _) _
        have own2 := own_below own1 bl
        have hlit : Rd 1 (w4.alloc (.cells #[.int .u64 (t : Int)] 22)) (some ⟨w4.heap.size, 0, none⟩) 1 1 [encU t] := ⟨rfl, fun e => (by cases e), Nat.le_refl _, by unfold maxLen; omega, fun ad ha i u hu => by
          injection ha with ha
          subst ha
          rw [Addr.add_lit, (Bk.new w4 _ _).cell]
          simpa using hu⟩
        have hone : ∀ u ∈ [encU t], u.oneCell' = true := fun u hu => by rw [List.mem_singleton.1 hu]; rfl
        have hsz : g + 1 ≤ w4.heap.size + 1 := by have := HD4.out.1.bel.size; omega
        have HBL := Lib.hid bl
        clear own1 hstep hti hless bl
        go_wp2_with (at_builtin; refine append_rd_at _ rfl (.tmp 22) (.tmp 24) 57 rfl (g + 1) 22 i0 _ 1 8 Tryz.underlying57 hi hz0 hz1 hz2 rfl (by decide) (.slice U r d) r (os.map encU) rfl own2 (some ⟨w4.heap.size, 0, none⟩) 1 1 [encU t] rfl hlit hone ?d1 ?d2 ?d3 ?_)
        case d1 => unfold maxLen; omega
        case d2 => omega
        case d3 => rw [World.size_alloc]; exact hsz
        intro A6 c6 w6 hrow6 hg6 hat6
        have HD6 := Lib.hid (HD4.out.1.app hg HA0.out HBL.out hrow6 hg6 (by rw [World.size_alloc]; exact hat6))
        have HR := Lib.hid HD4.out.2
        clear hrow6 hg6 hat6 own2 hlit hone hsz HBL HD4 hmz hmu
        have c0 := HD6.out.kh.cell 0
        have c1 := HD6.out.kh.cell 1
        have c2 := HD6.out.kh.cell 2
        have c3 := HD6.out.kh.cell 3
        simp only [sac, List.getElem?_toArray, List.getElem?_cons_zero, List.getElem?_cons_succ] at c0 c1 c2 c3
        have htk := rtake_at G S B t A n c M' L' w6 HD6.out.sp HD6.out.ln HD6.out.pl HD6.out.ok (by omega)
        go_wp2_with fail
        refine htk.mono ?_
        rintro e w7 ⟨A1, c1', M1, A2, c2', M2, rfl, p1, p2, r1, r2, b7, m1, m2, hf⟩
        obtain ⟨n2, hn2⟩ : ∃ n2, (rest L' t).length = n2 := ⟨_, rfl⟩
        obtain ⟨n1, hn1⟩ : ∃ n1, (trace L' t).length = n1 := ⟨_, rfl⟩
        rw [hn2, hn1]
        have kg7 := HD6.out.kh.below b7
        have t0 := kg7.cell 0
        have t1 := kg7.cell 1
        have t2 := kg7.cell 2
        have t3 := kg7.cell 3
        simp only [sac, List.getElem?_toArray, List.getElem?_cons_zero, List.getElem?_cons_succ] at t0 t1 t2 t3
        have u0 := kg7.frozen 0
        have u1 := kg7.frozen 1
        have u2 := kg7.frozen 2
        have u3 := kg7.frozen 3
        obtain ⟨Y, hY⟩ : ∃ Y, (((w7.setCell ⟨g, 0, none⟩ (.int .u64 (G : Int))).setCell ⟨g, 1, none⟩ (.int .i64 (S : Int))).setCell ⟨g, 2, none⟩ (.int .i64 (B : Int))).setCell ⟨g, 3, none⟩ (.slice A2 n2 c2') = Y := ⟨_, rfl⟩
        have HY := Lib.hid hY
        have HE := Lib.hid (show Du w g G S B M (os ++ [t]) A6 (r + 1) c6 A2 n2 c2' M2 (rest L' t) Y from HD6.out.take hg b7 p2 (by rw [← hn2, ← p2, B07.pns_len]) r2 m2 hf (by rw [← hY]; exact (((((Fr.refl _ w7).then (Fr.setCell _ ⟨g, 0, none⟩ _ (by simp))).then (Fr.setCell _ ⟨g, 1, none⟩ _ (by simp))).then (Fr.setCell _ ⟨g, 2, none⟩ _ (by simp))).then (Fr.setCell _ ⟨g, 3, none⟩ _ (by simp)))) (by rw [← hY]; exact (((kg7.set 0 _).set 1 _).set 2 _).set 3 _))
        have hlt : n2 < n := by
          have h1 := HS.out.2
          rw [hn2] at h1
          have h2 := HD6.out.ln
          rw [← HD6.out.pl, B07.pns_len, h2] at h1
          exact h1
        have hsum := HR.out.2
        have HEQ := Lib.hid (show (os ++ [t]) ++ due G (rest L' t) m = due G L m from by rw [List.append_assoc, List.singleton_append, ← HS.out.1]; exact HR.out.1)
        clear htk c0 c1 c2 c3 hY kg7 p1 p2 r1 r2 b7 m1 m2 hf HD6 HS HR HD hn1 hn2
        go_wp2_with fail
        rw [HY.out]
        clear t0 t1 t2 t3 u0 u1 u2 u3
        go_wp2
        have c3' := HE.out.kh.cell 3
        go_roundw
        case rel => exact ⟨A6, r + 1, c6, A2, n2, c2', M2, rest L' t, os ++ [t], rfl, by omega, by omega, Lib.hid ⟨HE.out, HEQ.out, by omega⟩⟩
        case measure =>
          rw [HC3.out]
          simp only [sac, List.getElem?_toArray, List.getElem?_cons_zero, List.getElem?_cons_succ] at c3'
          rw [c3']
          exact hlt
end Go.Proofs.YtdmibolbpgondaaGreat.X15
end

section
set_option linter.unusedSimpArgs false
set_option linter.unusedVariables false
namespace Go.Proofs.YtdmibolbpgondaaGreat.X15
open Go.RowKit Go.Lib Go.Maps Go.Proofs.YtdmibolbpgondaaGreat.Wd Go.Proofs.YtdmibolbpgondaaGreat.P06
section
variable {P : Program} {ops : Array Oper} {Q : Exit → Act → World → Prop} {md : Region.Mode} {S : World → Prop} {z : Nat}
/-- as Zed.first, where no operation spoils S -/
theorem Zed.first0 {i : Nat} {oi : Oper} {v : Value} (hi : ops[i]? = some oi) (hz : ops[z]? = none)
    (hsel : ∀ (j : Nat) (o : Oper) cs b, ops[j]? = some o → o.op ≠ .select cs b) (hQ : ∀ c a w, Q (.panic c) (a.put oi.dst v) w → Q (.panic c) a w) :
    ∀ (fuel : Nat) (listed : Array Bool) (a : Act) (w : World),
      (∀ j oj, ops[j]? = some oj → j ≠ i → listed.getD j true = false → (∀ e ∈ oj.after, Region.binds md e = true → e.on ≠ i) → oi.apart ops oj = true) →
      i ∈ Region.ready md ops listed → YieldsIf P ops S oi v a → S w →
      Zed P md ops Q S z fuel (listed.setIfInBounds i true) (a.put oi.dst v) w → Zed P md ops Q S z (fuel + 1) listed a w := by
  intro fuel
  induction fuel with
  | zero =>
    intro listed a w _ hr hy hS H
    refine ⟨fun h => (by rw [h] at hr; cases hr), fun j hj => ?_⟩
    by_cases hji : j = i
    · rw [hji]; exact hy.wpOp hi hS ⟨.inr hS, H⟩
    · have h0 := ready_mono hj hji
      rw [H.1] at h0
      cases h0
  | succ fuel ih =>
    intro listed a w hfree hr hy hS H
    refine ⟨fun h => (by rw [h] at hr; cases hr), fun j hj => ?_⟩
    by_cases hji : j = i
    · rw [hji]; exact hy.wpOp hi hS ⟨.inr hS, H⟩
    · obtain ⟨hjun, oj, hoj, _⟩ := mem_ready.1 hj
      have hnot := not_waits hr hj hoj
      have hjz : j ≠ z := fun e => by
        subst e
        rw [hoj] at hz
        cases hz
      have h2 := wpOp_putIf hoj (hfree j oj hoj hji hjun hnot) (fun cs b => hsel i oi cs b hi) (fun cs b => hsel j oj cs b hoj) hQ hy (H.2 j (ready_mono hj hji))
      refine wpOp_mono (fun a' w' h3 => ?_) h2
      have hS' : S w' := h3.2.1.resolve_left hjz
      refine ⟨.inr hS', ih (listed.setIfInBounds j true) a' w' (fun k ok hk hki hun hno => hfree k ok hk hki ?_ hno) (ready_mono hr (Ne.symm hji)) h3.1 hS' ?_⟩
      · by_cases hjk : j = k
        · rw [← hjk]; exact hjun
        · rw [getD_set_ne true hjk] at hun; exact hun
      · rw [Array.setIfInBounds_comm _ _ hji]
        exact h3.2.2
theorem Zed.take0 {i : Nat} {oi : Oper} {v : Value} {fuel : Nat} {listed : Array Bool} {a : Act} {w : World} (hi : ops[i]? = some oi) (hz : ops[z]? = none)
    (hs : Region.noSelect ops = true) (hf : Region.free md ops listed i = true) (hr : (Region.ready md ops listed).contains i = true)
    (hQ : ∀ c a w, Q (.panic c) (a.put oi.dst v) w → Q (.panic c) a w) (hy : YieldsIf P ops S oi v a) (hS : S w)
    (h : Zed P md ops Q S z fuel (listed.setIfInBounds i true) (a.put oi.dst v) w) : Zed P md ops Q S z (fuel + 1) listed a w :=
  Zed.first0 hi hz (Region.noSelect_spec hs) hQ fuel listed a w (Region.free_spec hi hf) (by simpa using hr) hy hS h
end
/-- a piece of a body, by its number -/
def rg (id : Nat) : Code → Option Code
  | .region i ops d => if i == id then some (.region i ops d) else none
  | .seq a b => match rg id a with | some c => some c | none => rg id b
  | .cond _ a b => match rg id a with | some c => some c | none => rg id b
  | .block _ a => rg id a
  | .loop a => rg id a
  | .scope a => rg id a
  | _ => none
set_option maxRecDepth 200000 in
set_option maxHeartbeats 40000000 in
theorem reg34 (C : Code) (hC : Tryz.f3.body.bind (rg 34) = some C) (Q : Exit → Act → World → Prop) (wC : World) (u0 u1 u2 u3 u4 u5 u6 u7 u8 u10 u12 u14 u15 u16 u17 u18 u19 u20 u21 u22 u23 u24 u25 u26 u27 u28 u29 u30 u31 u32 u33 u34 u35 u36 u37 u38 u39 u40 u41 u42 u43 u44 u45 u46 u47 u48 u49 u50 u51 u52 u53 u54 u55 u56 u57 u58 u59 u60 u61 u62 u63 u64 u65 u66 u67 u68 u69 u70 u71 u72 u73 u74 u75 u76 u77 u78 u79 u80 u81 u82 u83 u84 u85 u86 u87 u88 u89 u90 u91 u92 u93 u94 u95 u96 u97 u98 u99 u100 u101 u102 u103 u104 u105 u106 u107 u108 u109 u110 u111 u112 u113 u114 u115 u116 u117 u118 u119 u120 u121 u122 u123 u124 u125 u126 u127 u128 u129 u130 u131 u132 u133 u134 u135 u136 u137 u138 u139 u140 u141 u142 u143 u144 u145 u146 u147 u148 u149 u150 u151 u152 u153 u154 u155 u156 u157 u158 u159 u160 u161 u162 u163 u164 u165 u166 u167 u168 u169 u170 u171 u172 u173 u174 u175 u176 u177 u178 u179 u180 u181 u182 u183 u184 u185 u186 u187 u188 u189 u190 u191 u192 u193 u194 u195 u196 u197 u198 u199 u200 u201 u202 u203 u204 u205 u206 u207 u208 u209 u210 u211 u212 u213 : Value) (sp ba bm N G : Nat) (S B : Int) (A : Option Addr) (r c nd : Nat) (l : List Nat) (hl : l.length = nd) (h40 : nd ≤ 40)
    (HDp : ∀ W, Below wC.heap.size wC W → Calls Tryz.prog 19 #[.pointer (some ⟨sp, 0, none⟩), .int .u64 (N : Int)] W fun e w' => ∃ U d, e = .returned (.slice U nd d) ∧ Us w' U d l ∧ Below W.heap.size W w')
    (HDl : ∀ W, Below wC.heap.size wC W → Calls Tryz.prog 20 #[.agg #[.int .u64 (G : Int), .int .i64 S, .int .i64 B, .slice A r c], .int .u64 (N : Int)] W fun e w' => ∃ U d, e = .returned (.slice U nd d) ∧ Us w' U d l ∧ Below W.heap.size W w')
    (HSW : ∀ W, Below wC.heap.size wC W → W.cell? ⟨ba, 11, none⟩ = some (.int .u64 (N : Int)) ∧ W.cell? ⟨bm, 0, none⟩ = some (.int .u64 (G : Int)) ∧ W.cell? ⟨bm, 1, none⟩ = some (.int .i64 S) ∧ W.cell? ⟨bm, 2, none⟩ = some (.int .i64 B) ∧ W.cell? ⟨bm, 3, none⟩ = some (.slice A r c))
    (hQp : ∀ x (d : Option Nat) (v : Value) a w, Q (Exit.panic x) (Act.put a d v) w → Q (Exit.panic x) a w)
    (hQ : ∀ (wc : World) (v166 v167 v168 v169 v170 v171 v172 v173 v174 : Value), Below wC.heap.size wC wc → Q .normal { tmps := #[u0, u1, u2, u3, u4, u5, u6, u7, u8, Value.pointer (some ⟨sp, 0, none⟩), u10, Value.pointer (some ⟨bm, 0, none⟩), u12, Value.pointer (some ⟨ba, 0, none⟩), u14, u15, u16, u17, u18, u19, u20, u21, u22, u23, u24, u25, u26, u27, u28, u29, u30, u31, u32, u33, u34, u35, u36, u37, u38, u39, u40, u41, u42, u43, u44, u45, u46, u47, u48, u49, u50, u51, u52, u53, u54, u55, u56, u57, u58, u59, u60, u61, u62, u63, u64, u65, u66, u67, u68, u69, u70, u71, u72, u73, u74, u75, u76, u77, u78, u79, u80, u81, u82, u83, u84, u85, u86, u87, u88, u89, u90, u91, u92, u93, u94, u95, u96, u97, u98, u99, u100, u101, u102, u103, u104, u105, u106, u107, u108, u109, u110, u111, u112, u113, u114, u115, u116, u117, u118, u119, u120, u121, u122, u123, u124, u125, u126, u127, u128, u129, u130, u131, u132, u133, u134, u135, u136, u137, u138, u139, u140, u141, u142, u143, u144, u145, u146, u147, u148, u149, u150, u151, u152, u153, u154, u155, u156, u157, u158, u159, u160, u161, u162, u163, u164, u165, v166, v167, v168, v169, v170, v171, v172, v173, v174, Value.bool false, u176, u177, u178, u179, u180, u181, u182, u183, u184, u185, u186, u187, u188, u189, u190, u191, u192, u193, u194, u195, u196, u197, u198, u199, u200, u201, u202, u203, u204, u205, u206, u207, u208, u209, u210, u211, u212, u213], defers := [] } wc) :
    C.wp Tryz.prog Q { tmps := #[u0, u1, u2, u3, u4, u5, u6, u7, u8, Value.pointer (some ⟨sp, 0, none⟩), u10, Value.pointer (some ⟨bm, 0, none⟩), u12, Value.pointer (some ⟨ba, 0, none⟩), u14, u15, u16, u17, u18, u19, u20, u21, u22, u23, u24, u25, u26, u27, u28, u29, u30, u31, u32, u33, u34, u35, u36, u37, u38, u39, u40, u41, u42, u43, u44, u45, u46, u47, u48, u49, u50, u51, u52, u53, u54, u55, u56, u57, u58, u59, u60, u61, u62, u63, u64, u65, u66, u67, u68, u69, u70, u71, u72, u73, u74, u75, u76, u77, u78, u79, u80, u81, u82, u83, u84, u85, u86, u87, u88, u89, u90, u91, u92, u93, u94, u95, u96, u97, u98, u99, u100, u101, u102, u103, u104, u105, u106, u107, u108, u109, u110, u111, u112, u113, u114, u115, u116, u117, u118, u119, u120, u121, u122, u123, u124, u125, u126, u127, u128, u129, u130, u131, u132, u133, u134, u135, u136, u137, u138, u139, u140, u141, u142, u143, u144, u145, u146, u147, u148, u149, u150, u151, u152, u153, u154, u155, u156, u157, u158, u159, u160, u161, u162, u163, u164, u165, u166, u167, u168, u169, u170, u171, u172, u173, u174, u175, u176, u177, u178, u179, u180, u181, u182, u183, u184, u185, u186, u187, u188, u189, u190, u191, u192, u193, u194, u195, u196, u197, u198, u199, u200, u201, u202, u203, u204, u205, u206, u207, u208, u209, u210, u211, u212, u213], defers := [] } wC := by
  have mixed : Tryz.prog.follows .mixedOrders = true := by kernel_rfl
  unfold Tryz.f3 at hC
  simp only [rg, Option.bind_some, Nat.reduceBEq, Bool.false_eq_true, if_false, if_true] at hC
  injection hC with hC
  subst hC
  have HQ := Lib.hid hQ
  have HP := Lib.hid HDp
  have HL := Lib.hid HDl
  have HW := Lib.hid HSW
  clear hQ HDp HDl HSW
  obtain ⟨z0, x0, x1, x2, x3⟩ := HW.out _ (Below.refl _ _)
  go_wp2_with fail
  clear z0 x0 x1 x2 x3
  have TW := HW.out _ (U12.drew_below wC)
  refine wp_zed (S := fun W => W.cell? ⟨ba, 11, none⟩ = some (.int .u64 (N : Int)) ∧ W.cell? ⟨bm, 0, none⟩ = some (.int .u64 (G : Int)) ∧ W.cell? ⟨bm, 1, none⟩ = some (.int .i64 S) ∧ W.cell? ⟨bm, 2, none⟩ = some (.int .i64 B) ∧ W.cell? ⟨bm, 3, none⟩ = some (.slice A r c)) (z := 10) mixed ?_
  refine Zed.take0 (i := 0) (v := .pointer (some ⟨sp, 0, none⟩)) rfl rfl (by kernel_rfl) (by kernel_rfl) (by kernel_rfl) (fun _ _ _ h => hQp _ _ _ _ _ h) ?_ TW ?_
  · refine .inl ⟨rfl, fun W hW => ?_⟩
    obtain ⟨q0, q1, q2, q3, q4⟩ := hW
    go_simp
  (try simp only [Act.put, List.setIfInBounds_toArray, List.set_cons_zero, List.set_cons_succ])
  refine Zed.take0 (i := 1) (v := .pointer (some ⟨ba, 11, none⟩)) rfl rfl (by kernel_rfl) (by kernel_rfl) (by kernel_rfl) (fun _ _ _ h => hQp _ _ _ _ _ h) ?_ TW ?_
  · refine .inl ⟨rfl, fun W hW => ?_⟩
    obtain ⟨q0, q1, q2, q3, q4⟩ := hW
    go_simp
  (try simp only [Act.put, List.setIfInBounds_toArray, List.set_cons_zero, List.set_cons_succ])
  refine Zed.take0 (i := 2) (v := .int .u64 (N : Int)) rfl rfl (by kernel_rfl) (by kernel_rfl) (by kernel_rfl) (fun _ _ _ h => hQp _ _ _ _ _ h) ?_ TW ?_
  · refine .inl ⟨rfl, fun W hW => ?_⟩
    obtain ⟨q0, q1, q2, q3, q4⟩ := hW
    go_simp
  (try simp only [Act.put, List.setIfInBounds_toArray, List.set_cons_zero, List.set_cons_succ])
  refine Zed.take0 (i := 4) (v := .agg #[.int .u64 (G : Int), .int .i64 S, .int .i64 B, .slice A r c]) rfl rfl (by kernel_rfl) (by kernel_rfl) (by kernel_rfl) (fun _ _ _ h => hQp _ _ _ _ _ h) ?_ TW ?_
  · refine .inl ⟨rfl, fun W hW => ?_⟩
    obtain ⟨q0, q1, q2, q3, q4⟩ := hW
    go_simp
  (try simp only [Act.put, List.setIfInBounds_toArray, List.set_cons_zero, List.set_cons_succ])
  refine Zed.take0 (i := 5) (v := .pointer (some ⟨ba, 11, none⟩)) rfl rfl (by kernel_rfl) (by kernel_rfl) (by kernel_rfl) (fun _ _ _ h => hQp _ _ _ _ _ h) ?_ TW ?_
  · refine .inl ⟨rfl, fun W hW => ?_⟩
    obtain ⟨q0, q1, q2, q3, q4⟩ := hW
    go_simp
  (try simp only [Act.put, List.setIfInBounds_toArray, List.set_cons_zero, List.set_cons_succ])
  refine Zed.take0 (i := 6) (v := .int .u64 (N : Int)) rfl rfl (by kernel_rfl) (by kernel_rfl) (by kernel_rfl) (fun _ _ _ h => hQp _ _ _ _ _ h) ?_ TW ?_
  · refine .inl ⟨rfl, fun W hW => ?_⟩
    obtain ⟨q0, q1, q2, q3, q4⟩ := hW
    go_simp
  (try simp only [Act.put, List.setIfInBounds_toArray, List.set_cons_zero, List.set_cons_succ])
  clear TW
  refine Zed.step (i := 3) (by kernel_rfl) rfl rfl (fun K hK => ?_)
  go_simp
  refine (HP.out _ (U12.drew_below wC)).mono ?_
  rintro e v1 ⟨U1, d1, rfl, hu1, C1⟩
  have B1 := ((U12.drew_below wC)).trans (C1.mono ((U12.drew_below wC)).size)
  refine hK _ _ ⟨.inr (HW.out _ B1), ?_⟩
  clear hK K
  (try simp only [Act.put, List.setIfInBounds_toArray, List.set_cons_zero, List.set_cons_succ])
  refine Zed.step (i := 7) (by kernel_rfl) rfl rfl (fun K hK => ?_)
  go_simp
  refine (HL.out _ B1).mono ?_
  rintro e v2 ⟨U2, d2, rfl, hu2, C2⟩
  have B2 := (B1).trans (C2.mono (B1).size)
  refine hK _ _ ⟨.inr (HW.out _ B2), ?_⟩
  clear hK K
  (try simp only [Act.put, List.setIfInBounds_toArray, List.set_cons_zero, List.set_cons_succ])
  have HU1 := Lib.hid (hu1.below C2)
  have HU2 := Lib.hid hu2
  clear hu1 hu2
  refine Zed.step (i := 8) (by kernel_rfl) rfl rfl (fun K hK => ?_)
  go_simp
  refine (ints_at U1 U2 d1 d2 nd nd l l true _ HU1.out HU2.out hl hl (by omega) (by omega) (by simp)).mono ?_
  rintro e v3 ⟨rfl, C3⟩
  have B3 := (B2).trans (C3.mono (B2).size)
  refine hK _ _ ⟨.inr (HW.out _ B3), ?_⟩
  clear hK K
  (try simp only [Act.put, List.setIfInBounds_toArray, List.set_cons_zero, List.set_cons_succ])
  refine Zed.step (i := 9) (by kernel_rfl) rfl rfl (fun K hK => ?_)
  go_simp
  refine hK _ _ ⟨.inr (HW.out _ B3), Zed.done (by kernel_rfl) ?_ _⟩
  clear hK K
  (try simp only [Act.put, List.setIfInBounds_toArray, List.set_cons_zero, List.set_cons_succ])
  exact HQ.out _ _ _ _ _ _ _ _ _ _ B3
end Go.Proofs.YtdmibolbpgondaaGreat.X15
end

section
set_option linter.unusedSimpArgs false
set_option linter.unusedVariables false
namespace Go.Proofs.YtdmibolbpgondaaGreat.X15
open Go.RowKit Go.Lib Go.Maps Go.Proofs.YtdmibolbpgondaaGreat.Wd Go.Proofs.YtdmibolbpgondaaGreat.P06
set_option maxRecDepth 200000 in
set_option maxHeartbeats 40000000 in
theorem reg44 (C : Code) (hC : Tryz.f3.body.bind (rg 44) = some C) (Q : Exit → Act → World → Prop) (wC : World) (u0 u1 u2 u3 u4 u5 u6 u7 u8 u9 u10 u12 u13 u14 u15 u16 u17 u18 u19 u20 u21 u22 u25 u26 u27 u28 u29 u30 u31 u32 u33 u34 u35 u36 u37 u38 u39 u40 u41 u42 u43 u44 u45 u46 u47 u48 u49 u50 u51 u52 u53 u54 u55 u56 u57 u58 u59 u60 u61 u62 u63 u64 u65 u66 u67 u68 u69 u70 u71 u72 u73 u74 u75 u76 u77 u78 u79 u80 u81 u82 u83 u84 u85 u86 u87 u88 u89 u90 u91 u92 u93 u94 u95 u96 u97 u98 u99 u100 u101 u102 u103 u104 u105 u106 u107 u108 u109 u110 u111 u112 u113 u114 u115 u116 u117 u118 u119 u120 u121 u122 u123 u124 u125 u126 u127 u128 u129 u130 u131 u132 u133 u134 u135 u136 u137 u138 u139 u140 u141 u142 u143 u144 u145 u146 u147 u148 u149 u150 u151 u152 u153 u154 u155 u156 u157 u158 u159 u160 u161 u162 u163 u164 u165 u166 u167 u168 u169 u170 u171 u172 u173 u174 u175 u176 u177 u178 u179 u180 u181 u182 u183 u184 u185 u186 u187 u188 u189 u190 u191 u192 u193 u194 u195 u196 u197 u198 u199 u200 u201 u202 u203 u204 u205 u206 u207 u208 u209 u210 u211 u212 u213 : Value) (bm nd d j t G : Nat) (ad : Addr) (S B : Int) (A : Option Addr) (r c : Nat) (hj : j < nd)
    (P : Option Addr → Nat → Nat → World → Prop)
    (HT : ∀ W, Below wC.heap.size wC W → Calls Tryz.prog 17 #[.agg #[.int .u64 (G : Int), .int .i64 S, .int .i64 B, .slice A r c], .int .u64 (t : Int)] W fun e w' => ∃ A1 k1 c1 A2 n2 c2, e = .returned (.tuple #[.slice A1 k1 c1, .agg #[.int .u64 (G : Int), .int .i64 S, .int .i64 B, .slice A2 n2 c2]]) ∧ P A2 n2 c2 w' ∧ Below W.heap.size W w')
    (HSW : ∀ W, Below wC.heap.size wC W → W.cell? ⟨bm, 0, none⟩ = some (.int .u64 (G : Int)) ∧ W.cell? ⟨bm, 1, none⟩ = some (.int .i64 S) ∧ W.cell? ⟨bm, 2, none⟩ = some (.int .i64 B) ∧ W.cell? ⟨bm, 3, none⟩ = some (.slice A r c) ∧ W.cell? (ad.add j) = some (.int .u64 (t : Int)))
    (HF : ∀ W, Below wC.heap.size wC W → ∀ i, W.frozen? ⟨bm, i, none⟩ = false)
    (hQp : ∀ x (d : Option Nat) (v : Value) a w, Q (Exit.panic x) (Act.put a d v) w → Q (Exit.panic x) a w)
    (hQ : ∀ (A2 : Option Addr) (n2 c2 : Nat) (wc : World) (v201 v202 v203 v204 v205 v206 v207 v208 v209 : Value), P A2 n2 c2 wc → Q .normal { tmps := #[u0, u1, u2, u3, u4, u5, u6, u7, u8, u9, u10, Value.pointer (some ⟨bm, 0, none⟩), u12, u13, u14, u15, u16, u17, u18, u19, u20, u21, u22, Value.slice (some ad) nd d, Value.int .i64 (j : Int), u25, u26, u27, u28, u29, u30, u31, u32, u33, u34, u35, u36, u37, u38, u39, u40, u41, u42, u43, u44, u45, u46, u47, u48, u49, u50, u51, u52, u53, u54, u55, u56, u57, u58, u59, u60, u61, u62, u63, u64, u65, u66, u67, u68, u69, u70, u71, u72, u73, u74, u75, u76, u77, u78, u79, u80, u81, u82, u83, u84, u85, u86, u87, u88, u89, u90, u91, u92, u93, u94, u95, u96, u97, u98, u99, u100, u101, u102, u103, u104, u105, u106, u107, u108, u109, u110, u111, u112, u113, u114, u115, u116, u117, u118, u119, u120, u121, u122, u123, u124, u125, u126, u127, u128, u129, u130, u131, u132, u133, u134, u135, u136, u137, u138, u139, u140, u141, u142, u143, u144, u145, u146, u147, u148, u149, u150, u151, u152, u153, u154, u155, u156, u157, u158, u159, u160, u161, u162, u163, u164, u165, u166, u167, u168, u169, u170, u171, u172, u173, u174, u175, u176, u177, u178, u179, u180, u181, u182, u183, u184, u185, u186, u187, u188, u189, u190, u191, u192, u193, u194, u195, u196, u197, u198, u199, u200, v201, v202, v203, v204, v205, v206, v207, v208, v209, u210, u211, u212, u213], defers := [] } ((((wc.setCell ⟨bm, 0, none⟩ (.int .u64 (G : Int))).setCell ⟨bm, 1, none⟩ (.int .i64 S)).setCell ⟨bm, 2, none⟩ (.int .i64 B)).setCell ⟨bm, 3, none⟩ (.slice A2 n2 c2))) :
    C.wp Tryz.prog Q { tmps := #[u0, u1, u2, u3, u4, u5, u6, u7, u8, u9, u10, Value.pointer (some ⟨bm, 0, none⟩), u12, u13, u14, u15, u16, u17, u18, u19, u20, u21, u22, Value.slice (some ad) nd d, Value.int .i64 (j : Int), u25, u26, u27, u28, u29, u30, u31, u32, u33, u34, u35, u36, u37, u38, u39, u40, u41, u42, u43, u44, u45, u46, u47, u48, u49, u50, u51, u52, u53, u54, u55, u56, u57, u58, u59, u60, u61, u62, u63, u64, u65, u66, u67, u68, u69, u70, u71, u72, u73, u74, u75, u76, u77, u78, u79, u80, u81, u82, u83, u84, u85, u86, u87, u88, u89, u90, u91, u92, u93, u94, u95, u96, u97, u98, u99, u100, u101, u102, u103, u104, u105, u106, u107, u108, u109, u110, u111, u112, u113, u114, u115, u116, u117, u118, u119, u120, u121, u122, u123, u124, u125, u126, u127, u128, u129, u130, u131, u132, u133, u134, u135, u136, u137, u138, u139, u140, u141, u142, u143, u144, u145, u146, u147, u148, u149, u150, u151, u152, u153, u154, u155, u156, u157, u158, u159, u160, u161, u162, u163, u164, u165, u166, u167, u168, u169, u170, u171, u172, u173, u174, u175, u176, u177, u178, u179, u180, u181, u182, u183, u184, u185, u186, u187, u188, u189, u190, u191, u192, u193, u194, u195, u196, u197, u198, u199, u200, u201, u202, u203, u204, u205, u206, u207, u208, u209, u210, u211, u212, u213], defers := [] } wC := by
  have mixed : Tryz.prog.follows .mixedOrders = true := by kernel_rfl
  unfold Tryz.f3 at hC
  simp only [rg, Option.bind_some, Nat.reduceBEq, Bool.false_eq_true, if_false, if_true] at hC
  injection hC with hC
  subst hC
  have HQ := Lib.hid hQ
  have HL := Lib.hid HT
  have HW := Lib.hid HSW
  have HFZ := Lib.hid HF
  clear hQ HT HSW HF
  obtain ⟨x0, x1, x2, x3, y0⟩ := HW.out _ (Below.refl _ _)
  have j0 : (0 : Int) ≤ (j : Int) := by omega
  have j1 : (j : Int) < (nd : Int) := by omega
  have j2 : ((j : Int)).toNat = j := by omega
  go_wp2_with fail
  clear x0 x1 x2 x3 y0
  have TW := HW.out _ (U12.drew_below wC)
  refine wp_zed (S := fun W => W.cell? ⟨bm, 0, none⟩ = some (.int .u64 (G : Int)) ∧ W.cell? ⟨bm, 1, none⟩ = some (.int .i64 S) ∧ W.cell? ⟨bm, 2, none⟩ = some (.int .i64 B) ∧ W.cell? ⟨bm, 3, none⟩ = some (.slice A r c) ∧ W.cell? (ad.add j) = some (.int .u64 (t : Int))) (z := 9) mixed ?_
  refine Zed.take (i := 0) (v := .agg #[.int .u64 (G : Int), .int .i64 S, .int .i64 B, .slice A r c]) rfl (by kernel_rfl) rfl (by kernel_rfl) (by kernel_rfl) (by kernel_rfl) (fun _ _ _ h => hQp _ _ _ _ _ h) ?_ TW ?_
  · refine .inl ⟨rfl, fun W hW => ?_⟩
    obtain ⟨q0, q1, q2, q3, q4⟩ := hW
    go_simp
  (try simp only [Act.put, List.setIfInBounds_toArray, List.set_cons_zero, List.set_cons_succ])
  refine Zed.take (i := 1) (v := .slice (some ad) nd d) rfl (by kernel_rfl) rfl (by kernel_rfl) (by kernel_rfl) (by kernel_rfl) (fun _ _ _ h => hQp _ _ _ _ _ h) ?_ TW ?_
  · refine .inl ⟨rfl, fun W hW => ?_⟩
    obtain ⟨q0, q1, q2, q3, q4⟩ := hW
    go_simp
  (try simp only [Act.put, List.setIfInBounds_toArray, List.set_cons_zero, List.set_cons_succ])
  refine Zed.take (i := 2) (v := .int .i64 (j : Int)) rfl (by kernel_rfl) rfl (by kernel_rfl) (by kernel_rfl) (by kernel_rfl) (fun _ _ _ h => hQp _ _ _ _ _ h) ?_ TW ?_
  · refine .inl ⟨rfl, fun W hW => ?_⟩
    obtain ⟨q0, q1, q2, q3, q4⟩ := hW
    go_simp
  (try simp only [Act.put, List.setIfInBounds_toArray, List.set_cons_zero, List.set_cons_succ])
  refine Zed.take (i := 3) (v := .pointer (some (ad.add j))) rfl (by kernel_rfl) rfl (by kernel_rfl) (by kernel_rfl) (by kernel_rfl) (fun _ _ _ h => hQp _ _ _ _ _ h) ?_ TW ?_
  · refine .inl ⟨rfl, fun W hW => ?_⟩
    obtain ⟨q0, q1, q2, q3, q4⟩ := hW
    go_simp
  (try simp only [Act.put, List.setIfInBounds_toArray, List.set_cons_zero, List.set_cons_succ])
  refine Zed.take (i := 4) (v := .int .u64 (t : Int)) rfl (by kernel_rfl) rfl (by kernel_rfl) (by kernel_rfl) (by kernel_rfl) (fun _ _ _ h => hQp _ _ _ _ _ h) ?_ TW ?_
  · refine .inl ⟨rfl, fun W hW => ?_⟩
    obtain ⟨q0, q1, q2, q3, q4⟩ := hW
    go_simp
  (try simp only [Act.put, List.setIfInBounds_toArray, List.set_cons_zero, List.set_cons_succ])
  clear TW
  refine Zed.step (i := 5) (by kernel_rfl) rfl rfl (fun K hK => ?_)
  go_simp
  refine (HL.out _ (U12.drew_below wC)).mono ?_
  rintro e v1 ⟨A1, k1, c1, A2, n2, c2, rfl, hp, C1⟩
  have B1 := (U12.drew_below wC).trans (C1.mono (U12.drew_below wC).size)
  refine hK _ _ ⟨.inr (HW.out _ B1), ?_⟩
  clear hK K
  (try simp only [Act.put, List.setIfInBounds_toArray, List.set_cons_zero, List.set_cons_succ])
  have TW := HW.out _ B1
  refine Zed.take (i := 6) (v := .tuple #[.slice A1 k1 c1, .agg #[.int .u64 (G : Int), .int .i64 S, .int .i64 B, .slice A2 n2 c2]]) rfl (by kernel_rfl) rfl (by kernel_rfl) (by kernel_rfl) (by kernel_rfl) (fun _ _ _ h => hQp _ _ _ _ _ h) ?_ TW ?_
  · refine .inl ⟨rfl, fun W hW => ?_⟩
    obtain ⟨q0, q1, q2, q3, q4⟩ := hW
    go_simp
  (try simp only [Act.put, List.setIfInBounds_toArray, List.set_cons_zero, List.set_cons_succ])
  refine Zed.take (i := 7) (v := .slice A1 k1 c1) rfl (by kernel_rfl) rfl (by kernel_rfl) (by kernel_rfl) (by kernel_rfl) (fun _ _ _ h => hQp _ _ _ _ _ h) ?_ TW ?_
  · refine .inl ⟨rfl, fun W hW => ?_⟩
    obtain ⟨q0, q1, q2, q3, q4⟩ := hW
    go_simp
  (try simp only [Act.put, List.setIfInBounds_toArray, List.set_cons_zero, List.set_cons_succ])
  refine Zed.take (i := 8) (v := .agg #[.int .u64 (G : Int), .int .i64 S, .int .i64 B, .slice A2 n2 c2]) rfl (by kernel_rfl) rfl (by kernel_rfl) (by kernel_rfl) (by kernel_rfl) (fun _ _ _ h => hQp _ _ _ _ _ h) ?_ TW ?_
  · refine .inl ⟨rfl, fun W hW => ?_⟩
    obtain ⟨q0, q1, q2, q3, q4⟩ := hW
    go_simp
  (try simp only [Act.put, List.setIfInBounds_toArray, List.set_cons_zero, List.set_cons_succ])
  obtain ⟨x0, x1, x2, x3, y0⟩ := TW
  have f0 := HFZ.out _ B1 0
  have f1 := HFZ.out _ B1 1
  have f2 := HFZ.out _ B1 2
  have f3 := HFZ.out _ B1 3
  refine Zed.step (i := 9) (by kernel_rfl) rfl rfl (fun K hK => ?_)
  go_simp
  refine hK _ _ ⟨.inl rfl, Zed.done (by kernel_rfl) ?_ _⟩
  clear hK K
  (try simp only [Act.put, List.setIfInBounds_toArray, List.set_cons_zero, List.set_cons_succ])
  exact HQ.out _ _ _ _ _ _ _ _ _ _ _ _ _ hp
end Go.Proofs.YtdmibolbpgondaaGreat.X15
end
