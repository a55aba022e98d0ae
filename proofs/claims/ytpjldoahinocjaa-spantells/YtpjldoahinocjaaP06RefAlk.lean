/-
  The document's Alike.
-/
import Derived.Test.YtpjldoahinocjaaP06RefAlk0
import Derived.Deep.QuietTactic
import Derived.BigQuiet
set_option linter.unusedSimpArgs false
set_option linter.unusedVariables false
namespace Go.Proofs.Ytpjldoahinocjaa.P06
open Go.Shelf Go.RowKit Go.Lib Go.Sort Go.Proofs.Ytpjldoahinocjaa.Wd Go.Proofs.Ytpjldoahinocjaa.V04

set_option maxRecDepth 20000 in
set_option maxHeartbeats 8000000 in
theorem refalike_any (s : Sp) (m : Int) (A : Option Addr) (c n : Nat) (l : List At) (w : World) (h : Ats w A c l) (hn : l.length = n) (hm : n ≤ 40) (hs1 : s.sv.size ≤ 65536) (hs2 : s.nm.size ≤ 65536) :
    Calls Try.prog 15 #[spv s (.slice A n c), .int .i64 m] w (AlOut w (alk s m) n l) := by
  have hc1 : ∀ W, Calls Try.prog 29 #[.string s.sv, .int .i64 m] W fun e w' => e = .returned (.string (lab s.sv m)) ∧ Below W.heap.size W w' := fun W => (reflabel_any s.sv m W hs1).mono (by rintro e w' ⟨rfl, rfl⟩; exact ⟨rfl, Below.refl _ _⟩)
  have hc2 : ∀ W, Calls Try.prog 29 #[.string s.nm, .int .i64 m] W fun e w' => e = .returned (.string (lab s.nm m)) ∧ Below W.heap.size W w' := fun W => (reflabel_any s.nm m W hs2).mono (by rintro e w' ⟨rfl, rfl⟩; exact ⟨rfl, Below.refl _ _⟩)
  have HA : Hid (alk s m = ⟨s.T, s.I, s.P, lab s.sv m, lab s.nm m, s.kd, s.st, s.t0, s.t1⟩) := rfl
  generalize lab s.sv m = L1 at *
  generalize lab s.nm m = L2 at *
  generalize alk s m = s2 at *
  obtain ⟨i0, hi, hz0, hz1, hz2⟩ := info_parts rattr_info
  have HN := Lib.hid hn
  obtain ⟨W0, hW0⟩ : ∃ W0, (((w.alloc (.cells (spc s (.slice A n c)) 25)).alloc (.cells zsp 25)).alloc (.cells (spc s (.slice A n c)) 25)) = W0 := ⟨_, rfl⟩
  have hK : Bk W0 w.heap.size 25 (spc s (.slice A n c)) ∧ Bk W0 (w.heap.size + 1) 25 zsp ∧ Bk W0 (w.heap.size + 1 + 1) 25 (spc s (.slice A n c)) ∧ Below w.heap.size w W0 ∧ W0.heap.size = w.heap.size + 1 + 1 + 1 := by
    have h1 := Bk.new w 25 (spc s (.slice A n c))
    have h2 := Bk.new (w.alloc (.cells (spc s (.slice A n c)) 25)) 25 zsp
    have h3 := Bk.new ((w.alloc (.cells (spc s (.slice A n c)) 25)).alloc (.cells zsp 25)) 25 (spc s (.slice A n c))
    have up : ∀ (W : World) (g : Nat) (t : TypeId) (cs : Array Value) (o : Obj), Bk W g t cs → Bk (W.alloc o) g t cs := fun W g t cs o h => h.below ((Below.refl _ _).alloc (Nat.le_refl _) _)
    have hb : Below w.heap.size w (((w.alloc (.cells (spc s (.slice A n c)) 25)).alloc (.cells zsp 25)).alloc (.cells (spc s (.slice A n c)) 25)) := by go_grown
    subst hW0
    refine ⟨up _ _ _ _ _ (up _ _ _ _ _ h1), by simpa using up _ _ _ _ (.cells (spc s (.slice A n c)) 25) h2, by simpa using h3, hb, by simp⟩
  have HW := Lib.hid hW0
  clear hn hW0
  go_enter Try.func15, Try.ntmps15
  go_wp2_with fail
  refine (hc1 _).mono ?_
  rintro e w2 ⟨rfl, hb2⟩
  replace hb2 : Below W0.heap.size W0 w2 := by rw [← un HW]; exact hb2
  clear HW
  obtain ⟨K1, K2, K3, b0, hz⟩ := hK
  replace K1 := K1.below hb2
  replace K2 := K2.below hb2
  replace K3 := K3.below hb2
  replace b0 := b0.trans (hb2.mono b0.size)
  have hlt : w.heap.size + 1 + 1 + 1 ≤ w2.heap.size := by have := hb2.size; omega
  clear hb2 hz hc1
  have x3 : w2.cell? ⟨w.heap.size + 1 + 1, 3, none⟩ = some (.string s.sv) := K3.cell 3
  have g3 := K3.frozen 3
  have x4 : w2.cell? ⟨w.heap.size, 4, none⟩ = some (.string s.nm) := K1.cell 4
  go_wp2_with fail
  refine (hc2 _).mono ?_
  rintro e w3 ⟨rfl, hb3⟩
  have e3 : (spc s (.slice A n c)).setIfInBounds 3 (.string L1) = spc ⟨s.T, s.I, s.P, L1, s.nm, s.kd, s.st, s.t0, s.t1⟩ (.slice A n c) := rfl
  have J3 := (K3.set 3 (.string L1)).below hb3
  rw [e3] at J3
  have J1 := (K1.other (w.heap.size + 1 + 1) 3 (.string L1) (by omega)).below hb3
  have J2 := (K2.other (w.heap.size + 1 + 1) 3 (.string L1) (by omega)).below hb3
  have b3 : Below w.heap.size w w3 := (b0.setCell (p := ⟨w.heap.size + 1 + 1, 3, none⟩) (by show w.heap.size ≤ w.heap.size + 1 + 1; omega) (.string L1)).trans (hb3.mono (by simpa using b0.size))
  have hlt3 : w.heap.size + 1 + 1 + 1 ≤ w3.heap.size := by have := hb3.size; simp at this; omega
  clear hb3 hc2 K1 K2 K3 x3 x4 g3 b0 e3 hlt
  have e4 : (spc ⟨s.T, s.I, s.P, L1, s.nm, s.kd, s.st, s.t0, s.t1⟩ (.slice A n c)).setIfInBounds 4 (.string L2) = spc s2 (.slice A n c) := by rw [un HA]; rfl
  have M3 := J3.set 4 (.string L2)
  rw [e4] at M3
  have e5 : (spc s2 (.slice A n c)).setIfInBounds 9 (.slice none 0 0) = spc s2 (.slice none 0 0) := rfl
  have N3 := M3.set 9 (.slice none 0 0)
  rw [e5] at N3
  have N1 := (J1.other (w.heap.size + 1 + 1) 4 (.string L2) (by omega)).other (w.heap.size + 1 + 1) 9 (.slice none 0 0) (by omega)
  have N2 := (J2.other (w.heap.size + 1 + 1) 4 (.string L2) (by omega)).other (w.heap.size + 1 + 1) 9 (.slice none 0 0) (by omega)
  have bN := (b3.setCell (p := ⟨w.heap.size + 1 + 1, 4, none⟩) (by show w.heap.size ≤ w.heap.size + 1 + 1; omega) (.string L2)).setCell (p := ⟨w.heap.size + 1 + 1, 9, none⟩) (by show w.heap.size ≤ w.heap.size + 1 + 1; omega) (.slice none 0 0)
  have x4 : w3.cell? ⟨w.heap.size + 1 + 1, 4, none⟩ = some (.string s.nm) := J3.cell 4
  have x9 : w3.cell? ⟨w.heap.size + 1 + 1, 9, none⟩ = some (.slice A n c) := J3.cell 9
  have g4 := J3.frozen 4
  have g9 := J3.frozen 9
  have hst : AkR w s s2 (.slice A n c) l 0 none 0 [] ((w3.setCell ⟨w.heap.size + 1 + 1, 4, none⟩ (.string L2)).setCell ⟨w.heap.size + 1 + 1, 9, none⟩ (.slice none 0 0)) :=
    ⟨N1, N2, N3, Hd.nil _ _, rfl, Sd.nil, by simpa using Fe.refl _, bN, by simpa using hlt3⟩
  clear J1 J2 J3 M3 N1 N2 N3 bN b3 hlt3 HA e4 e5
  go_wp2
  clear x4 x9 g4 g9
  go_loopw [6] (fun v wr => ∃ (k : Nat) (A2 : Option Addr) (c2 : Nat) (Y : List At), v = .int .i64 k ∧ k ≤ n ∧ AkR w s s2 (.slice A n c) l k A2 c2 Y wr) (fun v _ => n - (intOf v).toNat)
  case atStart => exact ⟨0, none, 0, [], rfl, Nat.zero_le _, hst⟩
  case round =>
    clear hst
    obtain ⟨k, A2, c2, Y, rfl, hk, R⟩ := hrel
    obtain ⟨HL⟩ : Nonempty (Hid (Y.length = k)) := ⟨R.len⟩
    have c9 : wr.cell? ⟨w.heap.size, 9, none⟩ = some (.slice A n c) := R.b1.cell 9
    have o9 : wr.cell? ⟨w.heap.size + 1 + 1, 9, none⟩ = some (.slice A2 k c2) := R.b3.cell 9
    by_cases hlt : k < n
    · have hltz : (k : Int) < (n : Int) := by omega
      have hkl : k < l.length := by rw [un HN]; exact hlt
      obtain ⟨ad, p, rfl, hp, F⟩ := h.get hkl
      have pl := World.block_lt_of_cell? _ _ F.c0
      have F0 := Lib.hid F
      clear F
      go_wp2
      go_loopw [7] (fun v wr => ∃ j : Nat, v = .int .i64 j ∧ j ≤ k ∧ AkR w s s2 (.slice (some ad) n c) l k A2 c2 Y wr ∧ Hid (Pos Y l[k] j)) (fun v _ => (intOf v).toNat)
      case atStart => exact ⟨k, rfl, Nat.le_refl _, R, fun i hi hj => by have := un HL; omega⟩
      case round =>
        clear R c9 o9
        obtain ⟨j, rfl, hj, R, HP⟩ := hrel
        have c9 : wr.cell? ⟨w.heap.size, 9, none⟩ = some (.slice (some ad) n c) := R.b1.cell 9
        have o9 : wr.cell? ⟨w.heap.size + 1 + 1, 9, none⟩ = some (.slice A2 k c2) := R.b3.cell 9
        by_cases hj0 : j = 0
        · have q1 : ¬ ((0 : Int) < (j : Int)) := by omega
          have q2 : decide ((0 : Int) < (j : Int)) = false := decide_eq_false q1
          have q3 : decide (0 < j) = false := decide_eq_false (by omega)
          clear q1
          have HQ : Hid (Pre Y l[k] j) := fun h h2 => by omega
          clear hj0
          go_wp2_with fail
          go_quiet (fail)
          clear q2 q3 c9 o9
          replace R := R.drewN nq
          generalize wr.drewN nq = W at R ⊢
          have c9 : W.cell? ⟨w.heap.size, 9, none⟩ = some (.slice (some ad) n c) := R.b1.cell 9
          have o9 : W.cell? ⟨w.heap.size + 1 + 1, 9, none⟩ = some (.slice A2 k c2) := R.b3.cell 9
          have hcap : k ≤ c2 := by have := R.own.cap; have := un HL; omega
          have e1 : (0 : Int) ≤ (j : Int) := by omega
          have e2 : ((j : Int)).toNat = j := by omega
          have e3 : (j : Int) ≤ (k : Int) := by omega
          have e4 : (j : Int) ≤ (c2 : Int) := by omega
          have e5 : j ≤ c2 := by omega
          have ho := own_empty4 W 46
          have b1 : Below W.heap.size W (W.alloc (.cells #[] 46)) := below_box _ _ (Nat.le_refl _)
          have o8 : (W.alloc (.cells #[] 46)).cell? ⟨w.heap.size + 1 + 1, 9, none⟩ = some (.slice A2 k c2) := (R.b3.below b1).cell 9
          have hr1 : Rd 4 (W.alloc (.cells #[] 46)) A2 j c2 ((Y.take j).flatMap enc) := (R.own.ats.take j (by have := un HL; omega)).below b1
          have hd1 : 0 + j ≤ maxLen := by unfold maxLen; omega
          have hd2 : (0 + j) * 48 ≤ 140737488355328 := by omega
          have hd3 : W.heap.size ≤ (W.alloc (.cells #[] 46)).heap.size := b1.size
          go_wp2_with (at_builtin; refine wpList_append_rd _ rfl (.tmp 51) (.tmp 55) 23 rfl W.heap.size 46 i0 _ 4 48 Try.underlying23 hi hz0 hz1 hz2 rfl (by decide) _ 0 [] rfl ho A2 j c2 ((Y.take j).flatMap enc) rfl hr1 (fm_one _) hd1 hd2 hd3 ?_)
          intro A3 c3 w2 ho2 hg2
          have b2 : Below W.heap.size W w2 := b1.grown hg2 b1.size fun k hk => (ho.lt k hk).1
          (try rw [Nat.zero_add] at ho2)
          (try rw [Nat.zero_add])
          (try rw [List.nil_append] at ho2)
          clear hg2 hr1 ho b1 hd1 hd2 hd3 c9 o9 o8
          have bw2 : Below w.heap.size w w2 := R.bel.trans (b2.mono R.bel.size)
          have c9 : w2.cell? ⟨w.heap.size, 9, none⟩ = some (.slice (some ad) n c) := (R.b1.below b2).cell 9
          have f0 := (bw2.cell (p := p) pl).trans (un F0).c0
          have f1 := (bw2.cell (p := ⟨p.block, p.off + 1, none⟩) pl).trans (un F0).c1
          have f2 := (bw2.cell (p := ⟨p.block, p.off + 2, none⟩) pl).trans (un F0).c2
          have f3 := (bw2.cell (p := ⟨p.block, p.off + 3, none⟩) pl).trans (un F0).c3
          have ho3 := ho2.alloc (.cells #[.string l[k].key, .int .i64 l[k].K, .int .i64 l[k].N, .string l[k].S] 46)
          have b2' := b2.alloc b2.size (.cells #[.string l[k].key, .int .i64 l[k].K, .int .i64 l[k].N, .string l[k].S] 46)
          have hlit := Rd.lit4 w2 46 l[k]
          have d4 : j + 1 ≤ maxLen := by unfold maxLen; omega
          have d5 : (j + 1) * 48 ≤ 140737488355328 := by omega
          have d6 : W.heap.size ≤ (w2.alloc (.cells #[.string l[k].key, .int .i64 l[k].K, .int .i64 l[k].N, .string l[k].S] 46)).heap.size := b2'.size
          clear bw2
          go_wp2_with (at_builtin; refine wpList_append_rd _ rfl (.tmp 57) (.tmp 63) 23 rfl W.heap.size 46 i0 _ 4 48 Try.underlying23 hi hz0 hz1 hz2 rfl (by decide) _ j ((Y.take j).flatMap enc) rfl ho3 (some ⟨w2.heap.size, 0, none⟩) 1 1 (enc l[k]) rfl hlit (enc_one _) d4 d5 d6 ?_)
          intro A4 c4 w3 ho4 hg4
          have b3 : Below W.heap.size W w3 := b2'.grown hg4 b2'.size fun k hk => (ho3.lt k hk).1
          clear hg4 hlit ho3 b2' d4 d5 d6 c9 f0 f1 f2 f3 ho2 b2
          have c9 : w3.cell? ⟨w.heap.size, 9, none⟩ = some (.slice (some ad) n c) := (R.b1.below b3).cell 9
          have o9 : w3.cell? ⟨w.heap.size + 1 + 1, 9, none⟩ = some (.slice A2 k c2) := (R.b3.below b3).cell 9
          have hr3 := (R.own.ats.drop j (by have := un HL; omega)).below b3
          rw [un HL] at hr3
          by_cases hcj : c2 = j
          · have ej : k - j = 0 := by omega
            have ec : c2 - j = 0 := by omega
            rw [cut4, if_pos hcj, ej, ec] at hr3
            have d7 : j + 1 + 0 ≤ maxLen := by unfold maxLen; omega
            have d8 : (j + 1 + 0) * 48 ≤ 140737488355328 := by omega
            have d9 : W.heap.size ≤ w3.heap.size := b3.size
            go_wp2_with (at_builtin; refine wpList_append_rd _ rfl (.tmp 65) (.tmp 69) 23 rfl W.heap.size 46 i0 _ 4 48 Try.underlying23 hi hz0 hz1 hz2 rfl (by decide) _ (j + 1) ((Y.take j).flatMap enc ++ enc l[k]) rfl ho4 (A2) _ _ ((Y.drop j).flatMap enc) rfl hr3 (fm_one _) d7 d8 d9 ?_)
            intro A5 c5 w4 ho5 hg5
            have b4 : Below W.heap.size W w4 := b3.grown hg5 b3.size fun k hk => (ho4.lt k hk).1
            have y9 : w4.cell? ⟨w.heap.size + 1 + 1, 9, none⟩ = some (.slice A2 k c2) := (R.b3.below b4).cell 9
            have yf := (R.b3.below b4).frozen 9
            have e6 : j + 1 + 0 = k + 1 := by omega
            rw [e6] at ho5 ⊢
            have hput := put_next hkl (un HL) hj R.srt R.keep (un HP) (un HQ)
            have hown : Hd W.heap.size w4 A5 c5 (Y.take j ++ l[k] :: Y.drop j) := by
              refine Hd.own (e := 46) ?_
              rw [hput.2.2]
              simpa [List.flatMap_append, List.flatMap_cons] using ho5
            have R2 := R.next hput.2.2 hput.1 hput.2.1 b4 hown
            clear ho5 hg5 b4 b3 ho4 R hput hown c9 o9
            go_wp2
            go_roundw
            case rel => exact ⟨k + 1, A5, c5, _, by go_num, by omega, R2⟩
            case measure => simp [intOf]; omega
          · rw [cut4, if_neg hcj] at hr3
            have d7 : j + 1 + (k - j) ≤ maxLen := by unfold maxLen; omega
            have d8 : (j + 1 + (k - j)) * 48 ≤ 140737488355328 := by omega
            have d9 : W.heap.size ≤ w3.heap.size := b3.size
            go_wp2_with (at_builtin; refine wpList_append_rd _ rfl (.tmp 65) (.tmp 69) 23 rfl W.heap.size 46 i0 _ 4 48 Try.underlying23 hi hz0 hz1 hz2 rfl (by decide) _ (j + 1) ((Y.take j).flatMap enc ++ enc l[k]) rfl ho4 (A2.map (·.add (j * 4))) _ _ ((Y.drop j).flatMap enc) rfl hr3 (fm_one _) d7 d8 d9 ?_)
            intro A5 c5 w4 ho5 hg5
            have b4 : Below W.heap.size W w4 := b3.grown hg5 b3.size fun k hk => (ho4.lt k hk).1
            have y9 : w4.cell? ⟨w.heap.size + 1 + 1, 9, none⟩ = some (.slice A2 k c2) := (R.b3.below b4).cell 9
            have yf := (R.b3.below b4).frozen 9
            have e6 : j + 1 + (k - j) = k + 1 := by omega
            rw [e6] at ho5 ⊢
            have hput := put_next hkl (un HL) hj R.srt R.keep (un HP) (un HQ)
            have hown : Hd W.heap.size w4 A5 c5 (Y.take j ++ l[k] :: Y.drop j) := by
              refine Hd.own (e := 46) ?_
              rw [hput.2.2]
              simpa [List.flatMap_append, List.flatMap_cons] using ho5
            have R2 := R.next hput.2.2 hput.1 hput.2.1 b4 hown
            clear ho5 hg5 b4 b3 ho4 R hput hown c9 o9
            go_wp2
            go_roundw
            case rel => exact ⟨k + 1, A5, c5, _, by go_num, by omega, R2⟩
            case measure => simp [intOf]; omega
        · obtain ⟨q, hq⟩ : ∃ q, j = q + 1 := ⟨j - 1, by omega⟩
          have hqY : q < Y.length := by have := un HL; omega
          have HS := R.own.get hqY
          obtain ⟨g, hA2, _, _, G⟩ := HS
          have f0 := (R.bel.cell (p := p) pl).trans (un F0).c0
          have f1 := G.c0
          clear G
          obtain ⟨t, ht⟩ : ∃ t, (!Op.bytesLess Y[q].key.toList l[k].key.toList && !(Y[q].key.toList == l[k].key.toList)) = t := ⟨_, rfl⟩
          have HT := Lib.hid ht
          have q1 : (0 : Int) < (j : Int) := by omega
          have q2 : IntKind.i64.wrap ((j : Int) - 1) = (q : Int) := by rw [IntKind.wrap_i64]; omega
          have q3 : (0 : Int) ≤ (q : Int) := by omega
          have q4 : ((q : Int)).toNat = q := by omega
          have q5 : (q : Int) < (k : Int) := by omega
          have q6 : (0 : Int) ≤ (k : Int) := by omega
          have q7 : ((k : Int)).toNat = k := by omega
          have q8 : decide ((0 : Int) < (j : Int)) = true := decide_eq_true q1
          have q10 : decide (0 < j) = true := decide_eq_true (by omega)
          have q9 : (j : Int) - 1 = (q : Int) := by omega
          have HQq := Lib.hid hq
          clear hq hj0
          subst hA2
          cases t with
          | true =>
            go_wp2_with fail
            go_quiet (fail)
            replace R := R.drewN nq
            generalize wr.drewN nq = W at R ⊢
            clear c9 o9 f0 f1
            go_wp2
            go_roundw
            case rel =>
              refine ⟨q, by go_num, by have := un HQq; omega, R, fun i hi hqi => ?_⟩
              by_cases e : i = q
              · subst e
                exact (gt_key _ _).1 (un HT)
              · exact un HP i hi (by have := un HQq; omega)
            case measure => have := un HQq; simp [intOf]; omega
          | false =>
            have HQ : Hid (Pre Y l[k] j) := fun h h2 => by
              have e := un HQq
              subst e
              refine Classical.byContradiction fun hn => ?_
              have := (gt_key l[k] Y[q]).2 hn
              rw [un HT] at this
              cases this
            go_wp2_with fail
            go_quiet (fail)
            clear q1 q2 q3 q4 q5 q6 q7 q8 q9 q10 c9 o9 f0 f1 HT HQq
            generalize hA2 : (some ⟨g, 0, none⟩ : Option Addr) = A2 at R ⊢
            clear hA2
            replace R := R.drewN nq
            generalize wr.drewN nq = W at R ⊢
            have c9 : W.cell? ⟨w.heap.size, 9, none⟩ = some (.slice (some ad) n c) := R.b1.cell 9
            have o9 : W.cell? ⟨w.heap.size + 1 + 1, 9, none⟩ = some (.slice A2 k c2) := R.b3.cell 9
            have hcap : k ≤ c2 := by have := R.own.cap; have := un HL; omega
            have e1 : (0 : Int) ≤ (j : Int) := by omega
            have e2 : ((j : Int)).toNat = j := by omega
            have e3 : (j : Int) ≤ (k : Int) := by omega
            have e4 : (j : Int) ≤ (c2 : Int) := by omega
            have e5 : j ≤ c2 := by omega
            have ho := own_empty4 W 46
            have b1 : Below W.heap.size W (W.alloc (.cells #[] 46)) := below_box _ _ (Nat.le_refl _)
            have o8 : (W.alloc (.cells #[] 46)).cell? ⟨w.heap.size + 1 + 1, 9, none⟩ = some (.slice A2 k c2) := (R.b3.below b1).cell 9
            have hr1 : Rd 4 (W.alloc (.cells #[] 46)) A2 j c2 ((Y.take j).flatMap enc) := (R.own.ats.take j (by have := un HL; omega)).below b1
            have hd1 : 0 + j ≤ maxLen := by unfold maxLen; omega
            have hd2 : (0 + j) * 48 ≤ 140737488355328 := by omega
            have hd3 : W.heap.size ≤ (W.alloc (.cells #[] 46)).heap.size := b1.size
            go_wp2_with (at_builtin; refine wpList_append_rd _ rfl (.tmp 51) (.tmp 55) 23 rfl W.heap.size 46 i0 _ 4 48 Try.underlying23 hi hz0 hz1 hz2 rfl (by decide) _ 0 [] rfl ho A2 j c2 ((Y.take j).flatMap enc) rfl hr1 (fm_one _) hd1 hd2 hd3 ?_)
            intro A3 c3 w2 ho2 hg2
            have b2 : Below W.heap.size W w2 := b1.grown hg2 b1.size fun k hk => (ho.lt k hk).1
            (try rw [Nat.zero_add] at ho2)
            (try rw [Nat.zero_add])
            (try rw [List.nil_append] at ho2)
            clear hg2 hr1 ho b1 hd1 hd2 hd3 c9 o9 o8
            have bw2 : Below w.heap.size w w2 := R.bel.trans (b2.mono R.bel.size)
            have c9 : w2.cell? ⟨w.heap.size, 9, none⟩ = some (.slice (some ad) n c) := (R.b1.below b2).cell 9
            have f0 := (bw2.cell (p := p) pl).trans (un F0).c0
            have f1 := (bw2.cell (p := ⟨p.block, p.off + 1, none⟩) pl).trans (un F0).c1
            have f2 := (bw2.cell (p := ⟨p.block, p.off + 2, none⟩) pl).trans (un F0).c2
            have f3 := (bw2.cell (p := ⟨p.block, p.off + 3, none⟩) pl).trans (un F0).c3
            have ho3 := ho2.alloc (.cells #[.string l[k].key, .int .i64 l[k].K, .int .i64 l[k].N, .string l[k].S] 46)
            have b2' := b2.alloc b2.size (.cells #[.string l[k].key, .int .i64 l[k].K, .int .i64 l[k].N, .string l[k].S] 46)
            have hlit := Rd.lit4 w2 46 l[k]
            have d4 : j + 1 ≤ maxLen := by unfold maxLen; omega
            have d5 : (j + 1) * 48 ≤ 140737488355328 := by omega
            have d6 : W.heap.size ≤ (w2.alloc (.cells #[.string l[k].key, .int .i64 l[k].K, .int .i64 l[k].N, .string l[k].S] 46)).heap.size := b2'.size
            clear bw2
            go_wp2_with (at_builtin; refine wpList_append_rd _ rfl (.tmp 57) (.tmp 63) 23 rfl W.heap.size 46 i0 _ 4 48 Try.underlying23 hi hz0 hz1 hz2 rfl (by decide) _ j ((Y.take j).flatMap enc) rfl ho3 (some ⟨w2.heap.size, 0, none⟩) 1 1 (enc l[k]) rfl hlit (enc_one _) d4 d5 d6 ?_)
            intro A4 c4 w3 ho4 hg4
            have b3 : Below W.heap.size W w3 := b2'.grown hg4 b2'.size fun k hk => (ho3.lt k hk).1
            clear hg4 hlit ho3 b2' d4 d5 d6 c9 f0 f1 f2 f3 ho2 b2
            have c9 : w3.cell? ⟨w.heap.size, 9, none⟩ = some (.slice (some ad) n c) := (R.b1.below b3).cell 9
            have o9 : w3.cell? ⟨w.heap.size + 1 + 1, 9, none⟩ = some (.slice A2 k c2) := (R.b3.below b3).cell 9
            have hr3 := (R.own.ats.drop j (by have := un HL; omega)).below b3
            rw [un HL] at hr3
            by_cases hcj : c2 = j
            · have ej : k - j = 0 := by omega
              have ec : c2 - j = 0 := by omega
              rw [cut4, if_pos hcj, ej, ec] at hr3
              have d7 : j + 1 + 0 ≤ maxLen := by unfold maxLen; omega
              have d8 : (j + 1 + 0) * 48 ≤ 140737488355328 := by omega
              have d9 : W.heap.size ≤ w3.heap.size := b3.size
              go_wp2_with (at_builtin; refine wpList_append_rd _ rfl (.tmp 65) (.tmp 69) 23 rfl W.heap.size 46 i0 _ 4 48 Try.underlying23 hi hz0 hz1 hz2 rfl (by decide) _ (j + 1) ((Y.take j).flatMap enc ++ enc l[k]) rfl ho4 (A2) _ _ ((Y.drop j).flatMap enc) rfl hr3 (fm_one _) d7 d8 d9 ?_)
              intro A5 c5 w4 ho5 hg5
              have b4 : Below W.heap.size W w4 := b3.grown hg5 b3.size fun k hk => (ho4.lt k hk).1
              have y9 : w4.cell? ⟨w.heap.size + 1 + 1, 9, none⟩ = some (.slice A2 k c2) := (R.b3.below b4).cell 9
              have yf := (R.b3.below b4).frozen 9
              have e6 : j + 1 + 0 = k + 1 := by omega
              rw [e6] at ho5 ⊢
              have hput := put_next hkl (un HL) hj R.srt R.keep (un HP) (un HQ)
              have hown : Hd W.heap.size w4 A5 c5 (Y.take j ++ l[k] :: Y.drop j) := by
                refine Hd.own (e := 46) ?_
                rw [hput.2.2]
                simpa [List.flatMap_append, List.flatMap_cons] using ho5
              have R2 := R.next hput.2.2 hput.1 hput.2.1 b4 hown
              clear ho5 hg5 b4 b3 ho4 R hput hown c9 o9
              go_wp2
              go_roundw
              case rel => exact ⟨k + 1, A5, c5, _, by go_num, by omega, R2⟩
              case measure => simp [intOf]; omega
            · rw [cut4, if_neg hcj] at hr3
              have d7 : j + 1 + (k - j) ≤ maxLen := by unfold maxLen; omega
              have d8 : (j + 1 + (k - j)) * 48 ≤ 140737488355328 := by omega
              have d9 : W.heap.size ≤ w3.heap.size := b3.size
              go_wp2_with (at_builtin; refine wpList_append_rd _ rfl (.tmp 65) (.tmp 69) 23 rfl W.heap.size 46 i0 _ 4 48 Try.underlying23 hi hz0 hz1 hz2 rfl (by decide) _ (j + 1) ((Y.take j).flatMap enc ++ enc l[k]) rfl ho4 (A2.map (·.add (j * 4))) _ _ ((Y.drop j).flatMap enc) rfl hr3 (fm_one _) d7 d8 d9 ?_)
              intro A5 c5 w4 ho5 hg5
              have b4 : Below W.heap.size W w4 := b3.grown hg5 b3.size fun k hk => (ho4.lt k hk).1
              have y9 : w4.cell? ⟨w.heap.size + 1 + 1, 9, none⟩ = some (.slice A2 k c2) := (R.b3.below b4).cell 9
              have yf := (R.b3.below b4).frozen 9
              have e6 : j + 1 + (k - j) = k + 1 := by omega
              rw [e6] at ho5 ⊢
              have hput := put_next hkl (un HL) hj R.srt R.keep (un HP) (un HQ)
              have hown : Hd W.heap.size w4 A5 c5 (Y.take j ++ l[k] :: Y.drop j) := by
                refine Hd.own (e := 46) ?_
                rw [hput.2.2]
                simpa [List.flatMap_append, List.flatMap_cons] using ho5
              have R2 := R.next hput.2.2 hput.1 hput.2.1 b4 hown
              clear ho5 hg5 b4 b3 ho4 R hput hown c9 o9
              go_wp2
              go_roundw
              case rel => exact ⟨k + 1, A5, c5, _, by go_num, by omega, R2⟩
              case measure => simp [intOf]; omega
    · have hltz : ¬ ((k : Int) < (n : Int)) := by omega
      have hkn : k = n := by omega
      subst hkn
      have x0 : wr.cell? ⟨w.heap.size + 1 + 1, 0, none⟩ = some (.int .u64 s2.T) := R.b3.cell 0
      have x1 : wr.cell? ⟨w.heap.size + 1 + 1, 1, none⟩ = some (.int .u64 s2.I) := R.b3.cell 1
      have x2 : wr.cell? ⟨w.heap.size + 1 + 1, 2, none⟩ = some (.int .u64 s2.P) := R.b3.cell 2
      have x3 : wr.cell? ⟨w.heap.size + 1 + 1, 3, none⟩ = some (.string s2.sv) := R.b3.cell 3
      have x4 : wr.cell? ⟨w.heap.size + 1 + 1, 4, none⟩ = some (.string s2.nm) := R.b3.cell 4
      have x5 : wr.cell? ⟨w.heap.size + 1 + 1, 5, none⟩ = some (.int .i64 s2.kd) := R.b3.cell 5
      have x6 : wr.cell? ⟨w.heap.size + 1 + 1, 6, none⟩ = some (.int .i64 s2.st) := R.b3.cell 6
      have x7 : wr.cell? ⟨w.heap.size + 1 + 1, 7, none⟩ = some (.int .u64 s2.t0) := R.b3.cell 7
      have x8 : wr.cell? ⟨w.heap.size + 1 + 1, 8, none⟩ = some (.int .u64 s2.t1) := R.b3.cell 8
      have x9 : wr.cell? ⟨w.heap.size + 1 + 1, 9, none⟩ = some (.slice A2 k c2) := R.b3.cell 9
      have z0 : wr.cell? ⟨w.heap.size + 1, 0, none⟩ = some (.int .u64 0) := R.b2.cell 0
      have z1 : wr.cell? ⟨w.heap.size + 1, 1, none⟩ = some (.int .u64 0) := R.b2.cell 1
      have z2 : wr.cell? ⟨w.heap.size + 1, 2, none⟩ = some (.int .u64 0) := R.b2.cell 2
      have z3 : wr.cell? ⟨w.heap.size + 1, 3, none⟩ = some (.string ⟨#[]⟩) := R.b2.cell 3
      have z4 : wr.cell? ⟨w.heap.size + 1, 4, none⟩ = some (.string ⟨#[]⟩) := R.b2.cell 4
      have z5 : wr.cell? ⟨w.heap.size + 1, 5, none⟩ = some (.int .i64 0) := R.b2.cell 5
      have z6 : wr.cell? ⟨w.heap.size + 1, 6, none⟩ = some (.int .i64 0) := R.b2.cell 6
      have z7 : wr.cell? ⟨w.heap.size + 1, 7, none⟩ = some (.int .u64 0) := R.b2.cell 7
      have z8 : wr.cell? ⟨w.heap.size + 1, 8, none⟩ = some (.int .u64 0) := R.b2.cell 8
      have z9 : wr.cell? ⟨w.heap.size + 1, 9, none⟩ = some (.slice none 0 0) := R.b2.cell 9
      have g0 : wr.frozen? ⟨w.heap.size + 1, 0, none⟩ = false := R.b2.frozen 0
      have g1 : wr.frozen? ⟨w.heap.size + 1, 1, none⟩ = false := R.b2.frozen 1
      have g2 : wr.frozen? ⟨w.heap.size + 1, 2, none⟩ = false := R.b2.frozen 2
      have g3 : wr.frozen? ⟨w.heap.size + 1, 3, none⟩ = false := R.b2.frozen 3
      have g4 : wr.frozen? ⟨w.heap.size + 1, 4, none⟩ = false := R.b2.frozen 4
      have g5 : wr.frozen? ⟨w.heap.size + 1, 5, none⟩ = false := R.b2.frozen 5
      have g6 : wr.frozen? ⟨w.heap.size + 1, 6, none⟩ = false := R.b2.frozen 6
      have g7 : wr.frozen? ⟨w.heap.size + 1, 7, none⟩ = false := R.b2.frozen 7
      have g8 : wr.frozen? ⟨w.heap.size + 1, 8, none⟩ = false := R.b2.frozen 8
      have g9 : wr.frozen? ⟨w.heap.size + 1, 9, none⟩ = false := R.b2.frozen 9
      have hfin : Bk (P06.put10 wr (w.heap.size + 1) s2 (.slice A2 k c2)) (w.heap.size + 1) 25 (spc s2 (.slice A2 k c2)) := R.b2.put10 s2 _
      have hhd : Hd w.heap.size (P06.put10 wr (w.heap.size + 1) s2 (.slice A2 k c2)) A2 c2 Y := by
        refine (R.own.heap (fun g h1 h2 => ?_) ?_).low (by omega)
        · rw [heap_put10 _ _ _ _ _ (by omega)]
        · rw [size_put10]; exact Nat.le_refl _
      have hbl : Below w.heap.size w (P06.put10 wr (w.heap.size + 1) s2 (.slice A2 k c2)) := by
        have h2 := put10_os wr (w.heap.size + 1) s2 (.slice A2 k c2)
        refine ⟨h2.1.trans R.bel.os, h2.2.1.trans R.bel.tape, h2.2.2.trans R.bel.output, by rw [size_put10]; exact R.bel.size, fun g hg => ?_⟩
        rw [heap_put10 _ _ _ _ _ (by omega)]
        exact R.bel.block g hg
      have hkeep : Keep l Y := by
        have := R.keep
        rw [List.take_of_length_le (by rw [un HN]; exact Nat.le_refl _)] at this
        exact this
      go_wp2
      change bodyPost _ _ _ _ _ (P06.put10 wr (w.heap.size + 1) s2 (.slice A2 k c2))
      have hY1 := R.len
      have hY2 := R.srt
      clear x0 z0 g0 x1 z1 g1 x2 z2 g2 x3 z3 g3 x4 z4 g4 x5 z5 g5 x6 z6 g6 x7 z7 g7 x8 z8 g8 x9 z9 g9 R c9 o9
      generalize P06.put10 wr (w.heap.size + 1) s2 (.slice A2 k c2) = W at *
      have x0 : W.cell? ⟨w.heap.size + 1, 0, none⟩ = some (.int .u64 s2.T) := hfin.cell 0
      have x1 : W.cell? ⟨w.heap.size + 1, 1, none⟩ = some (.int .u64 s2.I) := hfin.cell 1
      have x2 : W.cell? ⟨w.heap.size + 1, 2, none⟩ = some (.int .u64 s2.P) := hfin.cell 2
      have x3 : W.cell? ⟨w.heap.size + 1, 3, none⟩ = some (.string s2.sv) := hfin.cell 3
      have x4 : W.cell? ⟨w.heap.size + 1, 4, none⟩ = some (.string s2.nm) := hfin.cell 4
      have x5 : W.cell? ⟨w.heap.size + 1, 5, none⟩ = some (.int .i64 s2.kd) := hfin.cell 5
      have x6 : W.cell? ⟨w.heap.size + 1, 6, none⟩ = some (.int .i64 s2.st) := hfin.cell 6
      have x7 : W.cell? ⟨w.heap.size + 1, 7, none⟩ = some (.int .u64 s2.t0) := hfin.cell 7
      have x8 : W.cell? ⟨w.heap.size + 1, 8, none⟩ = some (.int .u64 s2.t1) := hfin.cell 8
      have x9 : W.cell? ⟨w.heap.size + 1, 9, none⟩ = some (.slice A2 k c2) := hfin.cell 9
      (try simp only [Exit.inBlock, Exit.then])
      refine bodyPost_ret (by simp [results, Try.results15, go_sem, x0, x1, x2, x3, x4, x5, x6, x7, x8, x9]; try rfl) rfl ?_
      exact AlOut.of A2 c2 Y rfl hY1 hY2 hkeep hhd hbl
end Go.Proofs.Ytpjldoahinocjaa.P06
