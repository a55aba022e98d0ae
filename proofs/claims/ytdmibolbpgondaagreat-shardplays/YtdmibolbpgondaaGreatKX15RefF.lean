/-
  The document's shard: First.
  The document's shard: what a store into the struct's block leaves of lists of spans; a span's key taken off.
  The document's shard: the states of Add.
-/
import Derived.Test.YtdmibolbpgondaaGreatKX15Own
import Derived.Test.YtdmibolbpgondaaGreatKX15RefK
import Derived.Lib.QuietBelow
import Derived.Test.YtdmibolbpgondaaGreatKTwoOwn
import Derived.Test.YtdmibolbpgondaaGreatKP06Span
section
set_option linter.unusedSimpArgs false
set_option linter.unusedVariables false
namespace Go.Proofs.YtdmibolbpgondaaGreat.X15
open Go.RowKit Go.Lib Go.Maps Go.Proofs.YtdmibolbpgondaaGreat.Wd Go.Proofs.YtdmibolbpgondaaGreat.P06
open Go.Proofs.YtdmibolbpgondaaGreat.B07 (Pn OkN OkA OkP Spn Sps pns tenA ten Ten)
open Go.Proofs.YtdmibolbpgondaaGreat.U12 (It Lt)
/-- the best of the first k traces -/
def Bst (G : Nat) (L : List Pn) (k b : Nat) : Prop := b ∈ (trs L).take k ∧ ∀ u ∈ (trs L).take k, dl G L b < dl G L u ∨ (dl G L b = dl G L u ∧ b ≤ u)
theorem bst_start {G : Nat} {L : List Pn} (h : 0 < (trs L).length) : Bst G L 1 (trs L)[0] := by
  have e : (trs L).take 1 = [(trs L)[0]] := by
    rw [List.take_succ_eq_append_getElem h]
    simp
  unfold Bst
  rw [e]
  simp
theorem bst_step {G : Nat} {L : List Pn} {k b : Nat} (hb : Bst G L k b) (h : k < (trs L).length) : Bst G L (k + 1) (if dl G L (trs L)[k] < dl G L b then (trs L)[k] else b) := by
  obtain ⟨h1, h2⟩ := hb
  have hlt : ∀ u ∈ (trs L).take k, u < (trs L)[k] := fun u hu => by
    obtain ⟨j, hj, hjk, e⟩ := mem_take_i hu
    have := List.pairwise_iff_getElem.1 (trs_rise L) j k hj h hjk
    omega
  unfold Bst
  rw [List.take_succ_eq_append_getElem h]
  by_cases hc : dl G L (trs L)[k] < dl G L b
  · rw [if_pos hc]
    refine ⟨List.mem_append_right _ (List.mem_singleton.2 rfl), fun u hu => ?_⟩
    rcases List.mem_append.1 hu with hu | hu
    · rcases h2 u hu with a | ⟨a, _⟩ <;> left <;> omega
    · rw [List.mem_singleton.1 hu]; right; exact ⟨rfl, Nat.le_refl _⟩
  · rw [if_neg hc]
    refine ⟨List.mem_append_left _ h1, fun u hu => ?_⟩
    rcases List.mem_append.1 hu with hu | hu
    · exact h2 u hu
    · rw [List.mem_singleton.1 hu]
      have := hlt b h1
      by_cases e : dl G L b = dl G L (trs L)[k]
      · right; exact ⟨e, by omega⟩
      · left; omega
theorem bst_end {G : Nat} {L : List Pn} {k b : Nat} (hb : Bst G L k b) (h : (trs L).length ≤ k) (hne : L ≠ []) : b = first G L := by
  obtain ⟨h1, h2⟩ := hb
  rw [List.take_of_length_le h] at h1 h2
  obtain ⟨f1, m, f2⟩ := first_in (G := G) hne
  have hs := dqs_sorted G L
  rw [f2] at hs
  have hs := List.pairwise_cons.1 hs
  have hb : (b, dl G L b) ∈ dqs G L := mem_dqs.2 ⟨b, h1, rfl⟩
  rw [f2] at hb
  rcases List.mem_cons.1 hb with e | e
  · injection e
  · have := hs.1 _ e
    unfold Lt at this
    dsimp only at this
    rcases h2 _ f1 with a | ⟨a, c⟩ <;> omega
set_option maxRecDepth 20000 in
set_option maxHeartbeats 8000000 in
theorem rfirst_at (G S B : Nat) (A : Option Addr) (n c : Nat) (M : List Spn) (L : List Pn) (w : World) (h : Sps w A c M) (hn : M.length = n) (hL : pns M = L) (hso : So L) (hok : ∀ x ∈ L, Okx x) (hfew : n ≤ 500) (hG : G ≤ MT) (hne : L ≠ []) :
    Calls Tryz.prog 39 #[sag G S B A n c] w fun e w' => e = .returned (.int .u64 ((first G L : Nat) : Int)) ∧ Below w.heap.size w w' := by
  have bx : Bk (w.alloc (.cells (sac G S B A n c) 31)) w.heap.size 31 (sac G S B A n c) := Bk.new w _ _
  have b0 : Below w.heap.size w (w.alloc (.cells (sac G S B A n c) 31)) := (Below.refl _ _).alloc (Nat.le_refl _) _
  obtain ⟨X, hX⟩ : ∃ X, w.alloc (.cells (sac G S B A n c) 31) = X := ⟨_, rfl⟩
  obtain ⟨g, hg⟩ : ∃ g, w.heap.size = g := ⟨_, rfl⟩
  rw [hX] at bx b0
  rw [hg] at bx
  have x0 := bx.cell 0
  have x1 := bx.cell 1
  have x2 := bx.cell 2
  have x3 := bx.cell 3
  simp only [List.getElem?_toArray, List.getElem?_cons_zero, List.getElem?_cons_succ] at x0 x1 x2 x3
  have hS := Lib.hid (h.below b0)
  have hdl : ∀ W t, Below X.heap.size X W → Calls Tryz.prog 45 #[sag G S B A n c, .int .u64 ((t : Nat) : Int)] W fun e w' => e = .returned (.int .u64 ((dl G L t : Nat) : Int)) ∧ Below W.heap.size W w' := fun W t hW => rdead_at G S B t A n c M L W (hS.out.below hW) hn hL hok hfew hG
  have htr := rtraces_at G S B A n c M L X (h.below b0) hn hL hso hok hfew
  have hpos : 0 < (trs L).length := List.length_pos_iff.2 (trs_none hne)
  have hdm : ∀ t, dl G L t ≤ MT + MT := fun t => by have := dl_le hok t; unfold dl; omega
  have hbd : ∀ t ∈ trs L, (t : Int) ≤ 18446744073709551615 := fun t ht => by
    obtain ⟨x, hx, rfl⟩ := mem_trs.1 ht
    exact (hok x hx).tn.2
  have hnt : (trs L).length ≤ 500 := by
    have h1 := trs_len L
    have h2 : L.length = n := by rw [← hL, ← hn]; simp [pns]
    omega
  have HP := Lib.hid (And.intro hpos (And.intro hne (And.intro hdm (And.intro hbd hnt))))
  have HB0 := Lib.hid b0
  have BX := Lib.hid bx
  clear h hn hL hso hok hpos hdm hbd b0 hnt bx
  go_enter Tryz.func39, Tryz.ntmps39
  go_wp2_with fail
  (try rw [hX])
  (try rw [hg])
  refine htr.mono ?_
  rintro e w1 ⟨U, d, rfl, hrow, b1⟩
  have hu : Rd 1 w1 U (trs L).length d ((trs L).map encU) := Rd.own hrow
  obtain ⟨ad0, u0, rfl, hu0, hc0⟩ := hu.get HP.out.1
  have hc0' : w1.cell? (ad0.add 0) = some (.int .u64 (((trs L)[0]'HP.out.1 : Nat) : Int)) := by
    rw [List.getElem?_map, List.getElem?_eq_getElem HP.out.1, Option.map_some] at hu0
    exact hc0.trans hu0.symm
  have HU := Lib.hid hu
  have HB1 := Lib.hid b1
  have BX1 := Lib.hid (BX.out.below b1)
  obtain ⟨tl, htl⟩ : ∃ tl, (trs L).length = tl := ⟨_, rfl⟩
  obtain ⟨f0, hf0⟩ : ∃ f0, (trs L)[0]'HP.out.1 = f0 := ⟨_, rfl⟩
  rw [hf0] at hc0'
  have ea0 : ad0.add 0 = ad0 := rfl
  rw [ea0] at hc0'
  clear ea0
  have HTL := Lib.hid htl
  have H0 := Lib.hid (show Bst G L 1 f0 from by rw [← hf0]; exact bst_start HP.out.1)
  have htp : 0 < tl := by rw [← htl]; exact HP.out.1
  have htm : tl ≤ 500 := by rw [← htl]; exact HP.out.2.2.2.2
  rw [htl]
  clear x0 x1 x2 x3 hu hu0 hc0 hrow b1 htl hf0 htr
  go_wp2_with fail
  go_loopw [4, 5] (fun v4 v5 wr => ∃ (b k : Nat), v4 = .int .u64 (b : Int) ∧ v5 = .int .i64 (k : Int) ∧ 1 ≤ k ∧ k ≤ tl ∧ Hid (Bst G L k b) ∧ Below w1.heap.size w1 wr) (fun _ v5 _ => tl - (intOf v5).toNat)
  case atStart => exact ⟨f0, 1, rfl, rfl, Nat.le_refl _, by omega, H0, Below.refl _ _⟩
  case round =>
    clear H0 hc0'
    obtain ⟨b, k, rfl, rfl, hk1, hk, HBs, hb⟩ := hrel
    by_cases hkt : k < tl
    · have hkz : (k : Int) < (tl : Int) := by omega
      obtain ⟨ad1, u1, hA1, hu1, hc1⟩ := (Rd.below HU.out hb).get (k := k) (by rw [HTL.out]; exact hkt)
      injection hA1 with hA1
      subst hA1
      have hkt2 : k < (trs L).length := by rw [HTL.out]; exact hkt
      obtain ⟨t, ht⟩ : ∃ t, (trs L)[k]'hkt2 = t := ⟨_, rfl⟩
      have hc1' : wr.cell? (ad0.add k) = some (.int .u64 (t : Int)) := by
        rw [List.getElem?_map, List.getElem?_eq_getElem hkt2, Option.map_some, ht] at hu1
        exact hc1.trans hu1.symm
      have hst := bst_step HBs.out hkt2
      rw [ht] at hst
      obtain ⟨d1, hd1⟩ : ∃ d1, dl G L t = d1 := ⟨_, rfl⟩
      obtain ⟨d2, hd2⟩ : ∃ d2, dl G L b = d2 := ⟨_, rfl⟩
      have m1 := HP.out.2.2.1 t
      have m2 := HP.out.2.2.1 b
      have q1 := fun W hW => hdl W t hW
      have q2 := fun W hW => hdl W b hW
      simp only [hd1] at q1
      simp only [hd2] at q2
      rw [hd1, hd2] at hst
      rw [hd1] at m1
      rw [hd2] at m2
      have HST := Lib.hid hst
      have BX2 := BX1.out.below hb
      have hXW : Below X.heap.size X wr := HB1.out.trans (hb.mono HB1.out.size)
      have hcl := World.block_lt_of_cell? _ _ hc1'
      have hcs : ∀ W, Below wr.heap.size wr W → W.cell? ⟨g, 0, none⟩ = some (.int .u64 (G : Int)) ∧ W.cell? ⟨g, 1, none⟩ = some (.int .i64 (S : Int)) ∧ W.cell? ⟨g, 2, none⟩ = some (.int .i64 (B : Int)) ∧ W.cell? ⟨g, 3, none⟩ = some (.slice A n c) ∧ W.cell? (ad0.add k) = some (.int .u64 (t : Int)) := fun W hW => by
        have K := BX2.below hW
        have x0 := K.cell 0
        have x1 := K.cell 1
        have x2 := K.cell 2
        have x3 := K.cell 3
        simp only [List.getElem?_toArray, List.getElem?_cons_zero, List.getElem?_cons_succ] at x0 x1 x2 x3
        exact ⟨x0, x1, x2, x3, (hW.cell hcl).trans hc1'⟩
      obtain ⟨x0, x1, x2, x3, x4⟩ := hcs wr (Below.refl _ _)
      have y2 : (0 : Int) ≤ (k : Int) := by omega
      have y3 : ((k : Int)).toNat = k := by omega
      clear hu1 hc1 hc1' ht hst hd1 hd2 BX2 hcl hkt2
      go_wp2_with fail
      have c0 := cell_regrown x0
      have c1 := cell_regrown x1
      have c2 := cell_regrown x2
      have c3 := cell_regrown x3
      have c4 := cell_regrown x4
      have r1 : ∀ dd os, Calls Tryz.prog 45 #[sag G S B A n c, .int .u64 (t : Int)] (Sort.grow (redrawn wr dd) os) fun e w'' => e = .returned (.int .u64 (d1 : Int)) ∧ ∃ p : Regrown, w'' = Sort.grow (redrawn wr p.d) p.os := fun dd os => Calls.regrown_of (q1 _ (hXW.trans ((below_regrown wr dd os).mono hXW.size)))
      have r2 : ∀ dd os, Calls Tryz.prog 45 #[sag G S B A n c, .int .u64 (b : Int)] (Sort.grow (redrawn wr dd) os) fun e w'' => e = .returned (.int .u64 (d2 : Int)) ∧ ∃ p : Regrown, w'' = Sort.grow (redrawn wr p.d) p.os := fun dd os => Calls.regrown_of (q2 _ (hXW.trans ((below_regrown wr dd os).mono hXW.size)))
      clear x0 x1 x2 x3 x4 q1 q2
      refine wp_region_quiet_below (by kernel_rfl) (by kernel_rfl) ?_
      repeat (quiet_step (first | (with_reducible exact r1 _ _) | (with_reducible exact r2 _ _)))
      refine wpQuiet_nil ?_
      intro _ hw'
      obtain ⟨⟨dq, osq⟩, hw''⟩ := hw'
      subst hw''
      have E2 : Below wr.heap.size wr (Sort.grow (redrawn wr dq) osq) := below_regrown wr dq osq
      have hc5 := (hcs _ E2).2.2.2.2
      have hb2 : Below w1.heap.size w1 (Sort.grow (redrawn wr dq) osq) := hb.trans (E2.mono hb.size)
      clear c0 c1 c2 c3 c4 r1 r2 hcs E2 hb hXW
      generalize Sort.grow (redrawn wr dq) osq = wz at hb2 hc5 ⊢
      by_cases hlt : d1 < d2
      · have hltz : (d1 : Int) < (d2 : Int) := by omega
        have HST2 := Lib.hid (show Bst G L (k + 1) t from by have := HST.out; rw [if_pos hlt] at this; exact this)
        clear HST HBs
        go_wp2
        go_roundw
        case rel => exact ⟨t, k + 1, rfl, by go_num, by omega, by omega, HST2, hb2⟩
        case measure => first | go_num | (simp [intOf]; omega)
      · have hltz : ¬ (d1 : Int) < (d2 : Int) := by omega
        have HST2 := Lib.hid (show Bst G L (k + 1) b from by have := HST.out; rw [if_neg hlt] at this; exact this)
        clear HST HBs
        go_wp2
        go_roundw
        case rel => exact ⟨b, k + 1, rfl, by go_num, by omega, by omega, HST2, hb2⟩
        case measure => first | go_num | (simp [intOf]; omega)
    · have hkz : ¬ (k : Int) < (tl : Int) := by omega
      have hend := bst_end HBs.out (by rw [HTL.out]; omega) HP.out.2.1
      have HB := Lib.hid (HB0.out.trans ((HB1.out.trans (hb.mono HB1.out.size)).mono HB0.out.size))
      subst hend
      clear hb HBs
      go_wp2
      go_ret
      exact ⟨rfl, by rw [← hg]; exact HB.out⟩
end Go.Proofs.YtdmibolbpgondaaGreat.X15
end

section
set_option linter.unusedSimpArgs false
set_option linter.unusedVariables false
namespace Go.Proofs.YtdmibolbpgondaaGreat.X15
open Go.RowKit Go.Lib Go.Maps Go.Proofs.YtdmibolbpgondaaGreat.Wd Go.Proofs.YtdmibolbpgondaaGreat.P06
open Go.Proofs.YtdmibolbpgondaaGreat.B07 (Pn OkN OkA OkP Spn Sps pns tenA ten Ten)
open Go.Proofs.YtdmibolbpgondaaGreat.D09 (TenW cp cp_neg)
/-- a block without texts -/
structure Nt (w : World) (g : Nat) : Prop where
  no : ∀ o s, w.cell? ⟨g, o, none⟩ ≠ some (.string s)
theorem Nt.of {w : World} {g : Nat} {t : TypeId} {cs : Array Value} (h : Bk w g t cs) (hn : ∀ (j : Nat) (s : ByteArray), cs[j]? ≠ some (.string s)) : Nt w g := ⟨fun o s => by rw [h.cell]; exact hn o s⟩
theorem ats_fr {w w' : World} {g c : Nat} {A : Option Addr} {l : List At} (h : Ats w A c l) (hn : Nt w g) (f : Wd.Fr [g] w w') : Ats w' A c l := by
  by_cases hz : 0 < l.length
  · obtain ⟨ad, p, hA, hp, F⟩ := h.get hz
    have e0 : ad.add (0 * 4) = ad := by simp [Addr.add]
    rw [e0] at hp
    subst hp
    have hb : ad.block ≠ g := fun e => by
      have h1 := F.c0
      have h2 := F.c3
      obtain ⟨b, o, u⟩ := ad
      dsimp only at e
      subst e
      exact hn.no _ _ h2
    have hl := World.block_lt_of_cell? _ _ F.c0
    exact rd_block h fun a ha => by rw [hA] at ha; cases ha; exact f.block _ hl (by simpa using hb)
  · have : l = [] := List.eq_nil_of_length_eq_zero (by omega)
    subst this
    exact ⟨h.len, h.none_, h.cap, h.max, fun ad ha i u hu => by simp at hu⟩
theorem sps_fr {w w' : World} {g c : Nat} {A : Option Addr} {M : List Spn} (h : Sps w A c M) (hn : Nt w g) (f : Wd.Fr [g] w w') : Sps w' A c M := by
  refine ⟨?_, fun x hx => ats_fr (h.ats x hx) hn f⟩
  by_cases hz : 0 < M.length
  · obtain ⟨ad, p, hA, hp, F⟩ := h.get hz
    have e0 : ad.add (0 * 10) = ad := by simp [Addr.add]
    rw [e0] at hp
    subst hp
    have hb : ad.block ≠ g := fun e => by
      have h2 := F.c3
      obtain ⟨b, o, u⟩ := ad
      dsimp only at e
      subst e
      exact hn.no _ _ h2
    have hl := World.block_lt_of_cell? _ _ F.c0
    exact rd_block h.rd fun a ha => by rw [hA] at ha; cases ha; exact f.block _ hl (by simpa using hb)
  · have : M = [] := List.eq_nil_of_length_eq_zero (by omega)
    subst this
    exact ⟨h.rd.len, h.rd.none_, h.rd.cap, h.rd.max, fun ad ha i u hu => by simp at hu⟩
theorem sac_nt {w : World} {G S B : Nat} {A : Option Addr} {n c g : Nat} (h : Bk w g 31 (sac G S B A n c)) : Nt w g := Nt.of h fun j s => by
  unfold sac
  rcases j with _ | _ | _ | _ | j <;> simp
/-- without the one with this key -/
theorem era_cut {L : List Pn} {x : Pn} {k : Nat} (hs : So L) (hk : k < L.length) (he : Ke L[k] x) : era L x = L.take k ++ L.drop (k + 1) ∧ fnd L x = some L[k] := by
  refine ⟨?_, fnd_of hs (List.getElem_mem hk) he⟩
  have e1 : L = L.take k ++ L[k] :: L.drop (k + 1) := by rw [List.getElem_cons_drop, List.take_append_drop]
  have n1 : ∀ y ∈ L.take k, ¬ Ke y x := fun y hy hke => by
    obtain ⟨j, hj, hjk, e⟩ := mem_tk hy
    have := List.pairwise_iff_getElem.1 hs j k hj hk hjk
    rw [e] at this
    exact this.not (hke.trans he.symm)
  have n2 : ∀ y ∈ L.drop (k + 1), ¬ Ke y x := fun y hy hke => by
    obtain ⟨j, hj, e⟩ := List.mem_iff_getElem.1 hy
    rw [List.getElem_drop] at e
    rw [List.length_drop] at hj
    have := List.pairwise_iff_getElem.1 hs k (k + 1 + j) hk (by omega) (by omega)
    rw [e] at this
    exact this.not' (hke.trans he.symm)
  unfold era
  conv => lhs; rw [e1]
  rw [List.filter_append, List.filter_cons, if_neg (by simp [he])]
  rw [List.filter_eq_self.2 fun y hy => by simpa using n1 y hy, List.filter_eq_self.2 fun y hy => by simpa using n2 y hy]
theorem fnd_out {L : List Pn} {x : Pn} (h : ∀ y ∈ L, ¬ Ke y x) : fnd L x = none := by
  cases e : fnd L x with
  | none => rfl
  | some y => exact absurd (fnd_some e).2 (h y (fnd_some e).1)
theorem pns_drop {M : List Spn} {L : List Pn} (h : pns M = L) (k : Nat) : pns (M.take k ++ M.drop (k + 1)) = L.take k ++ L.drop (k + 1) := by
  subst h
  simp [pns, List.map_take, List.map_drop]
/-- the state of Add: the shard's own struct, the span's -/
structure Hs (w : World) (g G S B : Nat) (s : Sp) (A1 : Option Addr) (m c1 : Nat) (A : Option Addr) (n c : Nat) (M : List Spn) (W : World) : Prop where
  kh : Bk W g 31 (sac G S B A n c)
  ks : Bk W (g + 1) 34 (spc s (.slice A1 m c1))
  kr : Bk W (g + 2) 31 #[.int .u64 0, .int .i64 0, .int .i64 0, .slice none 0 0]
  sp : Sps W A c M
  ln : M.length = n
  bel : Below w.heap.size w W
section
variable {w W W' : World} {g G S B : Nat} {s : Sp} {A1 A A' : Option Addr} {m c1 n c n' c' : Nat} {M M' : List Spn}
theorem Hs.below (h : Hs w g G S B s A1 m c1 A n c M W) (hb : Below W.heap.size W W') : Hs w g G S B s A1 m c1 A n c M W' := ⟨h.kh.below hb, h.ks.below hb, h.kr.below hb, h.sp.below hb, h.ln, h.bel.trans (hb.mono h.bel.size)⟩
theorem Hs.cells (h : Hs w g G S B s A1 m c1 A n c M W) : W.cell? ⟨g, 0, none⟩ = some (.int .u64 (G : Int)) ∧ W.cell? ⟨g, 1, none⟩ = some (.int .i64 (S : Int)) ∧ W.cell? ⟨g, 2, none⟩ = some (.int .i64 (B : Int)) ∧ W.cell? ⟨g, 3, none⟩ = some (.slice A n c) :=
  ⟨h.kh.cell 0, h.kh.cell 1, h.kh.cell 2, h.kh.cell 3⟩
/-- the list stored anew -/
theorem Hs.put (h : Hs w g G S B s A1 m c1 A n c M W) (hg : w.heap.size = g) (hM : Sps W A' c' M') (hn : M'.length = n') : Hs w g G S B s A1 m c1 A' n' c' M' (W.setCell ⟨g, 3, none⟩ (.slice A' n' c')) := by
  have f : Wd.Fr [g] W (W.setCell ⟨g, 3, none⟩ (.slice A' n' c')) := Fr.setCell W ⟨g, 3, none⟩ _ (by simp)
  refine ⟨h.kh.set 3 _, ?_, ?_, sps_fr hM (sac_nt h.kh) f, hn, ((Fr.of_below [g] h.bel).then f).below (Nat.le_refl _) fun x hx => by simp at hx; omega⟩
  · unfold Bk; rw [heap_setCell_other _ _ _ _ (by simp)]; exact h.ks
  · unfold Bk; rw [heap_setCell_other _ _ _ _ (by simp)]; exact h.kr
end
end Go.Proofs.YtdmibolbpgondaaGreat.X15
end

section
set_option linter.unusedSimpArgs false
set_option linter.unusedVariables false
namespace Go.Proofs.YtdmibolbpgondaaGreat.X15
open Go.RowKit Go.Lib Go.Maps Go.Proofs.YtdmibolbpgondaaGreat.Wd Go.Proofs.YtdmibolbpgondaaGreat.P06
open Go.Proofs.YtdmibolbpgondaaGreat.B07 (Pn OkN OkA OkP Spn Sps pns tenA ten Ten)
open Go.Proofs.YtdmibolbpgondaaGreat.D09 (TenW cp cp_neg)
/-- what Add tells -/
def RaOut (w : World) (A0 : Option Addr) (Mo : List Spn) (y0 : Spn) (G S B : Nat) (L : List Pn) (x : Pn) (e : Ending) (w' : World) : Prop :=
  ∃ A c M A2 c2 M2 A3 c3 M3, e = .returned (.tuple #[sag G S B A (add G S B L x).1.length c, .slice A2 (add G S B L x).2.1.length c2, .slice A3 (add G S B L x).2.2.length c3]) ∧ pns M = (add G S B L x).1 ∧ pns M2 = (add G S B L x).2.1 ∧ pns M3 = (add G S B L x).2.2 ∧ Sps w' A c M ∧ Sps w' A2 c2 M2 ∧ Sps w' A3 c3 M3 ∧ Below w.heap.size w w' ∧ (∀ y ∈ M, y ∈ Mo ∨ y = y0) ∧ (A = A0 ∧ M = Mo ∨ ∀ a, A = some a → w.heap.size ≤ a.block)
theorem sps_grown {w W W' : World} {A : Option Addr} {c : Nat} {M : List Spn} {o : List Nat} (h : Sps W A c M) (f : Wd.Fr o W W') (ha : 0 < M.length → ∀ a, A = some a → a.block ∉ o) (hm : ∀ y ∈ M, Ats w y.A y.c y.l) (hb : Below w.heap.size w W') : Sps W' A c M := by
  refine ⟨?_, fun y hy => (hm y hy).below hb⟩
  by_cases hz : 0 < M.length
  · obtain ⟨ad, p, hA, hp, F⟩ := h.get hz
    have e0 : ad.add (0 * 10) = ad := by simp [Addr.add]
    rw [e0] at hp
    subst hp
    have hl := World.block_lt_of_cell? _ _ F.c0
    exact rd_block h.rd fun a ha' => by
      rw [hA] at ha'
      cases ha'
      exact f.block _ hl (ha hz _ hA)
  · have : M = [] := List.eq_nil_of_length_eq_zero (by omega)
    subst this
    exact ⟨h.rd.len, h.rd.none_, h.rd.cap, h.rd.max, fun ad ha i u hu => by simp at hu⟩
/-- the state behind the search -/
structure Ha (w : World) (g G S B : Nat) (s : Sp) (A1 : Option Addr) (m c1 : Nat) (L : List Pn) (x : Pn) (M0 : List Spn) (T : Option Addr) (tl tc : Nat) (TM : List Spn) (A : Option Addr) (n c : Nat) (M : List Spn) (W : World) : Prop where
  hs : Hs w g G S B s A1 m c1 A n c M W
  er : pns M = era L x
  tl : TM.length = tl
  ts : Sps W T tc TM
  tm : ∀ y ∈ TM, y ∈ M0
  mm : ∀ y ∈ M, y ∈ M0
  ad : add G S B L x = ((shrink G S B (put L x)).1, pns TM, (shrink G S B (put L x)).2)
/-- the state of the second loop -/
structure Hl (w : World) (g G S B : Nat) (s : Sp) (A1 : Option Addr) (m c1 : Nat) (M0 : List Spn) (L0 : List Pn) (T : Option Addr) (tc : Nat) (TM : List Spn) (A : Option Addr) (n c : Nat) (M : List Spn) (Ag : Option Addr) (ng cg : Nat) (Mg : List Spn) (L : List Pn) (W : World) : Prop where
  hs : Hs w g G S B s A1 m c1 A n c M W
  pl : pns M = L
  so : So L
  ok : ∀ y ∈ L, Okx y
  mm : ∀ y ∈ M, y ∈ M0
  ts : Sps W T tc TM
  tm : ∀ y ∈ TM, y ∈ M0
  row : W.ownsRow (g + 3) 34 10 (.slice Ag ng cg) ng (Mg.flatMap ten)
  gl : Mg.length = ng
  gm : ∀ y ∈ Mg, y ∈ M0
  s1 : 0 < M.length → ∀ k a, (Value.slice Ag ng cg).ownBlock = some k → A = some a → a.block ≠ k
  s2 : 0 < TM.length → ∀ k a, (Value.slice Ag ng cg).ownBlock = some k → T = some a → a.block ≠ k
  gone : pns Mg ++ (shrink G S B L).2 = (shrink G S B L0).2
  stay : (shrink G S B L).1 = (shrink G S B L0).1
  an : ∀ a, A = some a → w.heap.size ≤ a.block
section
variable {w W : World} {g G S B : Nat} {s : Sp} {A1 A T Ag A2 Ak : Option Addr} {m c1 n c tc ng cg n2 c2 k1 ck q t : Nat} {M0 TM M Mg M1 M2 : List Spn} {L0 L : List Pn}
theorem Hl.below {W' : World} (h : Hl w g G S B s A1 m c1 M0 L0 T tc TM A n c M Ag ng cg Mg L W) (b : Below W.heap.size W W') : Hl w g G S B s A1 m c1 M0 L0 T tc TM A n c M Ag ng cg Mg L W' :=
  ⟨h.hs.below b, h.pl, h.so, h.ok, h.mm, h.ts.below b, h.tm, own_below h.row b, h.gl, h.gm, h.s1, h.s2, h.gone, h.stay, h.an⟩
theorem Hl.few (h : Hl w g G S B s A1 m c1 M0 L0 T tc TM A n c M Ag ng cg Mg L W) : n = L.length ∧ ng + (shrink G S B L).2.length = (shrink G S B L0).2.length := by
  constructor
  · rw [← h.pl, B07.pns_len]; exact h.hs.ln.symm
  · have := congrArg List.length h.gone
    simp only [List.length_append, B07.pns_len, h.gl] at this
    exact this
/-- a trace more is gone -/
theorem Hl.step (hA0 : ∀ y ∈ M0, Ats w y.A y.c y.l) (hg : w.heap.size = g) (h : Hl w g G S B s A1 m c1 M0 L0 T tc TM A n c M Ag ng cg Mg L W) (hb : big S B L = true) (ht : first G L = t) {W3 : World} (b3 : Below W.heap.size W W3)
    (hM1 : pns M1 = trace L t) (hk1 : M1.length = k1) (hM2 : pns M2 = rest L t) (hn2 : M2.length = n2) (r1 : Sps W3 Ak ck M1) (r2 : Sps W3 A2 c2 M2) (m1 : ∀ y ∈ M1, y ∈ M) (m2 : ∀ y ∈ M2, y ∈ M) (hf : ∀ a, A2 = some a → W.heap.size ≤ a.block)
    (kq : Bk W3 q 31 (sac G S B A2 n2 c2)) (hq : W.heap.size ≤ q) :
    W3.ownsRow (g + 3) 34 10 (.slice Ag ng cg) ng (Mg.flatMap ten) ∧ ∀ A' c' W4, W4.ownsRow (g + 3) 34 10 (.slice A' (ng + k1) c') (ng + k1) (Mg.flatMap ten ++ M1.flatMap ten) → W3.grownBy W4 (Value.slice Ag ng cg).ownBlock →
      ((Value.slice A' (ng + k1) c').ownBlock = (Value.slice Ag ng cg).ownBlock ∨ (Value.slice A' (ng + k1) c').ownBlock = some W3.heap.size) →
      Bk W4 q 31 (sac G S B A2 n2 c2) ∧ Bk W4 g 31 (sac G S B A n c) ∧ ∀ W5, Wd.Fr [g] W4 W5 → Bk W5 g 31 (sac G S B A2 n2 c2) → Hl w g G S B s A1 m c1 M0 L0 T tc TM A2 n2 c2 M2 A' (ng + k1) c' (Mg ++ M1) (rest L t) W5 := by
  have hrow3 := own_below h.row b3
  refine ⟨hrow3, fun A' c' W4 hrow4 hgr hat => ?_⟩
  obtain ⟨o, ho⟩ : ∃ o, ((Value.slice Ag ng cg).ownBlock).toList = o := ⟨_, rfl⟩
  have hin : ∀ x, x ∈ o ↔ (Value.slice Ag ng cg).ownBlock = some x := fun x => by rw [← ho]; simp [Option.mem_toList]
  have f : Wd.Fr o W3 W4 := Fr.of_grown hgr fun k hk => (hin k).2 hk
  have hoB : ∀ x ∈ o, g + 3 ≤ x ∧ x < W.heap.size := fun x hx => h.row.lt x ((hin x).1 hx)
  have hs3 := h.hs.below b3
  have hbw4 : Below w.heap.size w W4 := ((Fr.of_below o hs3.bel).then f).below (Nat.le_refl _) fun x hx => by have := (hoB x hx).1; omega
  have kq4 : Bk W4 q 31 (sac G S B A2 n2 c2) := by
    unfold Bk at *
    rw [f.block q (Array.getElem?_eq_some_iff.1 kq).1 fun hm => by have := (hoB q hm).2; omega]
    exact kq
  have kk : ∀ {x : Nat} {ty : TypeId} {cs : Array Value}, Bk W3 x ty cs → x < g + 3 → Bk W4 x ty cs := fun {x ty cs} hx hl => by
    unfold Bk at *
    rw [f.block x (Array.getElem?_eq_some_iff.1 hx).1 fun hm => by have := (hoB x hm).1; omega]
    exact hx
  have kg4 := kk hs3.kh (by omega)
  have ks4 := kk hs3.ks (by omega)
  have kr4 := kk hs3.kr (by omega)
  have r1' : Sps W4 A2 c2 M2 := sps_grown r2 f (fun _ a ha hm => by have := hf a ha; have := (hoB _ hm).2; omega) (fun y hy => hA0 y (h.mm y (m2 y hy))) hbw4
  have t4 : Sps W4 T tc TM := sps_grown (h.ts.below b3) f (fun hz a ha hm => h.s2 hz _ a ((hin _).1 hm) ha rfl) (fun y hy => hA0 y (h.tm y hy)) hbw4
  refine ⟨kq4, kg4, fun W5 f5 kg5 => ?_⟩
  have hnt := sac_nt kg4
  have hbw5 : Below w.heap.size w W5 := ((Fr.of_below [g] hbw4).then f5).below (Nat.le_refl _) fun x hx => by simp at hx; omega
  have k5 : ∀ {x : Nat} {ty : TypeId} {cs : Array Value}, Bk W4 x ty cs → x ≠ g → Bk W5 x ty cs := fun {x ty cs} hx hl => by
    unfold Bk at *
    rw [f5.block x (Array.getElem?_eq_some_iff.1 hx).1 (by simpa using hl)]
    exact hx
  have hg2 := shrink_go (G := G) hb
  rw [ht] at hg2
  refine ⟨⟨kg5, k5 ks4 (by omega), k5 kr4 (by omega), sps_fr r1' hnt f5, hn2, hbw5⟩, hM2, rest_so h.so _, fun y hy => h.ok y (mem_rest.1 hy).1, fun y hy => h.mm y (m2 y hy), sps_fr t4 hnt f5, h.tm, ?_, by simp [h.gl, hk1], fun y hy => ?_, fun hz k a hk ha => ?_, fun hz k a hk ha => ?_, ?_, ?_, fun a ha => Nat.le_trans h.hs.bel.size (hf a ha)⟩
  · rw [List.flatMap_append]
    exact own_high hrow4 f5 fun x hx => by simp at hx; omega
  · rcases List.mem_append.1 hy with hy | hy
    · exact h.gm y hy
    · exact h.mm y (m1 y hy)
  · rcases hat with e | e
    · rw [hk] at e
      have h1 := hf a ha
      have h2 := (hoB k ((hin k).2 e.symm)).2
      omega
    · rw [hk] at e
      have e : k = W3.heap.size := Option.some.inj e
      obtain ⟨ad, p, hA, hp, F⟩ := r2.get hz
      have e0 : ad.add (0 * 10) = ad := by simp [Addr.add]
      rw [e0] at hp
      subst hp
      have hl := World.block_lt_of_cell? _ _ F.c0
      rw [ha] at hA
      injection hA with hA
      subst hA
      omega
  · rcases hat with e | e
    · rw [hk] at e
      exact h.s2 hz k a e.symm ha
    · rw [hk] at e
      have e : k = W3.heap.size := Option.some.inj e
      obtain ⟨ad, p, hA, hp, F⟩ := (h.ts.below b3).get hz
      have e0 : ad.add (0 * 10) = ad := by simp [Addr.add]
      rw [e0] at hp
      subst hp
      have hl := World.block_lt_of_cell? _ _ F.c0
      rw [ha] at hA
      injection hA with hA
      subst hA
      omega
  · rw [← h.gone, hg2]
    have : pns (Mg ++ M1) = pns Mg ++ pns M1 := by simp [pns]
    rw [this, hM1, List.append_assoc]
  · rw [← h.stay, hg2]
end
/-- a struct told and a span laid, in either order -/
structure Rt (wz : World) (q : Nat) (cs O : Array Value) (Y : World) : Prop where
  sh : Bk Y q 31 cs
  li : Bk Y wz.heap.size 34 O
  fr : Wd.Fr [q] wz Y
section
variable {wz : World} {q : Nat} {O : Array Value} {a b c d a0 b0 c0 d0 : Value}
theorem Rt.one (h : Bk wz q 31 #[a0, b0, c0, d0]) : Rt wz q #[a, b, c, d] O (((((wz.alloc (.cells O 34)).setCell ⟨q, 0, none⟩ a).setCell ⟨q, 1, none⟩ b).setCell ⟨q, 2, none⟩ c).setCell ⟨q, 3, none⟩ d).drew := by
  have hq : q < wz.heap.size := (Array.getElem?_eq_some_iff.1 h).1
  have b1 : Below wz.heap.size wz (wz.alloc (.cells O 34)) := (Below.refl _ _).alloc (Nat.le_refl _) _
  have k1 := h.below b1
  have l1 := Bk.new wz 34 O
  refine ⟨((((k1.set 0 a).set 1 b).set 2 c).set 3 d).below (U12.drew_below _), ?_, ?_⟩
  · have : Bk (((((wz.alloc (.cells O 34)).setCell ⟨q, 0, none⟩ a).setCell ⟨q, 1, none⟩ b).setCell ⟨q, 2, none⟩ c).setCell ⟨q, 3, none⟩ d) wz.heap.size 34 O := by
      unfold Bk
      rw [heap_setCell_other _ _ _ _ (by simp; omega), heap_setCell_other _ _ _ _ (by simp; omega), heap_setCell_other _ _ _ _ (by simp; omega), heap_setCell_other _ _ _ _ (by simp; omega)]
      exact l1
    exact this.below (U12.drew_below _)
  · exact (((((Fr.of_below _ b1).then (Fr.setCell _ ⟨q, 0, none⟩ _ (by simp))).then (Fr.setCell _ ⟨q, 1, none⟩ _ (by simp))).then (Fr.setCell _ ⟨q, 2, none⟩ _ (by simp))).then (Fr.setCell _ ⟨q, 3, none⟩ _ (by simp))).then (Fr.of_below _ (U12.drew_below _))
theorem Rt.two (h : Bk wz q 31 #[a0, b0, c0, d0]) : Rt wz q #[a, b, c, d] O (((((wz.setCell ⟨q, 0, none⟩ a).setCell ⟨q, 1, none⟩ b).setCell ⟨q, 2, none⟩ c).setCell ⟨q, 3, none⟩ d).alloc (.cells O 34)).drew := by
  obtain ⟨V, hV⟩ : ∃ V, (((wz.setCell ⟨q, 0, none⟩ a).setCell ⟨q, 1, none⟩ b).setCell ⟨q, 2, none⟩ c).setCell ⟨q, 3, none⟩ d = V := ⟨_, rfl⟩
  have k1 : Bk V q 31 #[a, b, c, d] := by rw [← hV]; exact ((((h.set 0 a).set 1 b).set 2 c).set 3 d)
  have f1 : Wd.Fr [q] wz V := by rw [← hV]; exact (((((Fr.refl _ wz).then (Fr.setCell _ ⟨q, 0, none⟩ _ (by simp))).then (Fr.setCell _ ⟨q, 1, none⟩ _ (by simp))).then (Fr.setCell _ ⟨q, 2, none⟩ _ (by simp))).then (Fr.setCell _ ⟨q, 3, none⟩ _ (by simp)))
  have hs : V.heap.size = wz.heap.size := by rw [← hV]; simp
  rw [hV]
  have b1 : Below V.heap.size V (V.alloc (.cells O 34)) := (Below.refl _ _).alloc (Nat.le_refl _) _
  have l1 := Bk.new V 34 O
  rw [hs] at l1
  exact ⟨(k1.below b1).below (U12.drew_below _), l1.below (U12.drew_below _), (f1.then (Fr.of_below _ b1)).then (Fr.of_below _ (U12.drew_below _))⟩
end
/-- the one told is the lesser: nothing turns -/
theorem Rt.out {w wz Y : World} {g G S B : Nat} {s : Sp} {A1 A : Option Addr} {m c1 n c : Nat} {M : List Spn} {L : List Pn} {l : List At} {y : Pn} (hg : w.heap.size = g) (h : Hs w g G S B s A1 m c1 A n c M wz) (hL : pns M = L) (hm : l.length = m) (hA : Ats w A1 c1 l) (ho : ∀ y ∈ M, Ats w y.A y.c y.l) (hso : So L) (hy : y ∈ L) (hk : Ke y (s, l)) (hc : cp y (s, l) ≤ 0)
    (R : Rt wz (g + 2) (sac G S B A n c) (spc s (.slice A1 m c1)) Y) : RaOut w A M ⟨s, A1, c1, l⟩ G S B L (s, l) (.returned (.tuple #[sag G S B A n c, .slice (some ⟨wz.heap.size, 0, none⟩) 1 1, .slice none 0 0])) Y := by
  have hadd : add G S B L (s, l) = (L, [(s, l)], []) := by unfold add; rw [fnd_of hso hy hk]; dsimp only; rw [if_pos hc]
  have bw : Below w.heap.size w Y := ((Fr.of_below [g + 2] h.bel).then R.fr).below (Nat.le_refl _) fun x hx => by simp at hx; omega
  have hnt : Nt wz (g + 2) := Nt.of h.kr fun j s => by rcases j with _ | _ | _ | _ | j <;> simp
  have e10 : tenA ⟨s, A1, c1, l⟩ = spc s (.slice A1 m c1) := by unfold B07.tenA; dsimp only; rw [hm]
  have hr : Rd 10 Y (some ⟨wz.heap.size, 0, none⟩) 1 1 (ten ⟨s, A1, c1, l⟩) := by
    have h1 := R.li
    rw [← e10] at h1
    exact rd_block (B07.Rd.lit10 wz 34 ⟨s, A1, c1, l⟩) fun a ha => by
      injection ha with ha
      subst ha
      exact Eq.trans h1 (Bk.new wz 34 _).symm
  unfold RaOut
  rw [hadd]
  have hl : L.length = n := by rw [← hL, B07.pns_len]; exact h.ln
  exact ⟨A, c, M, some ⟨wz.heap.size, 0, none⟩, 1, [⟨s, A1, c1, l⟩], none, 0, [], by rw [← hl]; rfl, hL, rfl, rfl, sps_fr h.sp hnt R.fr, ⟨by simpa using hr, fun y hy => by rw [List.mem_singleton.1 hy]; exact hA.below bw⟩, Sps.nil _, bw, fun y hy => .inl hy, .inl ⟨rfl, rfl⟩⟩
/-- two may come up -/
theorem Zed.step2 {P : Program} {ops : Array Oper} {Q : Exit → Act → World → Prop} {md : Region.Mode} {S : World → Prop} {z i j fuel : Nat} {oi oj : Oper} {listed : Array Bool} {a : Act} {w : World} (hr : Region.ready md ops listed = [i, j]) (hi : ops[i]? = some oi) (hgi : oi.guard = none) (hj : ops[j]? = some oj) (hgj : oj.guard = none)
    (h1 : ∀ K : Act → World → Prop, (∀ a' w', ((i = z ∨ S w') ∧ Zed P md ops Q S z fuel (listed.setIfInBounds i true) a' w') → K a' w') → Oper.wp P oi a w K Q)
    (h2 : ∀ K : Act → World → Prop, (∀ a' w', ((j = z ∨ S w') ∧ Zed P md ops Q S z fuel (listed.setIfInBounds j true) a' w') → K a' w') → Oper.wp P oj a w K Q) : Zed P md ops Q S z (fuel + 1) listed a w := by
  refine ⟨fun h0 => (by rw [hr] at h0; cases h0), fun x hx => ?_⟩
  rw [hr] at hx
  rcases List.mem_cons.1 hx with rfl | hx
  · unfold wpOp
    simp only [hi]
    rw [if_pos (by simp [Region.wanted, hgi])]
    exact .inl (h1 _ fun _ _ h => h)
  · have hx := List.mem_singleton.1 hx
    subst hx
    unfold wpOp
    simp only [hj]
    rw [if_pos (by simp [Region.wanted, hgj])]
    exact .inl (h2 _ fun _ _ h => h)
/-- a trace taken, seen from a world ahead -/
structure Tp (wx : World) (G S B : Nat) (L : List Pn) (t : Nat) (M : List Spn) (k1 n2 : Nat) (Ak : Option Addr) (ck : Nat) (M1 : List Spn) (A2 : Option Addr) (c2 : Nat) (M2 : List Spn) (W : World) : Prop where
  b : Below wx.heap.size wx W
  p1 : pns M1 = trace L t
  l1 : M1.length = k1
  p2 : pns M2 = rest L t
  l2 : M2.length = n2
  r1 : Sps W Ak ck M1
  r2 : Sps W A2 c2 M2
  m1 : ∀ y ∈ M1, y ∈ M
  m2 : ∀ y ∈ M2, y ∈ M
  hf : ∀ a, A2 = some a → wx.heap.size ≤ a.block
section
variable {wx W W' : World} {G S B t k1 n2 ck c2 q : Nat} {L : List Pn} {M M1 M2 : List Spn} {Ak A2 : Option Addr}
theorem Tp.below (h : Tp wx G S B L t M k1 n2 Ak ck M1 A2 c2 M2 W) (b : Below W.heap.size W W') : Tp wx G S B L t M k1 n2 Ak ck M1 A2 c2 M2 W' :=
  ⟨h.b.trans (b.mono h.b.size), h.p1, h.l1, h.p2, h.l2, h.r1.below b, h.r2.below b, h.m1, h.m2, h.hf⟩
theorem Tp.of {e : Ending} (h : RkOut W M G S B L t e W') (hb : Below wx.heap.size wx W) (h1 : (trace L t).length = k1) (h2 : (rest L t).length = n2) : ∃ Ak ck M1 A2 c2 M2, e = .returned (.tuple #[.slice Ak k1 ck, sag G S B A2 n2 c2]) ∧ Tp wx G S B L t M k1 n2 Ak ck M1 A2 c2 M2 W' := by
  obtain ⟨A1, c1, M1, A2, c2, M2, rfl, p1, p2, r1, r2, b, m1, m2, hf⟩ := h
  refine ⟨A1, c1, M1, A2, c2, M2, by rw [h1, h2], hb.trans (b.mono hb.size), p1, by rw [← h1, ← p1, B07.pns_len], p2, by rw [← h2, ← p2, B07.pns_len], r1, r2, m1, m2, fun a ha => Nat.le_trans hb.size (hf a ha)⟩
theorem Tp.set (h : Tp wx G S B L t M k1 n2 Ak ck M1 A2 c2 M2 W) (kq : Bk W q 31 #[.int .u64 0, .int .i64 0, .int .i64 0, .slice none 0 0]) (hq : wx.heap.size ≤ q) (a b c d : Value) :
    Tp wx G S B L t M k1 n2 Ak ck M1 A2 c2 M2 ((((W.setCell ⟨q, 0, none⟩ a).setCell ⟨q, 1, none⟩ b).setCell ⟨q, 2, none⟩ c).setCell ⟨q, 3, none⟩ d) ∧ Bk ((((W.setCell ⟨q, 0, none⟩ a).setCell ⟨q, 1, none⟩ b).setCell ⟨q, 2, none⟩ c).setCell ⟨q, 3, none⟩ d) q 31 #[a, b, c, d] := by
  have hnt : Nt W q := Nt.of kq fun j s => by rcases j with _ | _ | _ | _ | j <;> simp
  have f : Wd.Fr [q] W ((((W.setCell ⟨q, 0, none⟩ a).setCell ⟨q, 1, none⟩ b).setCell ⟨q, 2, none⟩ c).setCell ⟨q, 3, none⟩ d) := (((((Fr.refl _ W).then (Fr.setCell _ ⟨q, 0, none⟩ _ (by simp))).then (Fr.setCell _ ⟨q, 1, none⟩ _ (by simp))).then (Fr.setCell _ ⟨q, 2, none⟩ _ (by simp))).then (Fr.setCell _ ⟨q, 3, none⟩ _ (by simp)))
  exact ⟨⟨((Fr.of_below [q] h.b).then f).below (Nat.le_refl _) fun x hx => by simp at hx; omega, h.p1, h.l1, h.p2, h.l2, sps_fr h.r1 hnt f, sps_fr h.r2 hnt f, h.m1, h.m2, h.hf⟩, (((kq.set 0 a).set 1 b).set 2 c).set 3 d⟩
end
/-- no more than may be: what is told -/
theorem Hl.out {w W Y : World} {g G S B : Nat} {s : Sp} {A1 A T Ag : Option Addr} {m c1 n c tc tl ng cg : Nat} {M0 TM M Mg : List Spn} {L0 L : List Pn} {x : Pn} (hA0 : ∀ y ∈ M0, Ats w y.A y.c y.l) (hg : w.heap.size = g) (h : Hl w g G S B s A1 m c1 M0 (put L0 x) T tc TM A n c M Ag ng cg Mg L W) (hb : big S B L = false) (htl : TM.length = tl)
    (had : add G S B L0 x = ((shrink G S B (put L0 x)).1, pns TM, (shrink G S B (put L0 x)).2)) (f : Wd.Fr [g + 2] W Y) (A0 : Option Addr) (Mo : List Spn) (y0 : Spn) (hmo : Mo ++ [y0] = M0) : RaOut w A0 Mo y0 G S B L0 x (.returned (.tuple #[sag G S B A n c, .slice T tl tc, .slice Ag ng cg])) Y := by
  have hno := shrink_no (G := G) hb
  have hnt : Nt W (g + 2) := Nt.of h.hs.kr fun j s => by rcases j with _ | _ | _ | _ | j <;> simp
  have bw : Below w.heap.size w Y := ((Fr.of_below [g + 2] h.hs.bel).then f).below (Nat.le_refl _) fun x hx => by simp at hx; omega
  have h1 : L = (shrink G S B (put L0 x)).1 := by rw [← h.stay, hno]
  have h2 : pns Mg = (shrink G S B (put L0 x)).2 := by rw [← h.gone, hno, List.append_nil]
  unfold RaOut
  rw [had]
  dsimp only
  rw [← h1, ← h2]
  refine ⟨A, c, M, T, tc, TM, Ag, cg, Mg, ?_, h.pl, rfl, rfl, sps_fr h.hs.sp hnt f, sps_fr h.ts hnt f, ⟨Rd.own (by rw [h.gl]; exact own_high h.row f fun x hx => by simp at hx; omega), fun y hy => (hA0 y (h.gm y hy)).below bw⟩, bw, fun y hy => (by have := h.mm y hy; rw [← hmo] at this; rcases List.mem_append.1 this with h | h; exact .inl h; exact .inr (List.mem_singleton.1 h)), .inr h.an⟩
  rw [← h.few.1, B07.pns_len, B07.pns_len, htl, h.gl]
end Go.Proofs.YtdmibolbpgondaaGreat.X15
end
