/-
  Shard.Add. (Written by gen15/add.py.)
-/
import Derived.Test.YtdmibolbpgondaaGreatKX15Put
import Derived.Test.YtdmibolbpgondaaGreatKX15Over
import Derived.Test.YtdmibolbpgondaaGreatKX15Shrink
import Derived.Test.YtdmibolbpgondaaGreatKP06Place
import Derived.Test.YtdmibolbpgondaaGreatKP06Ord
set_option linter.unusedSimpArgs false
set_option linter.unusedVariables false
namespace Go.Proofs.YtdmibolbpgondaaGreat.X15
open Go.RowKit Go.Lib Go.Maps Go.Proofs.YtdmibolbpgondaaGreat.Wd Go.Proofs.YtdmibolbpgondaaGreat.P06
open Go.Proofs.YtdmibolbpgondaaGreat.B07 (Pn OkN OkA OkP Spn Sps pns tenA ten Ten ten_len)
open Go.Proofs.YtdmibolbpgondaaGreat.D09 (cp)
open Go.Proofs.YtdmibolbpgondaaGreat.U12 (drew_below)
section
variable {w w' : World} {col col' : Nat → Nat} {p : Pr} {L : List Pn} {sp : Nat}
/-- what put does: which stay, which one is twice -/
def puts (L : List Pn) (s : Pn) : List Pn × List Pn :=
  match fnd L s with
  | some y => if cp y s ≤ 0 then (L, [s]) else (put L s, [y])
  | none => (put L s, [])
theorem add_puts {G S B : Nat} {L : List Pn} {s : Pn} (h : big S B L = false) : add G S B L s = ((shrink G S B (puts L s).1).1, (puts L s).2, (shrink G S B (puts L s).1).2) := by
  unfold add puts
  cases fnd L s with
  | none => rfl
  | some y =>
    dsimp only
    by_cases hc : cp y s ≤ 0
    · rw [if_pos hc, if_pos hc, shrink_no h]
    · rw [if_neg hc, if_neg hc]
theorem puts_len (L : List Pn) (s : Pn) (hs : So L) : (puts L s).1.length ≤ L.length + 1 := by
  unfold puts
  cases e : fnd L s with
  | none => exact Nat.le_of_eq (put_new (fnd_none e)).1
  | some y =>
    dsimp only
    split
    · exact Nat.le_succ _
    · have := (put_old hs (fnd_some e).1 (fnd_some e).2).1
      show (put L s).length ≤ _
      omega
theorem put_any (h : Rm w col p L) (s : Sp) (A : Option Addr) (c n : Nat) (l : List At) (hn : l.length = n) (hok : Okx (s, l)) (hd : Hd 0 w A c l) (hc : ∀ a, A = some a → col a.block = 0) (hfew : L.length ≤ 400) (hG : p.G ≤ MT) :
    Calls Tryz.prog 32 #[.pointer (some ⟨p.r, 0, none⟩), .agg #[.int .u64 s.T, .int .u64 s.I, .int .u64 s.P, .string s.sv, .string s.nm, .int .i64 s.kd, .int .i64 s.st, .int .u64 s.t0, .int .u64 s.t1, .slice A n c]] w (PtOut w col p (puts L (s, l)).1 (puts L (s, l)).2) := by
  unfold puts
  cases e : fnd L (s, l) with
  | none => exact put_fresh h s A c n l hn hok hd hc hfew hG e
  | some y =>
    dsimp only
    by_cases hcp : cp y (s, l) ≤ 0
    · rw [if_pos hcp]; exact put_kept h s A c n l hn hok hd hc hfew hG y e hcp
    · rw [if_neg hcp]; exact put_over h s A c n l hn hok hd hc hfew hG y e hcp
/-- a block of two cells holds no attributes and no spans -/
theorem hd_two {f : Nat} {t : TypeId} {u v : Value} {A : Option Addr} {c : Nat} {l : List At} (h : Hd 0 w A c l) (bf : Bk w f t #[u, v]) (F : Wd.Fr [f] w w') : Hd 0 w' A c l := by
  rcases h with h | ⟨g, rfl, hB, hg, hH, r⟩
  · exact .inl h
  · by_cases e : g = f
    · subst e
      cases l with
      | nil => exact .inr ⟨g, rfl, hB, Nat.lt_of_lt_of_le hg F.size, fun j hj => absurd hj (by simp), r⟩
      | cons x l =>
        have h4 := (Hd.four hH (k := 0) (by simp)).4
        rw [bf.cell] at h4
        simp at h4
    · exact hd_fr (.inr ⟨g, rfl, hB, hg, hH, r⟩) F fun a ha hm => by
        injection ha with ha
        subst ha
        exact e (List.mem_singleton.1 hm)
theorem Out.two {f : Nat} {t : TypeId} {u v : Value} {A : Option Addr} {c : Nat} {M : List Spn} (h : Out w col A c M) (bf : Bk w f t #[u, v]) (F : Wd.Fr [f] w w') : Out w' col A c M := by
  refine ⟨⟨h.rd.len, h.rd.none_, h.rd.cap, h.rd.max, fun ad ha i u' hu => ?_⟩, fun y hy => hd_two (h.hd y hy) bf F, fun a ha => ⟨(h.a0 a ha).1, Nat.lt_of_lt_of_le (h.a0 a ha).2 F.size⟩, h.c0⟩
  by_cases e : ad.block = f
  · exfalso
    have hl := h.rd.len
    have hi : i < (M.flatMap ten).length := (List.getElem?_eq_some_iff.1 hu).1
    have h2 : 2 < (M.flatMap ten).length := by omega
    have h3 := h.rd.at_ ad ha 2 _ (List.getElem?_eq_getElem h2)
    rw [B07.add_pos _ _ (by omega), e, bf.cell, Array.getElem?_eq_none (by simp)] at h3
    cases h3
  · have hk : w'.cell? (ad.add i) = w.cell? (ad.add i) := World.cell?_of_block (by rw [add_block]; exact F.block _ (h.a0 ad ha).2 fun hm => e (List.mem_singleton.1 hm))
    rw [hk]
    exact h.rd.at_ ad ha i u' hu
theorem Rm.two {f : Nat} {t : TypeId} {u v : Value} (h : Rm w col p L) (bf : Bk w f t #[u, v]) (hf : col f = 0) (F : Wd.Fr [f] w w') : Rm w' col p L :=
  ⟨h.rx.same F fun x hx => by rw [List.mem_singleton.1 hx]; exact hf, ⟨h.sm.so, h.sm.ok, h.sm.bi, h.sm.qi, h.sm.nt, h.sm.ne, fun t ht x hx => by
    obtain ⟨y, h1, h2, h3, h4⟩ := h.sm.fi t ht x hx
    exact ⟨y, h1, h2, hd_two h3 bf F, h4⟩, h.sm.fn, h.sm.ni, h.sm.mi, h.sm.dq⟩, h.n, h.h⟩
theorem Sd.fs {L' : List Pn} {p' : Pr} (h : Sd w col sp p L) (F : Fs w w' col col') (X : Fix p p') (R : Rm w' col' p' L') : Sd w' col' sp p' L' := by
  have hl := World.block_lt_of_cell? _ _ h.c
  have e : w'.cell? ⟨sp, 0, none⟩ = w.cell? ⟨sp, 0, none⟩ := World.cell?_of_block (F.fr.block sp hl fun hm => (mem_ow.1 hm).2.1 h.k)
  refine ⟨R, by rw [e, X.r]; exact h.c, ?_⟩
  by_cases e : col' sp = 0
  · exact e
  · exact absurd h.k ((F.old sp hl).1 e)
/-- what Add leaves -/
def AdOut (w : World) (col : Nat → Nat) (sp : Nat) (p : Pr) (L : List Pn) (s : Pn) (e : Ending) (w' : World) : Prop :=
  ∃ A1 c1 M1 A2 c2 M2 col' p', e = .returned (.tuple #[.agg #[.slice A1 (add p.G p.S p.B L s).2.1.length c1, .slice A2 (add p.G p.S p.B L s).2.2.length c2], .int .i64 0]) ∧ pns M1 = (add p.G p.S p.B L s).2.1 ∧ pns M2 = (add p.G p.S p.B L s).2.2 ∧
    Out w' col' A1 c1 M1 ∧ Out w' col' A2 c2 M2 ∧ Sd w' col' sp p' (add p.G p.S p.B L s).1 ∧ Fs w w' col col' ∧ Fix p p'
theorem spc_nine (s : Sp) (u v : Value) : (spc s u).setIfInBounds 9 v = spc s v := rfl
set_option maxRecDepth 20000 in
set_option maxHeartbeats 8000000 in
theorem add_right (h : Sd w col sp p L) (hbig : big p.S p.B L = false) (s : Sp) (A : Option Addr) (c n : Nat) (l : List At) (hn : l.length = n) (hok : Okx (s, l)) (hd : Hd 0 w A c l) (b : Bool) (hb : b = true ↔ Amb l) (hck : chk s b = 0) (hfew : L.length ≤ 400) (hG : p.G ≤ MT) :
    Calls Tryz.prog 10 #[.pointer (some ⟨sp, 0, none⟩), spv s (.slice A n c)] w (AdOut w col sp p L (s, l)) := by
  have hn40 : n ≤ 40 := by rw [← hn]; exact hok.r.few
  have bx : Bk (w.alloc (.cells (spc s (.slice A n c)) 45)) w.heap.size 45 (spc s (.slice A n c)) := Bk.new w _ _
  obtain ⟨g, hg⟩ : ∃ g, w.heap.size = g := ⟨_, rfl⟩
  obtain ⟨V, hV⟩ : ∃ V, (w.alloc (.cells (spc s (.slice A n c)) 45)).alloc (.cells #[.slice none 0 0, .slice none 0 0] 40) = V := ⟨_, rfl⟩
  have bf : Bk V (g + 1) 40 #[.slice none 0 0, .slice none 0 0] := by rw [← hV, ← hg]; have := Bk.new (w.alloc (.cells (spc s (.slice A n c)) 45)) 40 #[.slice none 0 0, .slice none 0 0]; rw [World.size_alloc] at this; exact this
  have bV : Below w.heap.size w V := by rw [← hV]; exact ((Below.refl _ _).alloc (Nat.le_refl _) _).alloc (by simp) _
  have bk : Bk V g 45 (spc s (.slice A n c)) := by rw [← hV]; rw [hg] at bx; exact bx.below ((Below.refl _ _).alloc (Nat.le_refl _) _)
  have HN := Lib.hid hn
  clear bx hn
  go_enter Tryz.func10, Tryz.ntmps10
  obtain ⟨x0, x1, x2, x3, x4, x5, x6, x7, x8, x9⟩ := ten_cells bk
  go_wp2_with fail
  have hcg : col g = 0 := by rw [← hg]; exact h.rm.rx.new0
  have hcf : col (g + 1) = 0 := by
    by_cases e : col (g + 1) = 0
    · exact e
    · have := h.rm.rx.lt _ e; omega
  have hchk := check_any s A c n l V (hd.below bV) HN.out hn40 b hb
  rw [hck] at hchk
  refine hchk.mono ?_
  rintro e w1 ⟨rfl, b1⟩
  have bw1 := bV.trans (b1.mono bV.size)
  have bk1 := bk.below b1
  have bf1 := bf.below b1
  clear x0 x1 x2 x3 x4 x5 x6 x7 x8 x9 bk bf hchk hV b1 bV
  have x9 := bk1.cell 9
  simp only [List.getElem?_toArray, List.getElem?_cons_zero, List.getElem?_cons_succ] at x9
  go_wp2_with fail
  refine (clone_any A c n l w1 (hd.below bw1) HN.out hn40).mono ?_
  rintro e w2 ⟨A', c', rfl, hd2, b2⟩
  have bw2 := bw1.trans (b2.mono bw1.size)
  have bk2 := bk1.below b2
  have bf2 := bf1.below b2
  have fs2 : Wd.Fr [g] w2 (w2.setCell ⟨g, 9, none⟩ (.slice A' n c')) := Fr.setCell w2 ⟨g, 9, none⟩ _ (List.mem_singleton.2 rfl)
  have b5 : Below w.heap.size w (w2.setCell ⟨g, 9, none⟩ (.slice A' n c')) := ((Fr.of_below [g] bw2).then fs2).below (Nat.le_refl _) fun x hx => by
    rw [List.mem_singleton.1 hx, ← hg]; exact Nat.le_refl _
  have bk5 : Bk (w2.setCell ⟨g, 9, none⟩ (.slice A' n c')) g 45 (spc s (.slice A' n c')) := by have := bk2.set 9 (.slice A' n c'); rw [spc_nine] at this; exact this
  have bf5 : Bk (w2.setCell ⟨g, 9, none⟩ (.slice A' n c')) (g + 1) 40 #[.slice none 0 0, .slice none 0 0] := by
    unfold Bk
    rw [heap_setCell_other _ _ _ _ (by simp)]
    exact bf2
  have hA' : ∀ a, A' = some a → w1.heap.size ≤ a.block := fun a ha => (B07.Hd.lt hd2 a ha).1
  have hgw : g < w1.heap.size := World.block_lt_of_cell? _ _ x9
  have hd5 : Hd 0 (w2.setCell ⟨g, 9, none⟩ (.slice A' n c')) A' c' l := hd_fr (hd2.low (Nat.zero_le _)) fs2 fun a ha hm => by
    have := hA' a ha
    have := List.mem_singleton.1 hm
    omega
  have hc5 : ∀ a, A' = some a → col a.block = 0 := fun a ha => by
    by_cases e : col a.block = 0
    · exact e
    · have h1 := h.rm.rx.lt _ e
      have h2 := hA' a ha
      have := bw1.size
      omega
  have f9 : w2.frozen? ⟨g, 9, none⟩ = false := bk2.frozen 9
  have y9 := bk2.cell 9
  simp only [List.getElem?_toArray, List.getElem?_cons_zero, List.getElem?_cons_succ] at y9
  obtain ⟨W5, hW5⟩ : ∃ W5, w2.setCell ⟨g, 9, none⟩ (.slice A' n c') = W5 := ⟨_, rfl⟩
  rw [hW5] at b5 bk5 bf5 hd5
  have hall := sall_at (h.below b5).c
  have hput := put_any (h.rm.below b5) s A' c' n l HN.out hok hd5 hc5 hfew hG
  have hpl := puts_len L (s, l) h.rm.sm.so
  obtain ⟨K, hK⟩ : ∃ K, puts L (s, l) = K := ⟨_, rfl⟩
  obtain ⟨K1, K2⟩ := K
  rw [hK] at hput hpl
  dsimp only at hput hpl
  have ea := add_puts (G := p.G) (s := (s, l)) hbig
  rw [hK] at ea
  dsimp only at ea
  obtain ⟨k1, hk1⟩ : ∃ k1, K2.length = k1 := ⟨_, rfl⟩
  have HB5 := Lib.hid (And.intro b5 (And.intro bf5 (And.intro hcf ea)))
  clear b2 bw1 bw2 bk1 bf1 bk2 bf2 fs2 hd2 hA' hgw hd5 hc5 b5 bf5 hK ea x9 hcg
  obtain ⟨x0, x1, x2, x3, x4, x5, x6, x7, x8, x9⟩ := ten_cells bk5
  go_wp2_with fail
  refine hall.mono ?_
  rintro e w5 ⟨rfl, rfl⟩
  go_wp2_with fail
  refine hput.mono ?_
  rintro e w6 ⟨A1, c1, M1, col1, p1, rfl, hM1, hO1, hR1, hF1, hX1⟩
  rw [hk1]
  obtain ⟨b5, bf5, hcf, ea⟩ := HB5.out
  obtain ⟨bf6, hcf6⟩ := bk_fs bf5 hF1 hcf
  have hshr := shrink_at hR1 (by omega)
  unfold ShOut at hshr
  rw [hX1.G, hX1.S, hX1.B, hX1.r] at hshr
  obtain ⟨Q, hQ⟩ : ∃ Q, shrink p.G p.S p.B K1 = Q := ⟨_, rfl⟩
  obtain ⟨Q1, Q2⟩ := Q
  rw [hQ] at hshr ea
  dsimp only at hshr ea
  obtain ⟨k2, hk2⟩ : ∃ k2, Q2.length = k2 := ⟨_, rfl⟩
  rw [hk2] at hshr
  have HX := Lib.hid (And.intro hM1 (And.intro hO1 (And.intro hF1 (And.intro hX1 (And.intro bf6 (And.intro hcf6 ea))))))
  clear hput hall hM1 hO1 hR1 hF1 hX1 bf6 hcf6 bf5 hcf ea b5 x0 x1 x2 x3 x4 x5 x6 x7 x8 x9 bk5 hQ
  go_wp2_with fail
  refine hshr.mono ?_
  rintro e w7 ⟨A2, c2, M2, col2, p2, rfl, hM2, hO2, hR2, hF2, hX2⟩
  obtain ⟨hM1, hO1, hF1, hX1, bf6, hcf6, ea⟩ := HX.out
  obtain ⟨bf7, hcf7⟩ := bk_fs bf6 hF2 hcf6
  have z0 := bf7.cell 0
  have z1 := bf7.cell 1
  have g0 := bf7.frozen 0
  have g1 := bf7.frozen 1
  simp only [List.getElem?_toArray, List.getElem?_cons_zero, List.getElem?_cons_succ] at z0 z1
  clear hshr
  go_wp2_with fail
  obtain ⟨W8, hW8⟩ : ∃ W8, (w7.setCell ⟨g + 1, 0, none⟩ (.slice A1 k1 c1)).setCell ⟨g + 1, 1, none⟩ (.slice A2 k2 c2) = W8 := ⟨_, rfl⟩
  have fr8 : Wd.Fr [g + 1] w7 W8 := by rw [← hW8]; exact (Fr.setCell w7 ⟨g + 1, 0, none⟩ _ (List.mem_singleton.2 rfl)).then (Fr.setCell _ ⟨g + 1, 1, none⟩ _ (List.mem_singleton.2 rfl))
  have bf8 : Bk W8 (g + 1) 40 #[.slice A1 k1 c1, .slice A2 k2 c2] := by rw [← hW8]; exact (bf7.set 0 _).set 1 _
  have y0 := bf8.cell 0
  have y1 := bf8.cell 1
  simp only [List.getElem?_toArray, List.getElem?_cons_zero, List.getElem?_cons_succ] at y0 y1
  have O1 := (hO1.fs hF2).two bf7 fr8
  have O2 := hO2.two bf7 fr8
  have R8 := hR2.two bf7 hcf7 fr8
  have b5 := HB5.out.1
  have FA : Fs w W8 col col2 := ((Fs.below b5).trans (hF1.trans hF2)).fresh fr8 fun x hx => by rw [List.mem_singleton.1 hx]; omega
  have S8 := h.fs FA (hX1.trans hX2) R8
  have HFin := Lib.hid (show AdOut w col sp p L (s, l) (.returned (.tuple #[.agg #[.slice A1 k1 c1, .slice A2 k2 c2], .int .i64 0])) W8 from by
    unfold AdOut
    rw [ea]
    dsimp only
    rw [hk1, hk2]
    exact ⟨A1, c1, M1, A2, c2, M2, col2, p2, rfl, hM1, hM2, O1, O2, S8, FA, hX1.trans hX2⟩)
  (try rw [hW8])
  clear O1 O2 R8 b5 FA S8 hW8 fr8 bf8 z0 z1 g0 g1 bf7 bf6 hO1 hO2 hR2 hF1 hF2 hX1 hX2 HX
  refine bodyPost_ret (by simp [results, Tryz.results10, go_sem, y0, y1]; try rfl) rfl ?_
  exact HFin.out
set_option maxRecDepth 20000 in
set_option maxHeartbeats 4000000 in
theorem add_wrong (s : Sp) (A : Option Addr) (c n : Nat) (l : List At) (w : World) (hn : l.length = n) (hn40 : n ≤ 40) (hd : Hd 0 w A c l) (b : Bool) (hb : b = true ↔ Amb l) (hck : ¬ chk s b = 0) :
    Calls Tryz.prog 10 #[.pointer (some ⟨sp, 0, none⟩), spv s (.slice A n c)] w fun e w' => e = .returned (.tuple #[.agg #[.slice none 0 0, .slice none 0 0], .int .i64 1]) ∧ Below w.heap.size w w' := by
  have bx : Bk (w.alloc (.cells (spc s (.slice A n c)) 45)) w.heap.size 45 (spc s (.slice A n c)) := Bk.new w _ _
  obtain ⟨g, hg⟩ : ∃ g, w.heap.size = g := ⟨_, rfl⟩
  obtain ⟨V, hV⟩ : ∃ V, (w.alloc (.cells (spc s (.slice A n c)) 45)).alloc (.cells #[.slice none 0 0, .slice none 0 0] 40) = V := ⟨_, rfl⟩
  have bf : Bk V (g + 1) 40 #[.slice none 0 0, .slice none 0 0] := by rw [← hV, ← hg]; have := Bk.new (w.alloc (.cells (spc s (.slice A n c)) 45)) 40 #[.slice none 0 0, .slice none 0 0]; rw [World.size_alloc] at this; exact this
  have bV : Below w.heap.size w V := by rw [← hV]; exact ((Below.refl _ _).alloc (Nat.le_refl _) _).alloc (by simp) _
  have bk : Bk V g 45 (spc s (.slice A n c)) := by rw [← hV]; rw [hg] at bx; exact bx.below ((Below.refl _ _).alloc (Nat.le_refl _) _)
  obtain ⟨k, hk⟩ : ∃ k, chk s b = k := ⟨_, rfl⟩
  have hchk := check_any s A c n l V (hd.below bV) hn hn40 b hb
  rw [hk] at hchk hck
  have hkb : (k == 0) = false := by simpa using hck
  clear bx hn hk
  go_enter Tryz.func10, Tryz.ntmps10
  obtain ⟨x0, x1, x2, x3, x4, x5, x6, x7, x8, x9⟩ := ten_cells bk
  go_wp2_with fail
  refine hchk.mono ?_
  rintro e w1 ⟨rfl, b1⟩
  have bf1 := bf.below b1
  have bw1 := bV.trans (b1.mono bV.size)
  have z0 := bf1.cell 0
  have z1 := bf1.cell 1
  have g0 := bf1.frozen 0
  have g1 := bf1.frozen 1
  simp only [List.getElem?_toArray, List.getElem?_cons_zero, List.getElem?_cons_succ] at z0 z1
  obtain ⟨W8, hW8⟩ : ∃ W8, (w1.setCell ⟨g + 1, 0, none⟩ (.slice none 0 0)).setCell ⟨g + 1, 1, none⟩ (.slice none 0 0) = W8 := ⟨_, rfl⟩
  have fr8 : Wd.Fr [g + 1] w1 W8 := by rw [← hW8]; exact (Fr.setCell w1 ⟨g + 1, 0, none⟩ _ (List.mem_singleton.2 rfl)).then (Fr.setCell _ ⟨g + 1, 1, none⟩ _ (List.mem_singleton.2 rfl))
  have bf8 : Bk W8 (g + 1) 40 #[.slice none 0 0, .slice none 0 0] := by rw [← hW8]; exact (bf1.set 0 _).set 1 _
  have b8 : Below w.heap.size w W8 := ((Fr.of_below [g + 1] bw1).then fr8).below (Nat.le_refl _) fun x hx => by rw [List.mem_singleton.1 hx]; omega
  have y0 := bf8.cell 0
  have y1 := bf8.cell 1
  simp only [List.getElem?_toArray, List.getElem?_cons_zero, List.getElem?_cons_succ] at y0 y1
  have HB := Lib.hid b8
  clear b8 fr8 bf8 bf bf1 bV bw1 b1 hchk hV hd bk
  go_wp2
  (try rw [hW8])
  refine bodyPost_ret (by simp [results, Tryz.results10, go_sem, y0, y1]; try rfl) rfl ?_
  exact ⟨rfl, HB.out⟩
set_option maxRecDepth 20000 in
set_option maxHeartbeats 4000000 in
theorem add_nil (s : Sp) (v : Value) (w : World) :
    Calls Tryz.prog 10 #[.pointer none, spv s v] w fun e w' => e = .returned (.tuple #[.agg #[.slice none 0 0, .slice none 0 0], .int .i64 3]) ∧ Below w.heap.size w w' := by
  obtain ⟨g, hg⟩ : ∃ g, w.heap.size = g := ⟨_, rfl⟩
  obtain ⟨V, hV⟩ : ∃ V, (w.alloc (.cells (spc s v) 45)).alloc (.cells #[.slice none 0 0, .slice none 0 0] 40) = V := ⟨_, rfl⟩
  have bf1 : Bk V (g + 1) 40 #[.slice none 0 0, .slice none 0 0] := by rw [← hV, ← hg]; have := Bk.new (w.alloc (.cells (spc s v) 45)) 40 #[.slice none 0 0, .slice none 0 0]; rw [World.size_alloc] at this; exact this
  have bV : Below w.heap.size w V := by rw [← hV]; exact ((Below.refl _ _).alloc (Nat.le_refl _) _).alloc (by simp) _
  have HV := Lib.hid hV
  go_enter Tryz.func10, Tryz.ntmps10
  have z0 := bf1.cell 0
  have z1 := bf1.cell 1
  have g0 := bf1.frozen 0
  have g1 := bf1.frozen 1
  simp only [List.getElem?_toArray, List.getElem?_cons_zero, List.getElem?_cons_succ] at z0 z1
  obtain ⟨W8, hW8⟩ : ∃ W8, (V.setCell ⟨g + 1, 0, none⟩ (.slice none 0 0)).setCell ⟨g + 1, 1, none⟩ (.slice none 0 0) = W8 := ⟨_, rfl⟩
  have fr8 : Wd.Fr [g + 1] V W8 := by rw [← hW8]; exact (Fr.setCell V ⟨g + 1, 0, none⟩ _ (List.mem_singleton.2 rfl)).then (Fr.setCell _ ⟨g + 1, 1, none⟩ _ (List.mem_singleton.2 rfl))
  have bf8 : Bk W8 (g + 1) 40 #[.slice none 0 0, .slice none 0 0] := by rw [← hW8]; exact (bf1.set 0 _).set 1 _
  have b8 : Below w.heap.size w W8 := ((Fr.of_below [g + 1] bV).then fr8).below (Nat.le_refl _) fun x hx => by rw [List.mem_singleton.1 hx]; omega
  have y0 := bf8.cell 0
  have y1 := bf8.cell 1
  simp only [List.getElem?_toArray, List.getElem?_cons_zero, List.getElem?_cons_succ] at y0 y1
  have HB := Lib.hid b8
  clear b8 fr8 bf8 bf1 bV
  go_wp2
  (try rw [hW8])
  refine bodyPost_ret (by simp [results, Tryz.results10, go_sem, y0, y1]; try rfl) rfl ?_
  exact ⟨rfl, HB.out⟩
end
end Go.Proofs.YtdmibolbpgondaaGreat.X15
