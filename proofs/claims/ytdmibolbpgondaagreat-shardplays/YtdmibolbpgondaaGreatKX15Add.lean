/-
  Shard.Add. (Written by gen15/add.py.)
  New of what may not be; Held, Deadline, Due.
  Shard.Take; Traces of an empty one.
  tallyroomlaw15.alive.
  slices.Sorted(maps.Keys(m)) of an empty map; Traces of no shard.
  A row of numbers that is sorted in its place: the world behind draws, exchanges and new blocks; cmp.Less.
-/
import Derived.Test.YtdmibolbpgondaaGreatKX15Put
import Derived.Test.YtdmibolbpgondaaGreatKX15Over
import Derived.Test.YtdmibolbpgondaaGreatKX15Shrink
import Derived.Test.YtdmibolbpgondaaGreatKP06Place
import Derived.Test.YtdmibolbpgondaaGreatKP06Ord
import Derived.Test.YtdmibolbpgondaaGreatKX15New
import Derived.Handy
import Derived.Test.YtdmibolbpgondaaGreatKX15Map
import Derived.Test.YtdmibolbpgondaaGreatKX15SortS
import Derived.Test.YtdmibolbpgondaaGreatKFrs
import Derived.WalkKit
import Derived.BigQuiet
import Derived.BigGuard
import Derived.BigCall
import Derived.Deep.QuietTactic
import Derived.Sort.Walk13a
import Derived.Sort.AssemblyPlain
import Derived.CellFam
section
set_option linter.unusedSimpArgs false
set_option linter.unusedVariables false
namespace Go.Proofs.YtdmibolbpgondaaGreat.X15
open Go.RowKit Go.Lib Go.Maps Go.Proofs.YtdmibolbpgondaaGreat.Wd Go.Proofs.YtdmibolbpgondaaGreat.P06
open Go.Proofs.YtdmibolbpgondaaGreat.B07 (Pn OkN OkA OkP Spn Sps pns tenA ten Ten ten_len)
open Go.Proofs.YtdmibolbpgondaaGreat.D09 (cp)
open Go.Proofs.YtdmibolbpgondaaGreat.U12 (drew_below)
section
variable {w w' : World} {col col' : Nat → Nat} {p : Pr} {L : List Pn} {sp : Nat}
/-- what put does: which stay, which one is twice -/
def puts (L : List Pn) (s : Pn) : List Pn × List Pn :=
  match fnd L s with
  | some y => if cp y s ≤ 0 then (L, [s]) else (put L s, [y])
  | none => (put L s, [])
theorem add_puts {G S B : Nat} {L : List Pn} {s : Pn} (h : big S B L = false) : add G S B L s = ((shrink G S B (puts L s).1).1, (puts L s).2, (shrink G S B (puts L s).1).2) := by
  unfold add puts
  cases fnd L s with
  | none => rfl
  | some y =>
    dsimp only
    by_cases hc : cp y s ≤ 0
    · rw [if_pos hc, if_pos hc, shrink_no h]
    · rw [if_neg hc, if_neg hc]
theorem puts_len (L : List Pn) (s : Pn) (hs : So L) : (puts L s).1.length ≤ L.length + 1 := by
  unfold puts
  cases e : fnd L s with
  | none => exact Nat.le_of_eq (put_new (fnd_none e)).1
  | some y =>
    dsimp only
    split
    · exact Nat.le_succ _
    · have := (put_old hs (fnd_some e).1 (fnd_some e).2).1
      show (put L s).length ≤ _
      omega
theorem put_any (h : Rm w col p L) (s : Sp) (A : Option Addr) (c n : Nat) (l : List At) (hn : l.length = n) (hok : Okx (s, l)) (hd : Hd 0 w A c l) (hc : ∀ a, A = some a → col a.block = 0) (hfew : L.length ≤ 400) (hG : p.G ≤ MT) :
    Calls Tryz.prog 32 #[.pointer (some ⟨p.r, 0, none⟩), .agg #[.int .u64 s.T, .int .u64 s.I, .int .u64 s.P, .string s.sv, .string s.nm, .int .i64 s.kd, .int .i64 s.st, .int .u64 s.t0, .int .u64 s.t1, .slice A n c]] w (PtOut w col p (puts L (s, l)).1 (puts L (s, l)).2) := by
  unfold puts
  cases e : fnd L (s, l) with
  | none => exact put_fresh h s A c n l hn hok hd hc hfew hG e
  | some y =>
    dsimp only
    by_cases hcp : cp y (s, l) ≤ 0
    · rw [if_pos hcp]; exact put_kept h s A c n l hn hok hd hc hfew hG y e hcp
    · rw [if_neg hcp]; exact put_over h s A c n l hn hok hd hc hfew hG y e hcp
/-- a block of two cells holds no attributes and no spans -/
theorem hd_two {f : Nat} {t : TypeId} {u v : Value} {A : Option Addr} {c : Nat} {l : List At} (h : Hd 0 w A c l) (bf : Bk w f t #[u, v]) (F : Wd.Fr [f] w w') : Hd 0 w' A c l := by
  rcases h with h | ⟨g, rfl, hB, hg, hH, r⟩
  · exact .inl h
  · by_cases e : g = f
    · subst e
      cases l with
      | nil => exact .inr ⟨g, rfl, hB, Nat.lt_of_lt_of_le hg F.size, fun j hj => absurd hj (by simp), r⟩
      | cons x l =>
        have h4 := (Hd.four hH (k := 0) (by simp)).4
        rw [bf.cell] at h4
        simp at h4
    · exact hd_fr (.inr ⟨g, rfl, hB, hg, hH, r⟩) F fun a ha hm => by
        injection ha with ha
        subst ha
        exact e (List.mem_singleton.1 hm)
theorem Out.two {f : Nat} {t : TypeId} {u v : Value} {A : Option Addr} {c : Nat} {M : List Spn} (h : Out w col A c M) (bf : Bk w f t #[u, v]) (F : Wd.Fr [f] w w') : Out w' col A c M := by
  refine ⟨⟨h.rd.len, h.rd.none_, h.rd.cap, h.rd.max, fun ad ha i u' hu => ?_⟩, fun y hy => hd_two (h.hd y hy) bf F, fun a ha => ⟨(h.a0 a ha).1, Nat.lt_of_lt_of_le (h.a0 a ha).2 F.size⟩, h.c0⟩
  by_cases e : ad.block = f
  · exfalso
    have hl := h.rd.len
    have hi : i < (M.flatMap ten).length := (List.getElem?_eq_some_iff.1 hu).1
    have h2 : 2 < (M.flatMap ten).length := by omega
    have h3 := h.rd.at_ ad ha 2 _ (List.getElem?_eq_getElem h2)
    rw [B07.add_pos _ _ (by omega), e, bf.cell, Array.getElem?_eq_none (by simp)] at h3
    cases h3
  · have hk : w'.cell? (ad.add i) = w.cell? (ad.add i) := World.cell?_of_block (by rw [add_block]; exact F.block _ (h.a0 ad ha).2 fun hm => e (List.mem_singleton.1 hm))
    rw [hk]
    exact h.rd.at_ ad ha i u' hu
theorem Rm.two {f : Nat} {t : TypeId} {u v : Value} (h : Rm w col p L) (bf : Bk w f t #[u, v]) (hf : col f = 0) (F : Wd.Fr [f] w w') : Rm w' col p L :=
  ⟨h.rx.same F fun x hx => by rw [List.mem_singleton.1 hx]; exact hf, ⟨h.sm.so, h.sm.ok, h.sm.bi, h.sm.qi, h.sm.nt, h.sm.ne, fun t ht x hx => by
    obtain ⟨y, h1, h2, h3, h4⟩ := h.sm.fi t ht x hx
    exact ⟨y, h1, h2, hd_two h3 bf F, h4⟩, h.sm.fn, h.sm.ni, h.sm.mi, h.sm.dq⟩, h.n, h.h⟩
theorem Sd.fs {L' : List Pn} {p' : Pr} (h : Sd w col sp p L) (F : Fs w w' col col') (X : Fix p p') (R : Rm w' col' p' L') : Sd w' col' sp p' L' := by
  have hl := World.block_lt_of_cell? _ _ h.c
  have e : w'.cell? ⟨sp, 0, none⟩ = w.cell? ⟨sp, 0, none⟩ := World.cell?_of_block (F.fr.block sp hl fun hm => (mem_ow.1 hm).2.1 h.k)
  refine ⟨R, by rw [e, X.r]; exact h.c, ?_⟩
  by_cases e : col' sp = 0
  · exact e
  · exact absurd h.k ((F.old sp hl).1 e)
/-- what Add leaves -/
def AdOut (w : World) (col : Nat → Nat) (sp : Nat) (p : Pr) (L : List Pn) (s : Pn) (e : Ending) (w' : World) : Prop :=
  ∃ A1 c1 M1 A2 c2 M2 col' p', e = .returned (.tuple #[.agg #[.slice A1 (add p.G p.S p.B L s).2.1.length c1, .slice A2 (add p.G p.S p.B L s).2.2.length c2], .int .i64 0]) ∧ pns M1 = (add p.G p.S p.B L s).2.1 ∧ pns M2 = (add p.G p.S p.B L s).2.2 ∧
    Out w' col' A1 c1 M1 ∧ Out w' col' A2 c2 M2 ∧ Sd w' col' sp p' (add p.G p.S p.B L s).1 ∧ Fs w w' col col' ∧ Fix p p'
theorem spc_nine (s : Sp) (u v : Value) : (spc s u).setIfInBounds 9 v = spc s v := rfl
set_option maxRecDepth 20000 in
set_option maxHeartbeats 8000000 in
theorem add_right (h : Sd w col sp p L) (hbig : big p.S p.B L = false) (s : Sp) (A : Option Addr) (c n : Nat) (l : List At) (hn : l.length = n) (hok : Okx (s, l)) (hd : Hd 0 w A c l) (b : Bool) (hb : b = true ↔ Amb l) (hck : chk s b = 0) (hfew : L.length ≤ 400) (hG : p.G ≤ MT) :
    Calls Tryz.prog 10 #[.pointer (some ⟨sp, 0, none⟩), spv s (.slice A n c)] w (AdOut w col sp p L (s, l)) := by
  have hn40 : n ≤ 40 := by rw [← hn]; exact hok.r.few
  have bx : Bk (w.alloc (.cells (spc s (.slice A n c)) 45)) w.heap.size 45 (spc s (.slice A n c)) := Bk.new w _ _
  obtain ⟨g, hg⟩ : ∃ g, w.heap.size = g := ⟨_, rfl⟩
  obtain ⟨V, hV⟩ : ∃ V, (w.alloc (.cells (spc s (.slice A n c)) 45)).alloc (.cells #[.slice none 0 0, .slice none 0 0] 40) = V := ⟨_, rfl⟩
  have bf : Bk V (g + 1) 40 #[.slice none 0 0, .slice none 0 0] := by rw [← hV, ← hg]; have := Bk.new (w.alloc (.cells (spc s (.slice A n c)) 45)) 40 #[.slice none 0 0, .slice none 0 0]; rw [World.size_alloc] at this; exact this
  have bV : Below w.heap.size w V := by rw [← hV]; exact ((Below.refl _ _).alloc (Nat.le_refl _) _).alloc (by simp) _
  have bk : Bk V g 45 (spc s (.slice A n c)) := by rw [← hV]; rw [hg] at bx; exact bx.below ((Below.refl _ _).alloc (Nat.le_refl _) _)
  have HN := Lib.hid hn
  clear bx hn
  go_enter Tryz.func10, Tryz.ntmps10
  obtain ⟨x0, x1, x2, x3, x4, x5, x6, x7, x8, x9⟩ := ten_cells bk
  go_wp2_with fail
  have hcg : col g = 0 := by rw [← hg]; exact h.rm.rx.new0
  have hcf : col (g + 1) = 0 := by
    by_cases e : col (g + 1) = 0
    · exact e
    · have := h.rm.rx.lt _ e; omega
  have hchk := check_any s A c n l V (hd.below bV) HN.out hn40 b hb
  rw [hck] at hchk
  refine hchk.mono ?_
  rintro e w1 ⟨rfl, b1⟩
  have bw1 := bV.trans (b1.mono bV.size)
  have bk1 := bk.below b1
  have bf1 := bf.below b1
  clear x0 x1 x2 x3 x4 x5 x6 x7 x8 x9 bk bf hchk hV b1 bV
  have x9 := bk1.cell 9
  simp only [List.getElem?_toArray, List.getElem?_cons_zero, List.getElem?_cons_succ] at x9
  go_wp2_with fail
  refine (clone_any A c n l w1 (hd.below bw1) HN.out hn40).mono ?_
  rintro e w2 ⟨A', c', rfl, hd2, b2⟩
  have bw2 := bw1.trans (b2.mono bw1.size)
  have bk2 := bk1.below b2
  have bf2 := bf1.below b2
  have fs2 : Wd.Fr [g] w2 (w2.setCell ⟨g, 9, none⟩ (.slice A' n c')) := Fr.setCell w2 ⟨g, 9, none⟩ _ (List.mem_singleton.2 rfl)
  have b5 : Below w.heap.size w (w2.setCell ⟨g, 9, none⟩ (.slice A' n c')) := ((Fr.of_below [g] bw2).then fs2).below (Nat.le_refl _) fun x hx => by
    rw [List.mem_singleton.1 hx, ← hg]; exact Nat.le_refl _
  have bk5 : Bk (w2.setCell ⟨g, 9, none⟩ (.slice A' n c')) g 45 (spc s (.slice A' n c')) := by have := bk2.set 9 (.slice A' n c'); rw [spc_nine] at this; exact this
  have bf5 : Bk (w2.setCell ⟨g, 9, none⟩ (.slice A' n c')) (g + 1) 40 #[.slice none 0 0, .slice none 0 0] := by
    unfold Bk
    rw [heap_setCell_other _ _ _ _ (by simp)]
    exact bf2
  have hA' : ∀ a, A' = some a → w1.heap.size ≤ a.block := fun a ha => (B07.Hd.lt hd2 a ha).1
  have hgw : g < w1.heap.size := World.block_lt_of_cell? _ _ x9
  have hd5 : Hd 0 (w2.setCell ⟨g, 9, none⟩ (.slice A' n c')) A' c' l := hd_fr (hd2.low (Nat.zero_le _)) fs2 fun a ha hm => by
    have := hA' a ha
    have := List.mem_singleton.1 hm
    omega
  have hc5 : ∀ a, A' = some a → col a.block = 0 := fun a ha => by
    by_cases e : col a.block = 0
    · exact e
    · have h1 := h.rm.rx.lt _ e
      have h2 := hA' a ha
      have := bw1.size
      omega
  have f9 : w2.frozen? ⟨g, 9, none⟩ = false := bk2.frozen 9
  have y9 := bk2.cell 9
  simp only [List.getElem?_toArray, List.getElem?_cons_zero, List.getElem?_cons_succ] at y9
  obtain ⟨W5, hW5⟩ : ∃ W5, w2.setCell ⟨g, 9, none⟩ (.slice A' n c') = W5 := ⟨_, rfl⟩
  rw [hW5] at b5 bk5 bf5 hd5
  have hall := sall_at (h.below b5).c
  have hput := put_any (h.rm.below b5) s A' c' n l HN.out hok hd5 hc5 hfew hG
  have hpl := puts_len L (s, l) h.rm.sm.so
  obtain ⟨K, hK⟩ : ∃ K, puts L (s, l) = K := ⟨_, rfl⟩
  obtain ⟨K1, K2⟩ := K
  rw [hK] at hput hpl
  dsimp only at hput hpl
  have ea := add_puts (G := p.G) (s := (s, l)) hbig
  rw [hK] at ea
  dsimp only at ea
  obtain ⟨k1, hk1⟩ : ∃ k1, K2.length = k1 := ⟨_, rfl⟩
  have HB5 := Lib.hid (And.intro b5 (And.intro bf5 (And.intro hcf ea)))
  clear b2 bw1 bw2 bk1 bf1 bk2 bf2 fs2 hd2 hA' hgw hd5 hc5 b5 bf5 hK ea x9 hcg
  obtain ⟨x0, x1, x2, x3, x4, x5, x6, x7, x8, x9⟩ := ten_cells bk5
  go_wp2_with fail
  refine hall.mono ?_
  rintro e w5 ⟨rfl, rfl⟩
  go_wp2_with fail
  refine hput.mono ?_
  rintro e w6 ⟨A1, c1, M1, col1, p1, rfl, hM1, hO1, hR1, hF1, hX1⟩
  rw [hk1]
  obtain ⟨b5, bf5, hcf, ea⟩ := HB5.out
  obtain ⟨bf6, hcf6⟩ := bk_fs bf5 hF1 hcf
  have hshr := shrink_at hR1 (by omega)
  unfold ShOut at hshr
  rw [hX1.G, hX1.S, hX1.B, hX1.r] at hshr
  obtain ⟨Q, hQ⟩ : ∃ Q, shrink p.G p.S p.B K1 = Q := ⟨_, rfl⟩
  obtain ⟨Q1, Q2⟩ := Q
  rw [hQ] at hshr ea
  dsimp only at hshr ea
  obtain ⟨k2, hk2⟩ : ∃ k2, Q2.length = k2 := ⟨_, rfl⟩
  rw [hk2] at hshr
  have HX := Lib.hid (And.intro hM1 (And.intro hO1 (And.intro hF1 (And.intro hX1 (And.intro bf6 (And.intro hcf6 ea))))))
  clear hput hall hM1 hO1 hR1 hF1 hX1 bf6 hcf6 bf5 hcf ea b5 x0 x1 x2 x3 x4 x5 x6 x7 x8 x9 bk5 hQ
  go_wp2_with fail
  refine hshr.mono ?_
  rintro e w7 ⟨A2, c2, M2, col2, p2, rfl, hM2, hO2, hR2, hF2, hX2⟩
  obtain ⟨hM1, hO1, hF1, hX1, bf6, hcf6, ea⟩ := HX.out
  obtain ⟨bf7, hcf7⟩ := bk_fs bf6 hF2 hcf6
  have z0 := bf7.cell 0
  have z1 := bf7.cell 1
  have g0 := bf7.frozen 0
  have g1 := bf7.frozen 1
  simp only [List.getElem?_toArray, List.getElem?_cons_zero, List.getElem?_cons_succ] at z0 z1
  clear hshr
  go_wp2_with fail
  obtain ⟨W8, hW8⟩ : ∃ W8, (w7.setCell ⟨g + 1, 0, none⟩ (.slice A1 k1 c1)).setCell ⟨g + 1, 1, none⟩ (.slice A2 k2 c2) = W8 := ⟨_, rfl⟩
  have fr8 : Wd.Fr [g + 1] w7 W8 := by rw [← hW8]; exact (Fr.setCell w7 ⟨g + 1, 0, none⟩ _ (List.mem_singleton.2 rfl)).then (Fr.setCell _ ⟨g + 1, 1, none⟩ _ (List.mem_singleton.2 rfl))
  have bf8 : Bk W8 (g + 1) 40 #[.slice A1 k1 c1, .slice A2 k2 c2] := by rw [← hW8]; exact (bf7.set 0 _).set 1 _
  have y0 := bf8.cell 0
  have y1 := bf8.cell 1
  simp only [List.getElem?_toArray, List.getElem?_cons_zero, List.getElem?_cons_succ] at y0 y1
  have O1 := (hO1.fs hF2).two bf7 fr8
  have O2 := hO2.two bf7 fr8
  have R8 := hR2.two bf7 hcf7 fr8
  have b5 := HB5.out.1
  have FA : Fs w W8 col col2 := ((Fs.below b5).trans (hF1.trans hF2)).fresh fr8 fun x hx => by rw [List.mem_singleton.1 hx]; omega
  have S8 := h.fs FA (hX1.trans hX2) R8
  have HFin := Lib.hid (show AdOut w col sp p L (s, l) (.returned (.tuple #[.agg #[.slice A1 k1 c1, .slice A2 k2 c2], .int .i64 0])) W8 from by
    unfold AdOut
    rw [ea]
    dsimp only
    rw [hk1, hk2]
    exact ⟨A1, c1, M1, A2, c2, M2, col2, p2, rfl, hM1, hM2, O1, O2, S8, FA, hX1.trans hX2⟩)
  (try rw [hW8])
  clear O1 O2 R8 b5 FA S8 hW8 fr8 bf8 z0 z1 g0 g1 bf7 bf6 hO1 hO2 hR2 hF1 hF2 hX1 hX2 HX
  refine bodyPost_ret (by simp [results, Tryz.results10, go_sem, y0, y1]; try rfl) rfl ?_
  exact HFin.out
set_option maxRecDepth 20000 in
set_option maxHeartbeats 4000000 in
theorem add_wrong (s : Sp) (A : Option Addr) (c n : Nat) (l : List At) (w : World) (hn : l.length = n) (hn40 : n ≤ 40) (hd : Hd 0 w A c l) (b : Bool) (hb : b = true ↔ Amb l) (hck : ¬ chk s b = 0) :
    Calls Tryz.prog 10 #[.pointer (some ⟨sp, 0, none⟩), spv s (.slice A n c)] w fun e w' => e = .returned (.tuple #[.agg #[.slice none 0 0, .slice none 0 0], .int .i64 1]) ∧ Below w.heap.size w w' := by
  have bx : Bk (w.alloc (.cells (spc s (.slice A n c)) 45)) w.heap.size 45 (spc s (.slice A n c)) := Bk.new w _ _
  obtain ⟨g, hg⟩ : ∃ g, w.heap.size = g := ⟨_, rfl⟩
  obtain ⟨V, hV⟩ : ∃ V, (w.alloc (.cells (spc s (.slice A n c)) 45)).alloc (.cells #[.slice none 0 0, .slice none 0 0] 40) = V := ⟨_, rfl⟩
  have bf : Bk V (g + 1) 40 #[.slice none 0 0, .slice none 0 0] := by rw [← hV, ← hg]; have := Bk.new (w.alloc (.cells (spc s (.slice A n c)) 45)) 40 #[.slice none 0 0, .slice none 0 0]; rw [World.size_alloc] at this; exact this
  have bV : Below w.heap.size w V := by rw [← hV]; exact ((Below.refl _ _).alloc (Nat.le_refl _) _).alloc (by simp) _
  have bk : Bk V g 45 (spc s (.slice A n c)) := by rw [← hV]; rw [hg] at bx; exact bx.below ((Below.refl _ _).alloc (Nat.le_refl _) _)
  obtain ⟨k, hk⟩ : ∃ k, chk s b = k := ⟨_, rfl⟩
  have hchk := check_any s A c n l V (hd.below bV) hn hn40 b hb
  rw [hk] at hchk hck
  have hkb : (k == 0) = false := by simpa using hck
  clear bx hn hk
  go_enter Tryz.func10, Tryz.ntmps10
  obtain ⟨x0, x1, x2, x3, x4, x5, x6, x7, x8, x9⟩ := ten_cells bk
  go_wp2_with fail
  refine hchk.mono ?_
  rintro e w1 ⟨rfl, b1⟩
  have bf1 := bf.below b1
  have bw1 := bV.trans (b1.mono bV.size)
  have z0 := bf1.cell 0
  have z1 := bf1.cell 1
  have g0 := bf1.frozen 0
  have g1 := bf1.frozen 1
  simp only [List.getElem?_toArray, List.getElem?_cons_zero, List.getElem?_cons_succ] at z0 z1
  obtain ⟨W8, hW8⟩ : ∃ W8, (w1.setCell ⟨g + 1, 0, none⟩ (.slice none 0 0)).setCell ⟨g + 1, 1, none⟩ (.slice none 0 0) = W8 := ⟨_, rfl⟩
  have fr8 : Wd.Fr [g + 1] w1 W8 := by rw [← hW8]; exact (Fr.setCell w1 ⟨g + 1, 0, none⟩ _ (List.mem_singleton.2 rfl)).then (Fr.setCell _ ⟨g + 1, 1, none⟩ _ (List.mem_singleton.2 rfl))
  have bf8 : Bk W8 (g + 1) 40 #[.slice none 0 0, .slice none 0 0] := by rw [← hW8]; exact (bf1.set 0 _).set 1 _
  have b8 : Below w.heap.size w W8 := ((Fr.of_below [g + 1] bw1).then fr8).below (Nat.le_refl _) fun x hx => by rw [List.mem_singleton.1 hx]; omega
  have y0 := bf8.cell 0
  have y1 := bf8.cell 1
  simp only [List.getElem?_toArray, List.getElem?_cons_zero, List.getElem?_cons_succ] at y0 y1
  have HB := Lib.hid b8
  clear b8 fr8 bf8 bf bf1 bV bw1 b1 hchk hV hd bk
  go_wp2
  (try rw [hW8])
  refine bodyPost_ret (by simp [results, Tryz.results10, go_sem, y0, y1]; try rfl) rfl ?_
  exact ⟨rfl, HB.out⟩
set_option maxRecDepth 20000 in
set_option maxHeartbeats 4000000 in
theorem add_nil (s : Sp) (v : Value) (w : World) :
    Calls Tryz.prog 10 #[.pointer none, spv s v] w fun e w' => e = .returned (.tuple #[.agg #[.slice none 0 0, .slice none 0 0], .int .i64 3]) ∧ Below w.heap.size w w' := by
  obtain ⟨g, hg⟩ : ∃ g, w.heap.size = g := ⟨_, rfl⟩
  obtain ⟨V, hV⟩ : ∃ V, (w.alloc (.cells (spc s v) 45)).alloc (.cells #[.slice none 0 0, .slice none 0 0] 40) = V := ⟨_, rfl⟩
  have bf1 : Bk V (g + 1) 40 #[.slice none 0 0, .slice none 0 0] := by rw [← hV, ← hg]; have := Bk.new (w.alloc (.cells (spc s v) 45)) 40 #[.slice none 0 0, .slice none 0 0]; rw [World.size_alloc] at this; exact this
  have bV : Below w.heap.size w V := by rw [← hV]; exact ((Below.refl _ _).alloc (Nat.le_refl _) _).alloc (by simp) _
  have HV := Lib.hid hV
  go_enter Tryz.func10, Tryz.ntmps10
  have z0 := bf1.cell 0
  have z1 := bf1.cell 1
  have g0 := bf1.frozen 0
  have g1 := bf1.frozen 1
  simp only [List.getElem?_toArray, List.getElem?_cons_zero, List.getElem?_cons_succ] at z0 z1
  obtain ⟨W8, hW8⟩ : ∃ W8, (V.setCell ⟨g + 1, 0, none⟩ (.slice none 0 0)).setCell ⟨g + 1, 1, none⟩ (.slice none 0 0) = W8 := ⟨_, rfl⟩
  have fr8 : Wd.Fr [g + 1] V W8 := by rw [← hW8]; exact (Fr.setCell V ⟨g + 1, 0, none⟩ _ (List.mem_singleton.2 rfl)).then (Fr.setCell _ ⟨g + 1, 1, none⟩ _ (List.mem_singleton.2 rfl))
  have bf8 : Bk W8 (g + 1) 40 #[.slice none 0 0, .slice none 0 0] := by rw [← hW8]; exact (bf1.set 0 _).set 1 _
  have b8 : Below w.heap.size w W8 := ((Fr.of_below [g + 1] bV).then fr8).below (Nat.le_refl _) fun x hx => by rw [List.mem_singleton.1 hx]; omega
  have y0 := bf8.cell 0
  have y1 := bf8.cell 1
  simp only [List.getElem?_toArray, List.getElem?_cons_zero, List.getElem?_cons_succ] at y0 y1
  have HB := Lib.hid b8
  clear b8 fr8 bf8 bf1 bV
  go_wp2
  (try rw [hW8])
  refine bodyPost_ret (by simp [results, Tryz.results10, go_sem, y0, y1]; try rfl) rfl ?_
  exact ⟨rfl, HB.out⟩
end
end Go.Proofs.YtdmibolbpgondaaGreat.X15
end

section
set_option linter.unusedSimpArgs false
set_option linter.unusedVariables false
namespace Go.Proofs.YtdmibolbpgondaaGreat.X15
open Go.RowKit Go.Lib Go.Maps Go.Proofs.YtdmibolbpgondaaGreat.Wd Go.Proofs.YtdmibolbpgondaaGreat.P06
open Go.Proofs.YtdmibolbpgondaaGreat.B07 (Pn OkN OkA OkP Spn)
open Go.Proofs.YtdmibolbpgondaaGreat.U12 (It Lt Qu at_in at_out isin_false isin_true isin qunt_at UtOut)
section
variable {w w' : World} {col col' : Nat → Nat} {p : Pr} {L : List Pn} {sp : Nat}
set_option maxRecDepth 20000 in
set_option maxHeartbeats 2000000 in
theorem snew_wrong (G : Nat) (S B : Int) (w : World) (hw : MT < G ∨ S < 1 ∨ 65536 < S ∨ B < 1 ∨ 4611686018427387904 < B) : Calls Tryz.prog 8 #[.int .u64 (G : Int), .int .i64 S, .int .i64 B] w fun e w' => e = .returned (.tuple #[.pointer none, .int .i64 1]) ∧ Below w.heap.size w w' := by
  unfold MT at hw
  go_enter Tryz.func8, Tryz.ntmps8
  by_cases k1 : (4611686018427387904 : Int) < (G : Int)
  · go_wp2
    all_goals first | (exfalso; omega) | skip
    all_goals go_ret2
    all_goals exact ⟨rfl, by go_grown⟩
  · by_cases k2 : S < 1
    · go_wp2
      all_goals first | (exfalso; omega) | skip
      all_goals go_ret2
      all_goals exact ⟨rfl, by go_grown⟩
    · by_cases k3 : (65536 : Int) < S
      · go_wp2
        all_goals first | (exfalso; omega) | skip
        all_goals go_ret2
        all_goals exact ⟨rfl, by go_grown⟩
      · by_cases k4 : B < 1
        · go_wp2
          all_goals first | (exfalso; omega) | skip
          all_goals go_ret2
          all_goals exact ⟨rfl, by go_grown⟩
        · have k5 : (4611686018427387904 : Int) < B := by omega
          go_wp2
          all_goals first | (exfalso; omega) | skip
          all_goals go_ret2
          all_goals exact ⟨rfl, by go_grown⟩
set_option maxRecDepth 20000 in
set_option maxHeartbeats 2000000 in
theorem held_core {sv : Value} {pr : Pr → Prop} {n h : Nat} (ha : Calls Tryz.prog 31 #[sv] w (Alp w pr)) (hp : ∀ p, pr p → p.n = n ∧ p.h = h) :
    Calls Tryz.prog 22 #[sv] w fun e w' => e = .returned (.tuple #[.int .i64 (n : Int), .int .i64 (h : Int)]) ∧ Below w.heap.size w w' := by
  go_enter Tryz.func22, Tryz.ntmps22
  go_wp2_with fail
  refine ha.mono ?_
  rintro e w1 ⟨col, p, rfl, hR, hpr, hb⟩
  obtain ⟨e1, e2⟩ := hp p hpr
  have c3 := hR.cl.c3
  have c4 := hR.cl.c4
  rw [e1] at c3
  rw [e2] at c4
  clear ha hp hR hpr e1 e2
  go_wp2_with fail
  obtain ⟨V, hV⟩ : ∃ V, w1.alloc (.cells #[.int .i64 (n : Int), .int .i64 (h : Int)] 75) = V := ⟨_, rfl⟩
  have x0 : V.cell? ⟨w1.heap.size, 0, none⟩ = some (.int .i64 (n : Int)) := by subst hV; simp
  have x1 : V.cell? ⟨w1.heap.size, 1, none⟩ = some (.int .i64 (h : Int)) := by subst hV; simp
  have b2 : Below w.heap.size w V := by subst hV; exact hb.alloc hb.size _
  rw [hV]
  clear hV hb c3 c4
  have HB := Lib.hid (b2.drew)
  clear b2
  go_region
  go_wp2
  go_ret2
  exact ⟨rfl, HB.out⟩
set_option maxRecDepth 20000 in
set_option maxHeartbeats 2000000 in
theorem dead_core {sv : Value} {pr : Pr → Prop} {t d : Nat} {r : Bool} (ha : Calls Tryz.prog 31 #[sv] w (Alp w pr)) (ht : (t : Int) ≤ 18446744073709551615)
    (hp : ∀ p, pr p → (r = true ∧ (t, d) ∈ p.dq) ∨ (r = false ∧ d = 0 ∧ isin p.dq t = false)) :
    Calls Tryz.prog 24 #[sv, .int .u64 (t : Int)] w fun e w' => e = .returned (.tuple #[.int .u64 (d : Int), .bool r]) ∧ Below w.heap.size w w' := by
  go_enter Tryz.func24, Tryz.ntmps24
  go_wp2_with fail
  refine ha.mono ?_
  rintro e w1 ⟨col, p, rfl, hR, hpr, hb⟩
  have c6 := hR.cl.c6
  obtain ⟨o, hq, _⟩ := hR.dl
  have hat : Calls Tryz.prog 48 #[.pointer (some ⟨p.q, 0, none⟩), .int .u64 (t : Int)] w1 fun e w' => e = .returned (.tuple #[.int .u64 (d : Int), .bool r]) ∧ w1 = w' := by
    rcases hp p hpr with ⟨rfl, h1⟩ | ⟨rfl, rfl, h1⟩
    · exact at_in (t, d) hq h1
    · exact at_out t hq ht h1
  clear ha hp hR hpr hq
  go_wp2_with fail
  refine hat.mono ?_
  rintro e w2 ⟨rfl, rfl⟩
  clear hat
  go_wp2
  go_ret2
  exact ⟨rfl, hb⟩
/-- what Due tells -/
def DuOut (w : World) (ids : List Nat) (e : Ending) (w' : World) : Prop := ∃ U d, e = .returned (.slice U ids.length d) ∧ Us w' U d ids ∧ Below w.heap.size w w' ∧ ∀ a, U = some a → w.heap.size ≤ a.block ∧ a.block < w'.heap.size
set_option maxRecDepth 20000 in
set_option maxHeartbeats 2000000 in
theorem due_core {sv : Value} {pr : Pr → Prop} {m : Nat} {ids : List Nat} (ha : Calls Tryz.prog 31 #[sv] w (Alp w pr)) (hm : (m : Int) ≤ 18446744073709551615)
    (hp : ∀ p, pr p → (U12.due p.dq m).map (·.1) = ids) :
    Calls Tryz.prog 19 #[sv, .int .u64 (m : Int)] w (DuOut w ids) := by
  go_enter Tryz.func19, Tryz.ntmps19
  go_wp2_with fail
  refine ha.mono ?_
  rintro e w1 ⟨col, p, rfl, hR, hpr, hb⟩
  have c6 := hR.cl.c6
  obtain ⟨o, hq, _⟩ := hR.dl
  have hun := qunt_at m ids.length hq hm (by rw [hp p hpr])
  rw [hp p hpr] at hun
  clear ha hp hR hpr hq
  go_wp2_with fail
  refine hun.mono ?_
  rintro e w2 ⟨U, d, rfl, hu, hb2, hnew⟩
  have H := Lib.hid (show DuOut w ids (.returned (.slice U ids.length d)) w2 from ⟨U, d, rfl, hu, hb.trans (hb2.mono hb.size), fun a ha => ⟨Nat.le_trans hb.size (hnew a ha).1, (hnew a ha).2⟩⟩)
  clear hun hu hb2 hnew
  go_wp2
  go_returns
  exact H.out
theorem Sd.held (h : Sd w col sp p L) : Calls Tryz.prog 22 #[.pointer (some ⟨sp, 0, none⟩)] w fun e w' => e = .returned (.tuple #[.int .i64 (L.length : Int), .int .i64 (X15.held L : Int)]) ∧ Below w.heap.size w w' :=
  held_core h.all fun p' e => by subst e; exact ⟨h.rm.n, h.rm.h⟩
theorem held_nil (w : World) : Calls Tryz.prog 22 #[.pointer none] w fun e w' => e = .returned (.tuple #[.int .i64 0, .int .i64 0]) ∧ Below w.heap.size w w' :=
  held_core (n := 0) (h := 0) (sall_nil w) fun p' e => ⟨e.n, e.h⟩
theorem Sd.dead (h : Sd w col sp p L) {t : Nat} (ht : t ∈ trs L) : Calls Tryz.prog 24 #[.pointer (some ⟨sp, 0, none⟩), .int .u64 (t : Int)] w fun e w' => e = .returned (.tuple #[.int .u64 (dl p.G L t : Int), .bool true]) ∧ Below w.heap.size w w' := by
  obtain ⟨x, hx, rfl⟩ := mem_trs.1 ht
  exact dead_core h.all (h.rm.sm.ok x hx).tn.2 fun p' e => by subst e; exact .inl ⟨rfl, by rw [h.rm.sm.dq]; exact mem_dqs.2 ⟨_, ht, rfl⟩⟩
theorem dead_nil (t : Nat) (ht : (t : Int) ≤ 18446744073709551615) (w : World) : Calls Tryz.prog 24 #[.pointer none, .int .u64 (t : Int)] w fun e w' => e = .returned (.tuple #[.int .u64 0, .bool false]) ∧ Below w.heap.size w w' :=
  dead_core (d := 0) (sall_nil w) ht fun p' e => .inr ⟨rfl, rfl, by rw [e.dq]; rfl⟩
theorem Sd.due (h : Sd w col sp p L) (m : Nat) (hm : (m : Int) ≤ 18446744073709551615) : Calls Tryz.prog 19 #[.pointer (some ⟨sp, 0, none⟩), .int .u64 (m : Int)] w (DuOut w (X15.due p.G L m)) :=
  due_core h.all hm fun p' e => by subst e; rw [h.rm.sm.dq]; rfl
theorem due_nil (m : Nat) (hm : (m : Int) ≤ 18446744073709551615) (w : World) : Calls Tryz.prog 19 #[.pointer none, .int .u64 (m : Int)] w (DuOut w []) :=
  due_core (sall_nil w) hm fun p' e => by rw [e.dq]; rfl
end
end Go.Proofs.YtdmibolbpgondaaGreat.X15
end

section
set_option linter.unusedSimpArgs false
set_option linter.unusedVariables false
namespace Go.Proofs.YtdmibolbpgondaaGreat.X15
open Go.RowKit Go.Lib Go.Maps Go.Proofs.YtdmibolbpgondaaGreat.Wd Go.Proofs.YtdmibolbpgondaaGreat.P06
open Go.Proofs.YtdmibolbpgondaaGreat.B07 (Pn OkN OkA OkP Spn Sps pns tenA ten)
section
variable {w w' : World} {col col' : Nat → Nat} {p : Pr} {L : List Pn} {sp : Nat}
/-- what Take leaves -/
def TsOut (w : World) (col : Nat → Nat) (sp : Nat) (p : Pr) (L : List Pn) (t : Nat) (e : Ending) (w' : World) : Prop :=
  ∃ A c M col' p', e = .returned (.tuple #[.slice A (trace L t).length c, .bool true]) ∧ pns M = trace L t ∧ Out w' col' A c M ∧ Sd w' col' sp p' (rest L t) ∧ Fs w w' col col' ∧ Fix p p'
set_option maxRecDepth 20000 in
set_option maxHeartbeats 4000000 in
theorem stake_in (h : Sd w col sp p L) (t : Nat) (ht : t ∈ trs L) (hfew : L.length ≤ 500) :
    Calls Tryz.prog 16 #[.pointer (some ⟨sp, 0, none⟩), .int .u64 (t : Int)] w (TsOut w col sp p L t) := by
  obtain ⟨x, hx1, hx2⟩ := mem_trs.1 ht
  have hT : (t : Int) ≤ 18446744073709551615 := by rw [← hx2]; exact (h.rm.sm.ok x hx1).tn.2
  obtain ⟨b, hb⟩ := Option.isSome_iff_exists.1 ((h.rm.sm.bi t).2 ht)
  have hlk : (Instr.lookup 99 (.map (some p.bt)) (.int .u64 (t : Int)) false).run Tryz.prog w = .ok (.map (some b)) w := h.rm.rx.look99 hT (by rw [hb]; rfl)
  have hq := isnil_map
  have hall := sall_at h.c
  have c5 := h.rm.rx.cl.c5
  have htk := take_at h.rm t ht hfew
  clear hx1 hx2 x hb hT
  go_enter Tryz.func16, Tryz.ntmps16
  go_wp2_with fail
  refine hall.mono ?_
  rintro e w1 ⟨rfl, rfl⟩
  go_wp2_with fail
  refine htk.mono ?_
  rintro e w2 ⟨A, c, M, col', p', rfl, hM, hO, hR, hF, hX, _, _⟩
  have HFin := Lib.hid (show TsOut w col sp p L t (.returned (.tuple #[.slice A (trace L t).length c, .bool true])) w2 from ⟨A, c, M, col', p', rfl, hM, hO, h.fs hF hX hR, hF, hX⟩)
  clear hall htk hlk c5 hM hO hR hF hX
  go_wp2
  go_returns
  exact HFin.out
set_option maxRecDepth 20000 in
set_option maxHeartbeats 4000000 in
theorem stake_core {sv : Value} {pr : Pr → Prop} {t : Nat} (ht : (t : Int) ≤ 18446744073709551615) (ha : Calls Tryz.prog 31 #[sv] w (Alp w pr)) (hp : ∀ p, pr p → p.bi t = none) :
    Calls Tryz.prog 16 #[sv, .int .u64 (t : Int)] w fun e w' => e = .returned (.tuple #[.slice none 0 0, .bool false]) ∧ Below w.heap.size w w' := by
  go_enter Tryz.func16, Tryz.ntmps16
  go_wp2_with fail
  refine ha.mono ?_
  rintro e w1 ⟨col, p, rfl, hR, hpr, hb⟩
  have hlk : (Instr.lookup 99 (.map (some p.bt)) (.int .u64 (t : Int)) false).run Tryz.prog w1 = .ok (.map none) w1 := hR.look99 ht (by rw [hp p hpr]; rfl)
  have c5 := hR.cl.c5
  have hq := isnil_map
  have HB := Lib.hid hb
  clear hR hpr hb ha
  go_wp2
  go_ret2
  exact ⟨rfl, HB.out⟩
end
end Go.Proofs.YtdmibolbpgondaaGreat.X15
end

section
set_option linter.unusedSimpArgs false
set_option linter.unusedVariables false
namespace Go.Proofs.YtdmibolbpgondaaGreat.X15
open Go.RowKit Go.Lib Go.Maps Go.Proofs.YtdmibolbpgondaaGreat.Wd Go.Proofs.YtdmibolbpgondaaGreat.P06
open Go.Proofs.YtdmibolbpgondaaGreat.B07 (Pn OkN OkA OkP Spn Sps pns tenA ten)
def oneS : Sp := ⟨7, 1, 0, ⟨#[119, 101, 98]⟩, ⟨#[103, 101, 116]⟩, 1, 0, 5, 9⟩
theorem one_any (w : World) : Calls Tryz.prog 27 #[] w fun e w' => e = .returned (spv oneS (.slice none 0 0)) ∧ Below w.heap.size w w' := by
  go_enter Tryz.func27, Tryz.ntmps27
  go_wp2
  go_returns
  exact ⟨rfl, by go_grown⟩
theorem amb_nil : Amb [] := ⟨by simp, fun i h => by simp at h⟩
theorem of_nil (s : Sp) (w : World) : Calls Tryz.prog 11 #[spv s (.slice none 0 0)] w (OfOut w s 0 []) := of_at s none 0 0 [] w (Ats.nil w) rfl (by omega)
theorem chk_one : chk oneS true = 0 := by
  unfold chk
  decide
theorem okx_one : Okx (oneS, []) := by
  refine ⟨?_, by decide, ?_⟩
  · constructor <;> decide
  · constructor
    · decide
    · decide
    · decide
    · intro a ha; cases ha
theorem add_one1 : add 5 10 10000 [] (oneS, []) = ([(oneS, [])], [], []) := rfl
theorem add_one2 : add 5 10 10000 [(oneS, [])] (oneS, []) = ([(oneS, [])], [(oneS, [])], []) := rfl
set_option maxRecDepth 20000 in
set_option maxHeartbeats 4000000 in
theorem alive_any (w : World) : Calls Tryz.prog 7 #[] w fun e w' => e = .returned (.bool true) ∧ Below w.heap.size w w' := by
  have hn := snew_right 5 10 10000 w (by unfold MT; omega) (by omega) (by unfold MT; omega)
  go_enter Tryz.func7, Tryz.ntmps7
  go_wp2_with fail
  refine hn.mono ?_
  rintro e w1 ⟨sp, col, p, rfl, h1, hG, hS, hB, hcol, hsp, b1⟩
  go_wp2_with fail
  refine (one_any _).mono ?_
  rintro e w2 ⟨rfl, b2⟩
  have h2 := h1.below b2
  have hg := h2.rm.rx.new0
  have K : Bk (w2.alloc (.cells (spc oneS (.slice none 0 0)) 34)) w2.heap.size 34 (spc oneS (.slice none 0 0)) := Bk.new w2 _ _
  have b3 : Below w2.heap.size w2 (w2.alloc (.cells (spc oneS (.slice none 0 0)) 34)) := (Below.refl _ _).alloc (Nat.le_refl _) _
  have h3 := h2.below b3
  have B := (b1.trans (b2.mono b1.size)).trans (b3.mono (b1.trans (b2.mono b1.size)).size)
  go_wp2_with fail
  change Calls _ _ _ (w2.alloc (.cells (spc oneS (.slice none 0 0)) 34)) _
  generalize hX : w2.alloc (.cells (spc oneS (.slice none 0 0)) 34) = X at *
  generalize hY : w2.heap.size = g at *
  clear hX hY b3 b2 h2 h1 b1 hn
  refine (of_nil oneS _).mono ?_
  rintro e w4 ⟨A4, c4, rfl, hd4, b4⟩
  have h4 := h3.below b4
  have K4 := K.below b4
  have B4 := B.trans (b4.mono B.size)
  have ha := add_right h4 (by rw [hS, hB]; rfl) oneS A4 c4 0 [] rfl okx_one (hd4.low (Nat.zero_le _)) true (by simp [amb_nil]) chk_one (by simp) (by rw [hG]; unfold MT; omega)
  unfold AdOut at ha
  rw [hG, hS, hB, add_one1] at ha
  clear b4 hd4 h3 B K
  go_wp2_with fail
  refine ha.mono ?_
  rintro e w5 ⟨A1, c1, M1, A2, c2, M2, col5, p5, rfl, -, -, -, -, h5, F5, X5⟩
  obtain ⟨K5, hg5⟩ := bk_fs K4 F5 hg
  have hcb : ∀ {W W' : World} {col' : Nat → Nat}, Below w.heap.size w W → (∀ x, col' x ≠ 0 → w.heap.size ≤ x) → ∀ {col2 : Nat → Nat}, Fs W W' col' col2 → Below w.heap.size w W' := fun {W W' col'} hB hc {col2} F =>
    ((Fr.of_below _ hB).trans F.fr fun x hx => .inr (hc x (mem_ow.1 hx).2.1)).below (Nat.le_refl _) (o := []) fun x hx => by cases hx
  have B5 := hcb B4 hcol F5
  have hcol5 : ∀ x, col5 x ≠ 0 → w.heap.size ≤ x := fun x hx => by
    by_cases e : x < w4.heap.size
    · exact hcol x ((F5.old x e).1 hx)
    · have := B4.size; omega
  clear ha h4 K4 F5 B4 hg
  obtain ⟨x0, x1, x2, x3, x4, x5, x6, x7, x8, x9⟩ := ten_cells K5
  go_wp2_with fail
  change Calls _ _ #[spv oneS (.slice none 0 0)] _ _
  refine (of_nil oneS _).mono ?_
  rintro e w6 ⟨A6, c6, rfl, hd6, b6⟩
  have h6 := h5.below b6
  have B6 := B5.trans (b6.mono B5.size)
  have ha := add_right h6 (by rw [X5.S, X5.B, hS, hB]; rfl) oneS A6 c6 0 [] rfl okx_one (hd6.low (Nat.zero_le _)) true (by simp [amb_nil]) chk_one (by simp) (by rw [X5.G, hG]; unfold MT; omega)
  unfold AdOut at ha
  rw [X5.G, X5.S, X5.B, hG, hS, hB, add_one2] at ha
  clear b6 hd6 h5 x0 x1 x2 x3 x4 x5 x6 x7 x8 x9 K5
  go_wp2_with fail
  refine ha.mono ?_
  rintro e w7 ⟨A7, c7, M7, A8, c8, M8, col7, p7, rfl, -, -, -, -, h7, F7, X7⟩
  have B7 := hcb B6 hcol5 F7
  have b8 : Below w7.heap.size w7 (w7.alloc (.cells #[.slice A7 1 c7, .slice A8 0 c8] 40)) := (Below.refl _ _).alloc (Nat.le_refl _) _
  have K8 : Bk (w7.alloc (.cells #[.slice A7 1 c7, .slice A8 0 c8] 40)) w7.heap.size 40 #[.slice A7 1 c7, .slice A8 0 c8] := Bk.new w7 _ _
  have h8 := h7.below b8
  have hh := h8.held
  have B8 := B7.trans (b8.mono B7.size)
  have e1 : held [(oneS, [])] = 70 := rfl
  rw [e1] at hh
  clear ha h6 F7 B6 hcb hcol5 h7
  go_wp2_with fail
  refine hh.mono ?_
  rintro e w9 ⟨rfl, b9⟩
  have h9 := h8.below b9
  have K9 := K8.below b9
  have B9 := B8.trans (b9.mono B8.size)
  have hd := h9.dead (t := 7) (mem_trs.2 ⟨_, List.mem_singleton.2 rfl, rfl⟩)
  have e2 : dl p7.G [(oneS, [])] 7 = 14 := by rw [X7.G, X5.G, hG]; rfl
  rw [e2] at hd
  clear hh h8 K8 b8 b9 e1 e2
  go_wp2_with fail
  refine hd.mono ?_
  rintro e w10 ⟨rfl, b10⟩
  have K10 := K9.below b10
  have HB := Lib.hid (B9.trans (b10.mono B9.size))
  have y0 := K10.cell 0
  have y1 := K10.cell 1
  simp only [List.getElem?_toArray, List.getElem?_cons_zero, List.getElem?_cons_succ] at y0 y1
  clear hd h9 K9 B9 b10 K10
  go_wp2
  go_ret
  exact ⟨rfl, HB.out⟩
end Go.Proofs.YtdmibolbpgondaaGreat.X15
end

section
set_option linter.unusedSimpArgs false
set_option linter.unusedVariables false
namespace Go.Proofs.YtdmibolbpgondaaGreat.X15
open Go.RowKit Go.Lib Go.Maps Go.Proofs.YtdmibolbpgondaaGreat.Wd Go.Proofs.YtdmibolbpgondaaGreat.P06
attribute [local go_sem] Oper.semAt_some
theorem oins_nil (A : Option Addr) (c : Nat) (w : World) : Calls Tryz.prog 108 #[.slice A 0 c, .int .i64 0, .int .i64 0] w fun e w' => e = .returned (.tuple #[]) ∧ w' = w := by
  go_enter Tryz.func108, Tryz.ntmps108
  go_wp2
  refine wp_loop_rounds 1 ?_
  rw [rounds_succ]
  go_wp2
  go_end0
  exact ⟨rfl, rfl⟩
theorem opdq_nil (A : Option Addr) (c : Nat) (lim : Int) (w : World) : Calls Tryz.prog 85 #[.slice A 0 c, .int .i64 0, .int .i64 0, .int .i64 lim] w fun e w' => e = .returned (.tuple #[]) ∧ w' = w := by
  go_enter Tryz.func85, Tryz.ntmps85
  go_wp2
  refine wp_loop_rounds 1 ?_
  rw [rounds_succ]
  go_wp2_with (go_at_call 108; refine (oins_nil A c _).mono ?_; rintro e w1 ⟨rfl, rfl⟩)
  go_returns
  exact ⟨rfl, rfl⟩
theorem osort_nil (A : Option Addr) (c : Nat) (w : World) : Calls Tryz.prog 66 #[.slice A 0 c] w fun e w' => e = .returned (.tuple #[]) ∧ w' = w := by
  have hl : ∀ W, Calls Tryz.prog 81 #[.int .u64 0] W fun e w' => e = .returned (.int .i64 (Lib.bitLen 0 : Nat)) ∧ w' = W := fun W => bitlen_any 0 W (by omega)
  go_enter Tryz.func66, Tryz.ntmps66
  go_wp2_with (first | (go_at_call 81; refine (hl _).mono ?_; rintro e w' ⟨rfl, rfl⟩) | (go_at_call 85; refine (opdq_nil _ _ _ _).mono ?_; rintro e w' ⟨rfl, rfl⟩))
  go_returns
  exact ⟨rfl, rfl⟩
set_option maxRecDepth 100000 in
set_option maxHeartbeats 2000000 in
theorem sortedu_nil {w : World} {b N Bm : Nat} (hm : w.cell? ⟨Bm, 0, none⟩ = some (.map (some b))) (h : Mp w b (fun _ => none) N) (hN : N ≤ 10000) :
    Calls Tryz.prog 46 #[.func (.func 67) #[] #[.pointer (some ⟨Bm, 0, none⟩)]] w fun e w' => (∃ A c, e = .returned (.slice A 0 c)) ∧ Below w.heap.size w w' := by
  refine (callsIn_wide (n := 9)).1 ?_
  have hBm : Bm < w.heap.size := World.block_lt_of_cell? _ _ hm
  have hst := keys_stops Fence.wide 6 trivial rfl (by omega) Bm b N (fun _ => none) w hBm hm h
  have hcol := colu_in Fence.wide 8 trivial trivial rfl (by omega) _ _ trivial (enters_of Tryz.func67 (by kernel_rfl) rfl) (AllK fun _ => none) (fun _ => True) N (by omega) w hst
  refine callsIn_of_wp Tryz.func46 rfl trivial ?_ rfl
  simp only [Tryz.ntmps46, List.size_toArray, List.length_cons, List.length_nil, Nat.reduceAdd, Nat.reduceSub, Array.replicate_succ, Array.replicate_zero, List.push_toArray, List.append_toArray, List.nil_append, List.cons_append]
  gi_wp2_with (refine ⟨trivial, ?_⟩; gi_at_call 65; refine hcol.mono ?_; rintro e w1 ⟨v, ks, rfl, hall, hrow, hb⟩; obtain ⟨A, c, rfl⟩ := own_form hrow)
  have hk : ks = [] := List.eq_nil_iff_forall_not_mem.2 fun x hx => by
    have := (hall.2 x).1 hx
    cases this
  subst hk
  dsimp only [List.length_nil]
  gi_wp2_with (refine ⟨trivial, ?_⟩; gi_at_call 66; refine (callsIn_wide.2 (osort_nil A c w1)).mono ?_; rintro e w2 ⟨rfl, rfl⟩)
  go_ret
  exact ⟨⟨_, _, rfl⟩, hb⟩
set_option maxRecDepth 20000 in
set_option maxHeartbeats 2000000 in
theorem traces_nil (w : World) : Calls Tryz.prog 23 #[.pointer none] w fun e w' => (∃ A c, e = .returned (.slice A 0 c)) ∧ Below w.heap.size w w' := by
  have ha := sall_nil w
  go_enter Tryz.func23, Tryz.ntmps23
  go_wp2_with fail
  refine ha.mono ?_
  rintro e w1 ⟨col, p, rfl, hR, hE, hb⟩
  have c5 := hR.cl.c5
  have hmt := hR.mt
  rw [hE.bi, hE.nt] at hmt
  have bx : Below w1.heap.size w1 (w1.alloc (.cells #[.map (some p.bt)] 99)) := (Below.refl _ _).alloc (Nat.le_refl _) _
  have hs := sortedu_nil (w := w1.alloc (.cells #[.map (some p.bt)] 99)) (Bm := w1.heap.size) (b := p.bt) (N := 0) (by simp) (hmt.below bx) (by omega)
  have HB := Lib.hid (hb.trans (bx.mono hb.size))
  clear hR hE hmt ha hb bx
  go_wp2_with fail
  refine ((callsIn_wide (n := 8)).1 (keys_in Fence.wide 8 trivial rfl (some p.bt) w1)).mono ?_
  rintro e w2 ⟨rfl, rfl⟩
  go_wp2_with fail
  refine hs.mono ?_
  rintro e w3 ⟨⟨A, c, rfl⟩, hb⟩
  have HB2 := Lib.hid (HB.out.trans (hb.mono HB.out.size))
  clear hb HB hs
  go_wp2
  go_returns
  exact ⟨⟨A, c, rfl⟩, HB2.out⟩
end Go.Proofs.YtdmibolbpgondaaGreat.X15
end

section
set_option linter.unusedSimpArgs false
set_option linter.unusedVariables false
namespace Go.Proofs.YtdmibolbpgondaaGreat.Ou
open Go.Sort Go.RowKit Go.Lib
abbrev eU : Int → Value := Value.int .u64
/-- the world is w, but for the N numbers from blk, off on, which are d's; and new blocks -/
structure Rs (w : World) (blk off N : Nat) (d : Array Int) (W : World) : Prop where
  at_ : At eU w blk off d W
  sz : d.size = N
  lt : blk < w.heap.size
  h0 : ∃ d0, Holds eU w blk off d0 ∧ d0.size = N
section
variable {w W : World} {blk off N : Nat} {d : Array Int}
theorem Rs.of (h : Holds eU w blk off d) (hb : blk < w.heap.size) : Rs w blk off d.size d w := ⟨At.refl h, rfl, hb, d, h, rfl⟩
theorem Rs.holds (h : Rs w blk off N d W) : Holds eU W blk off d ∧ blk < W.heap.size := by
  obtain ⟨d0, h0, hs⟩ := h.h0
  exact h.at_.holds h0 (h.sz.trans hs.symm) h.lt
theorem Rs.cell (h : Rs w blk off N d W) {t : Nat} (ht : t < N) : W.cell? ⟨blk, off + t, none⟩ = some (.int .u64 d[t]!) := (h.holds.1 t (by rw [h.sz]; exact ht)).1
theorem Rs.frozen (h : Rs w blk off N d W) {t : Nat} (ht : t < N) : W.frozen? ⟨blk, off + t, none⟩ = false := (h.holds.1 t (by rw [h.sz]; exact ht)).2
theorem Rs.base (h : Rs w blk off N d W) : w.heap.size ≤ W.heap.size := by
  obtain ⟨n, os, rfl⟩ := h.at_
  simp [grow]
theorem Rs.dn (h : Rs w blk off N d W) (q : Nat) : Rs w blk off N d (W.drewN q) := ⟨h.at_.ahead q, h.sz, h.lt, h.h0⟩
theorem Rs.drew (h : Rs w blk off N d W) : Rs w blk off N d W.drew := ⟨h.at_.ahead 1, h.sz, h.lt, h.h0⟩
theorem Rs.swp (h : Rs w blk off N d W) {i j : Nat} (hi : i < N) (hj : j < N) {u v : Int} (hu : u = d[i]!) (hv : v = d[j]!) : Rs w blk off N (swp d i j) ((W.setCell ⟨blk, off + i, none⟩ (.int .u64 v)).setCell ⟨blk, off + j, none⟩ (.int .u64 u)) := by
  subst hu hv
  have e := putRow_swp eU W blk off d i j (by rw [h.sz]; exact hi) (by rw [h.sz]; exact hj)
  rw [putRow_self eU W blk off d h.holds.1] at e
  exact ⟨h.at_.step h.lt (size_swp _ _ _) ⟨0, e⟩, by rw [size_swp]; exact h.sz, h.lt, h.h0⟩
theorem Rs.alloc (h : Rs w blk off N d W) (o : Obj) : Rs w blk off N d (W.alloc o) :=
  ⟨h.at_.stepG h.lt rfl ⟨0, #[o], by rw [alloc_eq_grow]; congr 1; exact (putRow_self eU W blk off d h.holds.1).symm⟩, h.sz, h.lt, h.h0⟩
theorem Rs.other (h : Rs w blk off N d W) {b : Nat} (hb : w.heap.size ≤ b) (o : Nat) (v : Value) : Rs w blk off N d (W.setCell ⟨b, o, none⟩ v) := by
  obtain ⟨n, os, e⟩ := h.at_
  refine ⟨⟨n, os.modify (b - w.heap.size) (onCells (·.setIfInBounds o v)), ?_⟩, h.sz, h.lt, h.h0⟩
  rw [e, setCell_eq, mapBlock_grow_new _ _ _ _ (by simpa using hb)]
  simp
end
/-- what a call leaves that sorts: the row turned about within a .. b -/
def PmOut (w : World) (blk off N a b : Nat) (d : Array Int) (e : Ending) (W' : World) : Prop := e = .returned (.tuple #[]) ∧ ∃ d', Rs w blk off N d' W' ∧ PermIn a b d d'
def SoOut (w : World) (blk off N a b : Nat) (d : Array Int) (e : Ending) (W' : World) : Prop := e = .returned (.tuple #[]) ∧ ∃ d', Rs w blk off N d' W' ∧ PermIn a b d d' ∧ SortedIn ltInt a b d'
theorem nan_any (z : Int) (W : World) : Calls Tryz.prog 107 #[.int .u64 z] W fun e w' => e = .returned (.bool false) ∧ w' = W := by
  go_enter Tryz.func107, Tryz.ntmps107
  go_wp2
  go_ret
  exact ⟨by simp, rfl⟩
theorem less_any (x y : Int) (W : World) : Calls Tryz.prog 114 #[.int .u64 x, .int .u64 y] W fun e w' => e = .returned (.bool (ltInt x y)) ∧ w' = W := by
  go_enter Tryz.func114, Tryz.ntmps114
  go_wp2_with (go_at_call 107; refine (nan_any _ _).mono ?_; rintro e w' ⟨rfl, rfl⟩)
  go_ret
  exact ⟨rfl, rfl⟩
end Go.Proofs.YtdmibolbpgondaaGreat.Ou
end
