/-
  room.set: a span given its place, its trace its deadline. (Written by gen15/set.py.)
-/
import Derived.Test.YtdmibolbpgondaaGreatKX15SortS
import Derived.BigRegion
import Derived.BigQuiet
import Derived.Deep.QuietTactic
import Derived.StillTailTactics
import Derived.Deep.RegionHeld3
set_option linter.unusedSimpArgs false
set_option linter.unusedVariables false
namespace Go.Proofs.YtdmibolbpgondaaGreat.X15
open Go.RowKit Go.Lib Go.Maps Go.Proofs.YtdmibolbpgondaaGreat.Wd Go.Proofs.YtdmibolbpgondaaGreat.P06
open Go.Proofs.YtdmibolbpgondaaGreat.B07 (Pn OkN OkA OkP Spn)
open Go.Proofs.YtdmibolbpgondaaGreat.U12 (It Lt Qu QOut putm dropm isin put_at first_some drew_below new_at)

theorem zero_map (w : World) : (zeroValue 98).run Tryz.prog w = .ok (.map none) w := by kernel_rfl
theorem zero_ptr (w : World) : (zeroValue 100).run Tryz.prog w = .ok (.pointer none) w := by kernel_rfl
theorem isnil_map (w : World) (r : Option Nat) : (binOp .eql 98 (.map r) (.map none)).run Tryz.prog w = .ok (.bool r.isNone) w := run_eql_map_nil w _ _ _ r Tryz.underlying98
/-- all but what changes -/
structure Fix (p p' : Pr) : Prop where
  r : p'.r = p.r
  G : p'.G = p.G
  S : p'.S = p.S
  B : p'.B = p.B
theorem Fix.refl (p : Pr) : Fix p p := ⟨rfl, rfl, rfl, rfl⟩
theorem Fix.trans {a b c : Pr} (h : Fix a b) (k : Fix b c) : Fix a c := ⟨k.r.trans h.r, k.G.trans h.G, k.S.trans h.S, k.B.trans h.B⟩
theorem nodup_len {α : Type} [DecidableEq α] : ∀ (l m : List α), l.Nodup → (∀ x ∈ l, x ∈ m) → l.length ≤ m.length
  | [], _, _, _ => Nat.zero_le _
  | x :: l, m, h, k => by
    have h1 := List.nodup_cons.1 h
    have h2 := nodup_len l (m.erase x) h1.2 fun y hy => (List.mem_erase_of_ne (fun e => h1.1 (by rw [← e]; exact hy))).2 (k y (List.mem_cons_of_mem _ hy))
    have h3 := List.length_erase_of_mem (k x (List.mem_cons_self ..))
    have h4 := List.length_pos_of_mem (k x (List.mem_cons_self ..))
    rw [List.length_cons]
    omega
theorem isin_or (m : List It) (x : Nat) : ∃ r, isin m x = !r := ⟨!isin m x, by simp⟩
section
variable {w w' : World} {col col' : Nat → Nat} {p : Pr} {L : List Pn} {ts : List Nat}
theorem bk_fs {g : Nat} {t : TypeId} {cs : Array Value} (h : Bk w g t cs) (F : Fs w w' col col') (hc : col g = 0) : Bk w' g t cs ∧ col' g = 0 := by
  have hg : g < w.heap.size := (Array.getElem?_eq_some_iff.1 h).1
  refine ⟨(F.fr.block g hg fun hm => (mem_ow.1 hm).2.1 hc).trans h, ?_⟩
  by_cases e : col' g = 0
  · exact e
  · exact absurd hc ((F.old g hg).1 e)
theorem Rx.new0 (h : Rx w col p) : col w.heap.size = 0 := by
  by_cases e : col w.heap.size = 0
  · exact e
  · have := h.lt _ e; omega
theorem Sm.few (h : Sm w col p L ts) {t : Nat} (ht : t ∈ ts) {o : List Nat} {q : Nat} (hq : Qu w q o (p.mi t)) : (p.mi t).length ≤ L.length := by
  have h1 := nodup_len (p.mi t) ((trace L t).map fun x => (idn x, MT - en x)) ((hq.sorted).imp fun {a b} hl e => by subst e; exact U12.Lt.irrefl _ hl) fun y hy => by
    obtain ⟨x, hx, e⟩ := (h.mi t ht y).1 hy
    exact List.mem_map.2 ⟨x, hx, e.symm⟩
  have h2 := part_len L t
  simp only [List.length_map] at h1
  omega
/-- what set leaves -/
def StOut (w : World) (col : Nat → Nat) (p : Pr) (L : List Pn) (e : Ending) (w' : World) : Prop :=
  e = .returned (.tuple #[]) ∧ ∃ col' p', Rx w' col' p' ∧ Sm w' col' p' L (trs L) ∧ Fs w w' col col' ∧ Fix p p' ∧ p'.n = p.n ∧ p'.h = p.h
theorem Fs.newo {w1 w2 : World} {c : Nat} (h : Rx w col p) (hb : Below w.heap.size w w1) {x : Nat} (hx : col x ≠ 0 ∧ col x ≠ 5) (f : Fr [x] w1 w2) {o : List Nat} (ho : ∀ z ∈ o, w.heap.size ≤ z) : Fs w w2 col (dye col o c) := by
  refine ⟨(Fr.of_below _ hb).then ((f.mono fun z hz => ?_)), fun z hz => by rw [dye_out (fun hm => by have := ho z hm; omega)], fun z hz => by rw [dye_out (fun hm => by have := ho z hm; omega)]⟩
  simp at hz
  subst hz
  exact mem_ow.2 ⟨h.lt z hx.1, hx⟩
/-- what New leaves, and the store behind it -/
def NeOut (w : World) (col : Nat → Nat) (p : Pr) (t g : Nat) (e : Ending) (w' : World) : Prop := ∃ q o V, e = .returned (.pointer (some ⟨q, 0, none⟩)) ∧
  (Instr.mapUpdate 101 (.map (some p.be)) (.int .u64 (t : Int)) (.pointer (some ⟨q, 0, none⟩))).run Tryz.prog w' = .ok () V ∧
  Rx V (dye col o (7 + 2 * t)) { p with qi := up p.qi t (some q), Ne := p.Ne + 1, mi := up p.mi t [] } ∧ Fs w V col (dye col o (7 + 2 * t)) ∧
  (w'.cell? ⟨p.r, 7, none⟩ = some (.map (some p.be)) ∧ w'.cell? ⟨g, 0, none⟩ = some (.int .u64 (t : Int))) ∧ V.cell? ⟨p.r, 7, none⟩ = some (.map (some p.be)) ∧ V.cell? ⟨g, 0, none⟩ = some (.int .u64 (t : Int))
theorem newq_at {t g : Nat} (h : Rx w col p) (hn : p.qi t = none) (ht : (t : Int) ≤ 18446744073709551615) (hN : p.Ne ≤ 1000000) (hx : w.cell? ⟨g, 0, none⟩ = some (.int .u64 (t : Int))) (hcg : col g = 0) :
    Calls Tryz.prog 49 #[] w (NeOut w col p t g) := by
  refine (new_at w).mono ?_
  rintro e w' ⟨q, o, rfl, hQ, ho, hb⟩
  have h1 := h.below hb
  obtain ⟨V, hrun, h2, f2⟩ := h1.newe hQ (fun x hx => by
    by_cases e : col x = 0
    · exact e
    · have := h.lt x e; have := ho x hx; omega) hn ht hN
  have F := Fs.newo (c := 7 + 2 * t) h hb (by rw [h.ke]; omega) f2 ho
  have hgl := World.block_lt_of_cell? _ _ hx
  exact ⟨q, o, V, rfl, hrun, h2, F, ⟨h1.cl.c7, (hb.cell hgl).trans hx⟩, h2.cl.c7, (World.cell?_of_block (a := ⟨g, 0, none⟩) (F.fr.block g hgl fun hm => (mem_ow.1 hm).2.1 hcg)).trans hx⟩
theorem Rx.look99 (h : Rx w col p) {t : Nat} (ht : (t : Int) ≤ 18446744073709551615) {r : Value} (hr : ((p.bi t).map mapv).getD (.map none) = r) :
    (Instr.lookup 99 (.map (some p.bt)) (.int .u64 (t : Int)) false).run Tryz.prog w = .ok r w := by
  rw [← hr]
  exact h.mt.look1 Tryz.underlying99 (zero_map w) ht
theorem Rx.look101 (h : Rx w col p) {t : Nat} (ht : (t : Int) ≤ 18446744073709551615) {r : Value} (hr : ((p.qi t).map ptrv).getD (.pointer none) = r) :
    (Instr.lookup 101 (.map (some p.be)) (.int .u64 (t : Int)) false).run Tryz.prog w = .ok r w := by
  rw [← hr]
  exact h.me.look1 Tryz.underlying101 (zero_ptr w) ht
set_option maxRecDepth 20000 in
set_option maxHeartbeats 8000000 in
theorem set_old (h : Rx w col p) (hS : Sm w col p L (trs L)) (t i e1 : Nat) (P : Int) (sv nm : ByteArray) (kd st t0 : Int) (A : Option Addr) (c n : Nat) (l : List At) (hn : l.length = n)
    (hok : Okx ((⟨t, i, P, sv, nm, kd, st, t0, e1⟩ : Sp), l)) (hd : Hd 0 w A c l) (hc : ∀ a, A = some a → col a.block = 0) (hfew : L.length ≤ 500) (hG : p.G ≤ MT) (hin : t ∈ trs L) :
    Calls Tryz.prog 52 #[.pointer (some ⟨p.r, 0, none⟩), .agg #[.int .u64 (t : Int), .int .u64 (i : Int), .int .u64 P, .string sv, .string nm, .int .i64 kd, .int .i64 st, .int .u64 t0, .int .u64 (e1 : Int), .slice A n c]] w (StOut w col p (X15.put L ((⟨t, i, P, sv, nm, kd, st, t0, e1⟩ : Sp), l))) := by
  have mixed : Tryz.prog.follows .mixedOrders = true := by kernel_rfl
  obtain ⟨y, hy⟩ : ∃ y : Spn, y = ⟨⟨t, i, P, sv, nm, kd, st, t0, e1⟩, A, c, l⟩ := ⟨_, rfl⟩
  have hyt : tn y.pn = t := by subst hy; simp [tn, B07.Spn.pn]
  have hyi : idn y.pn = i := by subst hy; simp [idn, B07.Spn.pn]
  have hye : en y.pn = e1 := by subst hy; simp [en, B07.Spn.pn]
  have hyp : ((⟨t, i, P, sv, nm, kd, st, t0, e1⟩ : Sp), l) = y.pn := by subst hy; rfl
  have hyv : sval y = .agg #[.int .u64 (t : Int), .int .u64 (i : Int), .int .u64 P, .string sv, .string nm, .int .i64 kd, .int .i64 st, .int .u64 t0, .int .u64 (e1 : Int), .slice A n c] := by subst hy hn; rfl
  rw [hyp] at hok ⊢
  have hyd : Hd 0 w y.A y.c y.l := by subst hy; exact hd
  have hyc : ∀ a, y.A = some a → col a.block = 0 := by subst hy; exact hc
  have ht : (t : Int) ≤ 18446744073709551615 := by rw [← hyt]; exact hok.tn.2
  have hi : (i : Int) ≤ 18446744073709551615 := by rw [← hyi]; exact hok.idn.2
  have he : e1 ≤ MT := by rw [← hye]; exact hok.en.2
  have hcol := h.new0
  have HOK := Lib.hid hok
  have HYT := Lib.hid hyt
  have HYI := Lib.hid hyi
  have HYE := Lib.hid hye
  have HYV := Lib.hid hyv
  have HFW := Lib.hid hfew
  clear hy hyp hn hd hc hok hyt hyi hye hyv hfew
  obtain ⟨cs, hcs⟩ : ∃ cs : Array Value, cs = #[.int .u64 (t : Int), .int .u64 (i : Int), .int .u64 P, .string sv, .string nm, .int .i64 kd, .int .i64 st, .int .u64 t0, .int .u64 (e1 : Int), .slice A n c] := ⟨_, rfl⟩
  have bx : Bk (w.alloc (.cells cs 45)) w.heap.size 45 cs := Bk.new w _ _
  have b0 : Below w.heap.size w (w.alloc (.cells cs 45)) := (Below.refl _ _).alloc (Nat.le_refl _) _
  go_enter Tryz.func52, Tryz.ntmps52
  go_wp2_with fail
  rw [← hcs]
  obtain ⟨g, hg⟩ : ∃ g, w.heap.size = g := ⟨_, rfl⟩
  rw [hg] at hcol bx ⊢
  have h1 := h.below b0
  have S1 := hS.fs (Fs.below b0)
  have F1 : Fs w (w.alloc (.cells cs 45)) col col := Fs.below b0
  have hyd1 := hyd.below b0
  obtain ⟨W, hW⟩ : ∃ W, w.alloc (.cells cs 45) = W := ⟨_, rfl⟩
  rw [hW] at bx h1 S1 F1 hyd1 ⊢
  have HCS := Lib.hid hcs
  have HF := Lib.hid F1
  clear hW b0 hg h hS hyd hcs F1
  have x0 : W.cell? ⟨g, 0, none⟩ = some (.int .u64 (t : Int)) := by rw [bx.cell, HCS.out]; rfl
  have c5 := h1.cl.c5
  have h2 := h1.below (drew_below W)
  obtain ⟨b, hb⟩ := Option.isSome_iff_exists.1 ((S1.bi t).2 hin)
  obtain ⟨q, hq⟩ := Option.isSome_iff_exists.1 ((S1.qi t).2 hin)
  have HTS : Hid (trs L = insr t (trs L)) := Lib.hid (insr_in (trs_rise L) hin).symm
  have hl := h2.look99 ht (r := .map (some b)) (by rw [hb]; rfl)
  have hnil := isnil_map
  go_region
  clear hl c5 x0
  have HF2 := Lib.hid (HF.out.trans (Fs.below (col := col) (drew_below W)))
  have S2 := S1.fs (Fs.below (drew_below W))
  have bx2 : Bk W.drew g 45 cs := bx.below (drew_below W)
  have hyd2 := hyd1.below (drew_below W)
  clear h1 S1 bx HF hyd1
  generalize W.drew = W at *
  go_wp2_with fail
  have hcolb := hcol
  have hyc2 := hyc
  clear hcol hyc
  have htt : t ∈ trs L := hin
  -- the span's place
  have x0 : W.cell? ⟨g, 0, none⟩ = some (.int .u64 (t : Int)) := by rw [bx2.cell, HCS.out]; rfl
  have x1 : W.cell? ⟨g, 1, none⟩ = some (.int .u64 (i : Int)) := by rw [bx2.cell, HCS.out]; rfl
  have x2 : W.cell? ⟨g, 2, none⟩ = some (.int .u64 P) := by rw [bx2.cell, HCS.out]; rfl
  have x3 : W.cell? ⟨g, 3, none⟩ = some (.string sv) := by rw [bx2.cell, HCS.out]; rfl
  have x4 : W.cell? ⟨g, 4, none⟩ = some (.string nm) := by rw [bx2.cell, HCS.out]; rfl
  have x5 : W.cell? ⟨g, 5, none⟩ = some (.int .i64 kd) := by rw [bx2.cell, HCS.out]; rfl
  have x6 : W.cell? ⟨g, 6, none⟩ = some (.int .i64 st) := by rw [bx2.cell, HCS.out]; rfl
  have x7 : W.cell? ⟨g, 7, none⟩ = some (.int .u64 t0) := by rw [bx2.cell, HCS.out]; rfl
  have x8 : W.cell? ⟨g, 8, none⟩ = some (.int .u64 (e1 : Int)) := by rw [bx2.cell, HCS.out]; rfl
  have x9 : W.cell? ⟨g, 9, none⟩ = some (.slice A n c) := by rw [bx2.cell, HCS.out]; rfl
  have c5 := h2.cl.c5
  have h3 := h2.below (drew_below W)
  have hl := h3.look99 ht (r := .map (some b)) (by first | (rw [hb]; rfl) | (dsimp only; rw [hb]; rfl))
  have hNi : p.Ni t = (trace L t).length := S2.ni t htt
  have hN : p.Ni t ≤ 1000000 := by
    rw [hNi]
    have := part_len L t
    have := HFW.out
    omega
  obtain ⟨V, hrun, h4, F4⟩ := h3.store hb hi hN (.agg #[.int .u64 (t : Int), .int .u64 (i : Int), .int .u64 P, .string sv, .string nm, .int .i64 kd, .int .i64 st, .int .u64 t0, .int .u64 (e1 : Int), .slice A n c])
  have FD := (Fs.below (col := col) (drew_below W)).trans F4
  go_region
  have HF4 := Lib.hid (HF2.out.trans FD)
  have S4 := S2.fs FD
  obtain ⟨bx4, hcol4⟩ := bk_fs bx2 FD hcolb
  obtain ⟨hyd4, hyc4⟩ := hd_fs hyd2 FD hyc2
  clear x0 x1 x2 x3 x4 x5 x6 x7 x8 x9 c5 hl hrun h2 h3 FD F4 S2 bx2 hyd2 hyc2 hcolb HF2 hN hNi
  -- its trace's queue
  have x0 : V.cell? ⟨g, 0, none⟩ = some (.int .u64 (t : Int)) := by rw [bx4.cell, HCS.out]; rfl
  have c7 := h4.cl.c7
  have h5 := h4.below (drew_below V)
  have hl := h5.look101 ht (r := .pointer (some ⟨q, 0, none⟩)) (by dsimp only; rw [hq]; rfl)
  go_wp2_with fail
  go_region
  have HF5 := Lib.hid (HF4.out.trans (Fs.below (col := col) (drew_below V)))
  have S5 := S4.fs (Fs.below (drew_below V))
  have bx5 : Bk V.drew g 45 cs := bx4.below (drew_below V)
  have hyd5 := hyd4.below (drew_below V)
  have S5dq : p.dq = dqs p.G L := S5.dq
  clear x0 c7 hl h4 S4 bx4 hyd4 HF4
  generalize V.drew = V at *
  have x1 : V.cell? ⟨g, 1, none⟩ = some (.int .u64 (i : Int)) := by rw [bx5.cell, HCS.out]; rfl
  have x8 : V.cell? ⟨g, 8, none⟩ = some (.int .u64 (e1 : Int)) := by rw [bx5.cell, HCS.out]; rfl
  obtain ⟨d, hdd⟩ : ∃ d : Nat, MT - e1 = d := ⟨_, rfl⟩
  have hdi : (d : Int) ≤ 18446744073709551615 := by unfold MT at hdd; omega
  have k1 : IntKind.u64.wrap (4611686018427387904 - (e1 : Int)) = (d : Int) := by rw [IntKind.wrap_u64]; unfold MT at hdd he; omega
  obtain ⟨o1, hQ, ho1⟩ := h5.iq t q hq
  obtain ⟨r, hr⟩ := isin_or (p.mi t) i
  have hlen := S5.few htt hQ
  have hput := put_at (i, d) r hQ ⟨hi, hdi⟩ (by have h1 := HFW.out; have h2 : (p.mi t).length ≤ L.length := hlen; show (p.mi t).length + 1 ≤ 1000; omega) hr
  have HDD := Lib.hid hdd
  have H5 := Lib.hid h5
  have HS5 := Lib.hid S5
  have HB5 := Lib.hid bx5
  have HY5 := Lib.hid (And.intro hyd5 hyc4)
  have HQ1 := Lib.hid (And.intro hQ ho1)
  clear hdd hlen hr h5 S5 bx5 hyd5 hyc4 hQ ho1
  go_wp2_with fail
  refine hput.mono ?_
  rintro e w1 ⟨rfl, o2, hQ2, fr2, sub2⟩
  have h5 := H5.out
  have S5 := HS5.out
  have bx5 := HB5.out
  have hyd5 := HY5.out.1
  have hyc4 := HY5.out.2
  have hQ := HQ1.out.1
  have ho1 := HQ1.out.2
  obtain ⟨h6, F6⟩ := h5.iqs hq ho1 hQ2 fr2 sub2
  have HF6 := Lib.hid (HF5.out.trans F6)
  have S6 := S5.fs F6
  obtain ⟨bx6, hcol6⟩ := bk_fs bx5 F6 hcol4
  obtain ⟨hyd6, hyc6⟩ := hd_fs hyd5 F6 hyc4
  have SF := S6.put y HOK.out hyd6 hyc6 (by rw [HYT.out]; exact HTS.out)
  rw [HYT.out, HYI.out, HYE.out, HYV.out, HDD.out] at SF
  clear hput x1 x8 k1 h5 S5 bx5 hyd5 hyc4 hyd6 hyc6 HF5 fr2 sub2 hQ ho1 F6 hcol4 S6 H5 HS5 HB5 HY5 HQ1
  generalize dye col o2 (7 + 2 * t) = col6 at *
  -- the last End
  have htf : t ∈ trs (X15.put L y.pn) := by rw [trs_put, HYT.out]; exact mem_insr.2 (.inl rfl)
  have hmi := SF.mi t htf
  dsimp only at hmi
  rw [up_same p.mi t] at hmi
  have hmx := head_mx hQ2.sorted hmi (trs_trace.1 htf) fun x hx => (SF.ok x (mem_trace.1 hx).1).en.2
  obtain ⟨i', m', hm'⟩ := hmx
  have hmxle : mx (trace (X15.put L y.pn) t) ≤ MT := by
    obtain ⟨x, hx, e⟩ := mx_in (trs_trace.1 htf)
    rw [← e]
    exact (SF.ok x (mem_trace.1 hx).1).en.2
  obtain ⟨M, hM⟩ : ∃ M, mx (trace (X15.put L y.pn) t) = M := ⟨_, rfl⟩
  have hdl : dl p.G (X15.put L y.pn) t = M + p.G := by unfold dl; rw [hM]
  rw [hM] at hm' hmxle
  rw [hdl] at SF
  obtain ⟨d2, hd2⟩ : ∃ d : Nat, MT - M = d := ⟨_, rfl⟩
  rw [hd2] at hm'
  have hQ3 := hQ2
  rw [hm'] at hQ3
  have hfst := first_some (i', d2) hQ3
  have k2 : IntKind.u64.wrap (4611686018427387904 - (d2 : Int)) = (M : Int) := by rw [IntKind.wrap_u64]; unfold MT at hd2 hmxle; omega
  have k3 : IntKind.u64.wrap ((M : Int) + (p.G : Int)) = ((M + p.G : Nat) : Int) := by rw [IntKind.wrap_u64]; unfold MT at hmxle hG; omega
  have hMG : ((M + p.G : Nat) : Int) ≤ 18446744073709551615 := by unfold MT at hmxle hG; omega
  have HSF := Lib.hid SF
  have HQ2 := Lib.hid hQ2
  have H6 := Lib.hid h6
  have HB6 := Lib.hid bx6
  clear SF hmi hQ2 hQ3 hm' hM hdl htf hd2 hmxle h6 bx6
  go_wp2_with fail
  refine hfst.mono ?_
  rintro e w2 ⟨rfl, b2⟩
  have h6 := H6.out
  have bx6 := HB6.out
  have h7 := h6.below b2
  have HF7 := Lib.hid (HF6.out.trans (Fs.below (col := col6) b2))
  have HSF7 := Lib.hid (HSF.out.fs (Fs.below b2))
  have bx7 := bx6.below b2
  clear hfst h6 HF6 HSF HQ2 bx6 b2 H6 HB6
  -- the deadline
  have x0 : w2.cell? ⟨g, 0, none⟩ = some (.int .u64 (t : Int)) := by rw [bx7.cell, HCS.out]; rfl
  have c0 := h7.cl.c0
  have c6 := h7.cl.c6
  dsimp only at c0 c6
  have h8 := h7.below (drew_below w2)
  obtain ⟨o5, hQ5, ho5⟩ := h8.dl
  obtain ⟨r5, hr5⟩ := isin_or p.dq t
  have hlen5 : p.dq.length + 1 ≤ 1000 := by
    have h2 := hQ5.few
    have h3 : p.dq.length ≤ L.length := (by rw [S5dq]; rw [dqs_len]; exact trs_len L)
    have := HFW.out
    omega
  have hput5 := put_at (t, M + p.G) r5 hQ5 ⟨ht, hMG⟩ hlen5 hr5
  dsimp only at hput5
  have HF8 := Lib.hid (HF7.out.trans (Fs.below (col := col6) (drew_below w2)))
  have HSF8 := Lib.hid (HSF7.out.fs (Fs.below (drew_below w2)))
  have H8 := Lib.hid h8
  have HQ5 := Lib.hid (And.intro hQ5 ho5)
  clear HF7 HSF7 bx7 h7 hlen5 hr5 h8 hQ5 ho5
  go_wp2_with fail
  go_still_tail 13, mixed
  change wpList _ _ _ _ _ w2.drew
  clear x0 c0 c6
  generalize w2.drew = w2 at *
  go_wp2_with fail
  refine hput5.mono ?_
  rintro e w3 ⟨rfl, o6, hQ6, fr6, sub6⟩
  obtain ⟨h9, F9⟩ := H8.out.dqs HQ5.out.1 HQ5.out.2 hQ6 fr6 sub6
  have HFin := Lib.hid (show StOut w col p (X15.put L y.pn) (.returned (.tuple #[])) w3 from ⟨rfl, _, _, h9, HSF8.out.fs F9, HF8.out.trans F9, ⟨rfl, rfl, rfl, rfl⟩, rfl, rfl⟩)
  clear hput5 hQ6 fr6 sub6 F9 h9 HSF8 HF8
  go_wp2
  go_returns
  exact HFin.out
set_option maxRecDepth 20000 in
set_option maxHeartbeats 8000000 in
theorem set_new (h : Rx w col p) (hS : Sm w col p L (trs L)) (t i e1 : Nat) (P : Int) (sv nm : ByteArray) (kd st t0 : Int) (A : Option Addr) (c n : Nat) (l : List At) (hn : l.length = n)
    (hok : Okx ((⟨t, i, P, sv, nm, kd, st, t0, e1⟩ : Sp), l)) (hd : Hd 0 w A c l) (hc : ∀ a, A = some a → col a.block = 0) (hfew : L.length ≤ 500) (hG : p.G ≤ MT) (hin : t ∉ trs L) :
    Calls Tryz.prog 52 #[.pointer (some ⟨p.r, 0, none⟩), .agg #[.int .u64 (t : Int), .int .u64 (i : Int), .int .u64 P, .string sv, .string nm, .int .i64 kd, .int .i64 st, .int .u64 t0, .int .u64 (e1 : Int), .slice A n c]] w (StOut w col p (X15.put L ((⟨t, i, P, sv, nm, kd, st, t0, e1⟩ : Sp), l))) := by
  have mixed : Tryz.prog.follows .mixedOrders = true := by kernel_rfl
  obtain ⟨y, hy⟩ : ∃ y : Spn, y = ⟨⟨t, i, P, sv, nm, kd, st, t0, e1⟩, A, c, l⟩ := ⟨_, rfl⟩
  have hyt : tn y.pn = t := by subst hy; simp [tn, B07.Spn.pn]
  have hyi : idn y.pn = i := by subst hy; simp [idn, B07.Spn.pn]
  have hye : en y.pn = e1 := by subst hy; simp [en, B07.Spn.pn]
  have hyp : ((⟨t, i, P, sv, nm, kd, st, t0, e1⟩ : Sp), l) = y.pn := by subst hy; rfl
  have hyv : sval y = .agg #[.int .u64 (t : Int), .int .u64 (i : Int), .int .u64 P, .string sv, .string nm, .int .i64 kd, .int .i64 st, .int .u64 t0, .int .u64 (e1 : Int), .slice A n c] := by subst hy hn; rfl
  rw [hyp] at hok ⊢
  have hyd : Hd 0 w y.A y.c y.l := by subst hy; exact hd
  have hyc : ∀ a, y.A = some a → col a.block = 0 := by subst hy; exact hc
  have ht : (t : Int) ≤ 18446744073709551615 := by rw [← hyt]; exact hok.tn.2
  have hi : (i : Int) ≤ 18446744073709551615 := by rw [← hyi]; exact hok.idn.2
  have he : e1 ≤ MT := by rw [← hye]; exact hok.en.2
  have hcol := h.new0
  have HOK := Lib.hid hok
  have HYT := Lib.hid hyt
  have HYI := Lib.hid hyi
  have HYE := Lib.hid hye
  have HYV := Lib.hid hyv
  have HFW := Lib.hid hfew
  clear hy hyp hn hd hc hok hyt hyi hye hyv hfew
  obtain ⟨cs, hcs⟩ : ∃ cs : Array Value, cs = #[.int .u64 (t : Int), .int .u64 (i : Int), .int .u64 P, .string sv, .string nm, .int .i64 kd, .int .i64 st, .int .u64 t0, .int .u64 (e1 : Int), .slice A n c] := ⟨_, rfl⟩
  have bx : Bk (w.alloc (.cells cs 45)) w.heap.size 45 cs := Bk.new w _ _
  have b0 : Below w.heap.size w (w.alloc (.cells cs 45)) := (Below.refl _ _).alloc (Nat.le_refl _) _
  go_enter Tryz.func52, Tryz.ntmps52
  go_wp2_with fail
  rw [← hcs]
  obtain ⟨g, hg⟩ : ∃ g, w.heap.size = g := ⟨_, rfl⟩
  rw [hg] at hcol bx ⊢
  have h1 := h.below b0
  have S1 := hS.fs (Fs.below b0)
  have F1 : Fs w (w.alloc (.cells cs 45)) col col := Fs.below b0
  have hyd1 := hyd.below b0
  obtain ⟨W, hW⟩ : ∃ W, w.alloc (.cells cs 45) = W := ⟨_, rfl⟩
  rw [hW] at bx h1 S1 F1 hyd1 ⊢
  have HCS := Lib.hid hcs
  have HF := Lib.hid F1
  clear hW b0 hg h hS hyd hcs F1
  have x0 : W.cell? ⟨g, 0, none⟩ = some (.int .u64 (t : Int)) := by rw [bx.cell, HCS.out]; rfl
  have c5 := h1.cl.c5
  have h2 := h1.below (drew_below W)
  have hbn : p.bi t = none := by
    cases e : p.bi t with
    | none => rfl
    | some b => exact absurd ((S1.bi t).1 (by rw [e]; rfl)) hin
  have hqn : p.qi t = none := by
    cases e : p.qi t with
    | none => rfl
    | some b => exact absurd ((S1.qi t).1 (by rw [e]; rfl)) hin
  have hNt : p.Nt ≤ 1000000 := by
    rw [S1.nt]
    have := trs_len L
    have := HFW.out
    omega
  have hNe : p.Ne ≤ 1000000 := by
    rw [S1.ne]
    have := trs_len L
    have := HFW.out
    omega
  have hl := h2.look99 ht (r := .map none) (by rw [hbn]; rfl)
  have hnil := isnil_map
  go_region
  clear hl c5 x0
  have HF2 := Lib.hid (HF.out.trans (Fs.below (col := col) (drew_below W)))
  have S2 := S1.fs (Fs.below (drew_below W))
  have bx2 : Bk W.drew g 45 cs := bx.below (drew_below W)
  have hyd2 := hyd1.below (drew_below W)
  clear h1 S1 bx HF hyd1
  generalize W.drew = W at *
  go_wp2_with fail
  -- a map for the trace
  have x0 : W.cell? ⟨g, 0, none⟩ = some (.int .u64 (t : Int)) := by rw [bx2.cell, HCS.out]; rfl
  have c5 := h2.cl.c5
  have hgl : g < W.heap.size := World.block_lt_of_cell? _ _ x0
  have hrl : p.r < W.heap.size := World.block_lt_of_cell? _ _ c5
  have hb4 : Below W.heap.size W (W.alloc (.map #[] 0)).drew := ((Below.refl _ _).alloc (Nat.le_refl _) (.map #[] 0)).drew
  have hM : Mp (W.alloc (.map #[] 0)).drew W.heap.size (fun _ => none) 0 := (Mp.empty W).kept rfl
  have h4 := h2.below hb4
  have hmm := @run_makeMap Tryz.prog
  obtain ⟨V, hrun, h5, f5⟩ := h4.newt hM h2.new0 hbn ht hNt
  have FD : Fs W V col (dye col [W.heap.size] (6 + 2 * t)) := Fs.newo h2 hb4 (by rw [h2.kt]; omega) f5 (fun z hz => by simp at hz; subst hz; exact Nat.le_refl _)
  go_region
  have HF5 := Lib.hid (HF2.out.trans FD)
  have S5 := S2.fs FD
  obtain ⟨bx5, hcol5⟩ := bk_fs bx2 FD hcol
  obtain ⟨hyd5, hyc5⟩ := hd_fs hyd2 FD hyc
  clear x0 c5 hgl hrl hM hb4 h4 hrun f5 FD h2 S2 bx2 hyd2 HF2 hcol hyc hbn hNt hmm
  generalize hco : dye col [W.heap.size] (6 + 2 * t) = col5 at *
  generalize hbb : W.heap.size = b at *
  -- a queue for the trace
  have x0 : V.cell? ⟨g, 0, none⟩ = some (.int .u64 (t : Int)) := by rw [bx5.cell, HCS.out]; rfl
  have c7 := h5.cl.c7
  try dsimp only at c7
  have h6 := h5.below (drew_below V)
  have hnew := newq_at (g := g) (t := t) h6 hqn ht hNe (show V.drew.cell? _ = _ from x0) hcol5
  try dsimp only at hnew
  go_wp2_with fail
  go_region_held3 (fun w' => w'.cell? ⟨p.r, 7, none⟩ = some (.map (some p.be)) ∧ w'.cell? ⟨g, 0, none⟩ = some (.int .u64 (t : Int)))
    (first | exact ⟨c7, x0⟩ | exact d7 | exact e7)
    (first | (go_at_call 49; (with_reducible refine hnew.mono ?_); rintro e w1 ⟨q, o7, V7, rfl, hrun7, h7, F7, d7, e7⟩))
  have htr : trace L t = [] := by
    cases e : trace L t with
    | nil => rfl
    | cons a b => exact absurd (trs_trace.2 (by rw [e]; simp)) hin
  have FD := (Fs.below (col := col5) (drew_below V)).trans F7
  have HF2 := Lib.hid (HF5.out.trans FD)
  have S2 := (S5.fs FD).mid (b := b) (q := q) hin htr (trs_rise L)
  obtain ⟨bx2, hcolb⟩ := bk_fs bx5 FD hcol5
  obtain ⟨hyd2, hyc2⟩ := hd_fs hyd5 FD hyc5
  have hb : up p.bi t (some b) t = some b := up_same _ _ _
  have hq : up p.qi t (some q) t = some q := up_same _ _ _
  rename_i hheld
  clear hheld x0 c7 h6 hnew hrun7 F7 d7 e7 FD h5 S5 bx5 hyd5 hyc5 hcol5 HF5 hqn hNe htr
  have h2 := h7
  clear h7
  generalize hco7 : dye col5 o7 (7 + 2 * t) = col7 at *
  clear hco hbb hco7
  generalize V7 = W at *
  go_wp2_with fail

  have htt : t ∈ (insr t (trs L)) := mem_insr.2 (.inl rfl)
  -- the span's place
  have x0 : W.cell? ⟨g, 0, none⟩ = some (.int .u64 (t : Int)) := by rw [bx2.cell, HCS.out]; rfl
  have x1 : W.cell? ⟨g, 1, none⟩ = some (.int .u64 (i : Int)) := by rw [bx2.cell, HCS.out]; rfl
  have x2 : W.cell? ⟨g, 2, none⟩ = some (.int .u64 P) := by rw [bx2.cell, HCS.out]; rfl
  have x3 : W.cell? ⟨g, 3, none⟩ = some (.string sv) := by rw [bx2.cell, HCS.out]; rfl
  have x4 : W.cell? ⟨g, 4, none⟩ = some (.string nm) := by rw [bx2.cell, HCS.out]; rfl
  have x5 : W.cell? ⟨g, 5, none⟩ = some (.int .i64 kd) := by rw [bx2.cell, HCS.out]; rfl
  have x6 : W.cell? ⟨g, 6, none⟩ = some (.int .i64 st) := by rw [bx2.cell, HCS.out]; rfl
  have x7 : W.cell? ⟨g, 7, none⟩ = some (.int .u64 t0) := by rw [bx2.cell, HCS.out]; rfl
  have x8 : W.cell? ⟨g, 8, none⟩ = some (.int .u64 (e1 : Int)) := by rw [bx2.cell, HCS.out]; rfl
  have x9 : W.cell? ⟨g, 9, none⟩ = some (.slice A n c) := by rw [bx2.cell, HCS.out]; rfl
  have c5 := h2.cl.c5
  have h3 := h2.below (drew_below W)
  have hl := h3.look99 ht (r := .map (some b)) (by first | (rw [hb]; rfl) | (dsimp only; rw [hb]; rfl))
  have hNi : (up p.Ni t 0 t) = (trace L t).length := S2.ni t htt
  have hN : (up p.Ni t 0 t) ≤ 1000000 := by
    rw [hNi]
    have := part_len L t
    have := HFW.out
    omega
  obtain ⟨V, hrun, h4, F4⟩ := h3.store hb hi hN (.agg #[.int .u64 (t : Int), .int .u64 (i : Int), .int .u64 P, .string sv, .string nm, .int .i64 kd, .int .i64 st, .int .u64 t0, .int .u64 (e1 : Int), .slice A n c])
  have FD := (Fs.below (col := col7) (drew_below W)).trans F4
  go_region
  have HF4 := Lib.hid (HF2.out.trans FD)
  have S4 := S2.fs FD
  obtain ⟨bx4, hcol4⟩ := bk_fs bx2 FD hcolb
  obtain ⟨hyd4, hyc4⟩ := hd_fs hyd2 FD hyc2
  clear x0 x1 x2 x3 x4 x5 x6 x7 x8 x9 c5 hl hrun h2 h3 FD F4 S2 bx2 hyd2 hyc2 hcolb HF2 hN hNi
  -- its trace's queue
  have x0 : V.cell? ⟨g, 0, none⟩ = some (.int .u64 (t : Int)) := by rw [bx4.cell, HCS.out]; rfl
  have c7 := h4.cl.c7
  have h5 := h4.below (drew_below V)
  have hl := h5.look101 ht (r := .pointer (some ⟨q, 0, none⟩)) (by dsimp only; rw [hq]; rfl)
  go_wp2_with fail
  go_region
  have HF5 := Lib.hid (HF4.out.trans (Fs.below (col := col7) (drew_below V)))
  have S5 := S4.fs (Fs.below (drew_below V))
  have bx5 : Bk V.drew g 45 cs := bx4.below (drew_below V)
  have hyd5 := hyd4.below (drew_below V)
  have S5dq : p.dq = dqs p.G L := S5.dq
  clear x0 c7 hl h4 S4 bx4 hyd4 HF4
  generalize V.drew = V at *
  have x1 : V.cell? ⟨g, 1, none⟩ = some (.int .u64 (i : Int)) := by rw [bx5.cell, HCS.out]; rfl
  have x8 : V.cell? ⟨g, 8, none⟩ = some (.int .u64 (e1 : Int)) := by rw [bx5.cell, HCS.out]; rfl
  obtain ⟨d, hdd⟩ : ∃ d : Nat, MT - e1 = d := ⟨_, rfl⟩
  have hdi : (d : Int) ≤ 18446744073709551615 := by unfold MT at hdd; omega
  have k1 : IntKind.u64.wrap (4611686018427387904 - (e1 : Int)) = (d : Int) := by rw [IntKind.wrap_u64]; unfold MT at hdd he; omega
  obtain ⟨o1, hQ, ho1⟩ := h5.iq t q hq
  obtain ⟨r, hr⟩ := isin_or ((up p.mi t [] t)) i
  have hlen := S5.few htt hQ
  have hput := put_at (i, d) r hQ ⟨hi, hdi⟩ (by have h1 := HFW.out; have h2 : ((up p.mi t [] t)).length ≤ L.length := hlen; show ((up p.mi t [] t)).length + 1 ≤ 1000; omega) hr
  have HDD := Lib.hid hdd
  have H5 := Lib.hid h5
  have HS5 := Lib.hid S5
  have HB5 := Lib.hid bx5
  have HY5 := Lib.hid (And.intro hyd5 hyc4)
  have HQ1 := Lib.hid (And.intro hQ ho1)
  clear hdd hlen hr h5 S5 bx5 hyd5 hyc4 hQ ho1
  go_wp2_with fail
  refine hput.mono ?_
  rintro e w1 ⟨rfl, o2, hQ2, fr2, sub2⟩
  have h5 := H5.out
  have S5 := HS5.out
  have bx5 := HB5.out
  have hyd5 := HY5.out.1
  have hyc4 := HY5.out.2
  have hQ := HQ1.out.1
  have ho1 := HQ1.out.2
  obtain ⟨h6, F6⟩ := h5.iqs hq ho1 hQ2 fr2 sub2
  have HF6 := Lib.hid (HF5.out.trans F6)
  have S6 := S5.fs F6
  obtain ⟨bx6, hcol6⟩ := bk_fs bx5 F6 hcol4
  obtain ⟨hyd6, hyc6⟩ := hd_fs hyd5 F6 hyc4
  have SF := S6.put y HOK.out hyd6 hyc6 (by rw [HYT.out])
  rw [HYT.out, HYI.out, HYE.out, HYV.out, HDD.out] at SF
  clear hput x1 x8 k1 h5 S5 bx5 hyd5 hyc4 hyd6 hyc6 HF5 fr2 sub2 hQ ho1 F6 hcol4 S6 H5 HS5 HB5 HY5 HQ1
  generalize dye col7 o2 (7 + 2 * t) = col6 at *
  -- the last End
  have htf : t ∈ trs (X15.put L y.pn) := by rw [trs_put, HYT.out]; exact mem_insr.2 (.inl rfl)
  have hmi := SF.mi t htf
  dsimp only at hmi
  rw [up_same (up p.mi t []) t] at hmi
  have hmx := head_mx hQ2.sorted hmi (trs_trace.1 htf) fun x hx => (SF.ok x (mem_trace.1 hx).1).en.2
  obtain ⟨i', m', hm'⟩ := hmx
  have hmxle : mx (trace (X15.put L y.pn) t) ≤ MT := by
    obtain ⟨x, hx, e⟩ := mx_in (trs_trace.1 htf)
    rw [← e]
    exact (SF.ok x (mem_trace.1 hx).1).en.2
  obtain ⟨M, hM⟩ : ∃ M, mx (trace (X15.put L y.pn) t) = M := ⟨_, rfl⟩
  have hdl : dl p.G (X15.put L y.pn) t = M + p.G := by unfold dl; rw [hM]
  rw [hM] at hm' hmxle
  rw [hdl] at SF
  obtain ⟨d2, hd2⟩ : ∃ d : Nat, MT - M = d := ⟨_, rfl⟩
  rw [hd2] at hm'
  have hQ3 := hQ2
  rw [hm'] at hQ3
  have hfst := first_some (i', d2) hQ3
  have k2 : IntKind.u64.wrap (4611686018427387904 - (d2 : Int)) = (M : Int) := by rw [IntKind.wrap_u64]; unfold MT at hd2 hmxle; omega
  have k3 : IntKind.u64.wrap ((M : Int) + (p.G : Int)) = ((M + p.G : Nat) : Int) := by rw [IntKind.wrap_u64]; unfold MT at hmxle hG; omega
  have hMG : ((M + p.G : Nat) : Int) ≤ 18446744073709551615 := by unfold MT at hmxle hG; omega
  have HSF := Lib.hid SF
  have HQ2 := Lib.hid hQ2
  have H6 := Lib.hid h6
  have HB6 := Lib.hid bx6
  clear SF hmi hQ2 hQ3 hm' hM hdl htf hd2 hmxle h6 bx6
  go_wp2_with fail
  refine hfst.mono ?_
  rintro e w2 ⟨rfl, b2⟩
  have h6 := H6.out
  have bx6 := HB6.out
  have h7 := h6.below b2
  have HF7 := Lib.hid (HF6.out.trans (Fs.below (col := col6) b2))
  have HSF7 := Lib.hid (HSF.out.fs (Fs.below b2))
  have bx7 := bx6.below b2
  clear hfst h6 HF6 HSF HQ2 bx6 b2 H6 HB6
  -- the deadline
  have x0 : w2.cell? ⟨g, 0, none⟩ = some (.int .u64 (t : Int)) := by rw [bx7.cell, HCS.out]; rfl
  have c0 := h7.cl.c0
  have c6 := h7.cl.c6
  dsimp only at c0 c6
  have h8 := h7.below (drew_below w2)
  obtain ⟨o5, hQ5, ho5⟩ := h8.dl
  obtain ⟨r5, hr5⟩ := isin_or p.dq t
  have hlen5 : p.dq.length + 1 ≤ 1000 := by
    have h2 := hQ5.few
    have h3 : p.dq.length ≤ L.length := (by rw [S5dq]; rw [dqs_len]; exact trs_len L)
    have := HFW.out
    omega
  have hput5 := put_at (t, M + p.G) r5 hQ5 ⟨ht, hMG⟩ hlen5 hr5
  dsimp only at hput5
  have HF8 := Lib.hid (HF7.out.trans (Fs.below (col := col6) (drew_below w2)))
  have HSF8 := Lib.hid (HSF7.out.fs (Fs.below (drew_below w2)))
  have H8 := Lib.hid h8
  have HQ5 := Lib.hid (And.intro hQ5 ho5)
  clear HF7 HSF7 bx7 h7 hlen5 hr5 h8 hQ5 ho5
  go_wp2_with fail
  go_still_tail 13, mixed
  change wpList _ _ _ _ _ w2.drew
  clear x0 c0 c6
  generalize w2.drew = w2 at *
  go_wp2_with fail
  refine hput5.mono ?_
  rintro e w3 ⟨rfl, o6, hQ6, fr6, sub6⟩
  obtain ⟨h9, F9⟩ := H8.out.dqs HQ5.out.1 HQ5.out.2 hQ6 fr6 sub6
  have HFin := Lib.hid (show StOut w col p (X15.put L y.pn) (.returned (.tuple #[])) w3 from ⟨rfl, _, _, h9, HSF8.out.fs F9, HF8.out.trans F9, ⟨rfl, rfl, rfl, rfl⟩, rfl, rfl⟩)
  clear hput5 hQ6 fr6 sub6 F9 h9 HSF8 HF8
  go_wp2
  go_returns
  exact HFin.out
end
end Go.Proofs.YtdmibolbpgondaaGreat.X15
