/-
  A shard of the law's own: what may be, one span more, a trace taken, one line a call.
  The document's Size of a span.
  The document's shard: Held and Deadline.
  The document's shard: Traces.
-/
import Derived.Test.YtdmibolbpgondaaGreatKX15Add
import Derived.Test.YtdmibolbpgondaaGreatKX15Ou4
import Derived.Test.YtdmibolbpgondaaGreatKX15Map
import Derived.BigQuiet
import Derived.Deep.QuietTactic
import Derived.Test.YtdmibolbpgondaaGreatKX15SortS
import Derived.Test.YtdmibolbpgondaaGreatKTwoOwn
import Derived.Deep.CutRange
section
set_option linter.unusedSimpArgs false
set_option linter.unusedVariables false
namespace Go.Proofs.YtdmibolbpgondaaGreat.X15
open Go.RowKit Go.Lib Go.Maps Go.Proofs.YtdmibolbpgondaaGreat.Wd Go.Proofs.YtdmibolbpgondaaGreat.P06
open Go.Proofs.YtdmibolbpgondaaGreat.B07 (Pn OkN OkA OkP Spn Sps pns tenA ten)
/-- a span that may be -/
def May (x : Pn) : Prop := chk x.1 true = 0 ∧ Amb x.2
theorem chk_no (s : Sp) : chk s false ≠ 0 := by
  unfold chk
  repeat' split
  all_goals first | omega | simp at *
theorem chk_may {x : Pn} {b : Bool} (hb : b = true ↔ Amb x.2) : chk x.1 b = 0 ↔ May x := by
  unfold May
  cases b with
  | true => exact ⟨fun h => ⟨h, hb.1 rfl⟩, fun h => h.1⟩
  | false => exact ⟨fun h => absurd h (chk_no _), fun h => absurd (hb.2 h.2) (by decide)⟩
theorem may_okx {x : Pn} (h : May x) (hN : OkN x.1) (hr : Nr x) : Okx x := by
  refine ⟨hN, ?_, hr⟩
  have h1 := h.1
  unfold chk at h1
  by_cases e : 4611686018427387904 < x.1.t1
  · exfalso
    revert h1
    repeat' split
    all_goals first | omega | (intro h1; omega)
  · omega
theorem amb_bool (l : List At) : ∃ b : Bool, b = true ↔ Amb l := by
  by_cases h : Amb l
  · exact ⟨true, by simp [h]⟩
  · exact ⟨false, by simp [h]⟩
theorem big_rest {S B : Nat} {L : List Pn} (h : big S B L = false) (t : Nat) : big S B (rest L t) = false := by
  unfold big at *
  simp only [Bool.or_eq_false_iff, decide_eq_false_iff_not] at *
  have := part_len L t
  have := part_held L t
  omega
/-- one span more: what is told, what stays, what is twice, what is gone -/
def Ad (G S B : Nat) (L : List Pn) (x : Pn) (k : Int) (L' T g : List Pn) : Prop := (k = 0 ∧ May x ∧ L' = (add G S B L x).1 ∧ T = (add G S B L x).2.1 ∧ g = (add G S B L x).2.2) ∨ (k = 1 ∧ ¬ May x ∧ L' = L ∧ T = [] ∧ g = [])
/-- the law's shard -/
structure Lw (w0 : World) (col : Nat → Nat) (sp : Nat) (p : Pr) (L : List Pn) (W : World) : Prop where
  sd : Sd W col sp p L
  ok : big p.S p.B L = false
  bel : Below w0.heap.size w0 W
  new : ∀ x, col x ≠ 0 → col x ≠ 5 → w0.heap.size ≤ x
section
variable {w0 w w' : World} {col col' : Nat → Nat} {sp : Nat} {p p' : Pr} {L L' : List Pn}
theorem Lw.below (h : Lw w0 col sp p L w) (hb : Below w.heap.size w w') : Lw w0 col sp p L w' := ⟨h.sd.below hb, h.ok, h.bel.trans (hb.mono h.bel.size), h.new⟩
theorem Lw.fs (h : Lw w0 col sp p L w) (F : Fs w w' col col') (R : Sd w' col' sp p' L') (ok : big p'.S p'.B L' = false) : Lw w0 col' sp p' L' w' := by
  refine ⟨R, ok, ((Fr.of_below _ h.bel).trans F.fr fun x hx => .inr (h.new x (mem_ow.1 hx).2.1 (mem_ow.1 hx).2.2)).below (Nat.le_refl _) (o := []) fun x hx => (by cases hx), fun x h1 h2 => ?_⟩
  by_cases e : x < w.heap.size
  · exact h.new x ((F.old x e).1 h1) fun e5 => h2 ((F.five x e).2 e5)
  · have := h.bel.size; omega
theorem Fs.size (F : Fs w w' col col') : w.heap.size ≤ w'.heap.size := F.fr.size
/-- a row in nobody's block stays -/
theorem us_fs {A : Option Addr} {c : Nat} {l : List Nat} (h : Us w A c l) (F : Fs w w' col col') (h0 : ∀ a, A = some a → col a.block = 0 ∧ a.block < w.heap.size) : Us w' A c l ∧ ∀ a, A = some a → col' a.block = 0 ∧ a.block < w'.heap.size := by
  refine ⟨⟨rd_block h.1 fun a ha => F.fr.block _ (h0 a ha).2 fun hm => (mem_ow.1 hm).2.1 (h0 a ha).1, h.2⟩, fun a ha => ⟨?_, Nat.lt_of_lt_of_le (h0 a ha).2 F.fr.size⟩⟩
  by_cases e : col' a.block = 0
  · exact e
  · exact absurd (h0 a ha).1 ((F.old _ (h0 a ha).2).1 e)
theorem Rx.fresh (h : Rx w col p) {x : Nat} (hx : w.heap.size ≤ x) : col x = 0 := by
  by_cases e : col x = 0
  · exact e
  · have := h.lt x e; omega
def AcOut (w0 w : World) (col : Nat → Nat) (sp : Nat) (p : Pr) (L : List Pn) (x : Pn) (e : Ending) (w' : World) : Prop :=
  ∃ A1 c1 M1 A2 c2 M2 k L' T g col' p', e = .returned (.tuple #[.agg #[.slice A1 (List.length T) c1, .slice A2 (List.length g) c2], .int .i64 k]) ∧ Ad p.G p.S p.B L x k L' T g ∧ pns M1 = T ∧ pns M2 = g ∧
    Out w' col' A1 c1 M1 ∧ Out w' col' A2 c2 M2 ∧ Lw w0 col' sp p' L' w' ∧ Fs w w' col col' ∧ Fix p p'
theorem Lw.add (h : Lw w0 col sp p L w) (s : Sp) (A : Option Addr) (c n : Nat) (l : List At) (hn : l.length = n) (hN : OkN s) (hr : Nr (s, l)) (hd : Hd 0 w A c l) (hfew : L.length ≤ 400) (hG : p.G ≤ MT) :
    Calls Tryz.prog 10 #[.pointer (some ⟨sp, 0, none⟩), spv s (.slice A n c)] w (AcOut w0 w col sp p L (s, l)) := by
  obtain ⟨b, hb⟩ := amb_bool l
  by_cases hc : chk s b = 0
  · have hm : May (s, l) := (chk_may (x := (s, l)) hb).1 hc
    refine (add_right h.sd h.ok s A c n l hn (may_okx hm hN hr) hd b hb hc hfew hG).mono ?_
    rintro e w' ⟨A1, c1, M1, A2, c2, M2, col', p', rfl, h1, h2, h3, h4, h5, h6, h7⟩
    refine ⟨A1, c1, M1, A2, c2, M2, 0, _, _, _, col', p', rfl, .inl ⟨rfl, hm, rfl, rfl, rfl⟩, h1, h2, h3, h4, h.fs h6 h5 ?_, h6, h7⟩
    rw [h7.S, h7.B, add_puts h.ok]
    exact shrink_ok _ _ _ _
  · have hm : ¬ May (s, l) := fun e => hc ((chk_may (x := (s, l)) hb).2 e)
    refine (add_wrong (sp := sp) s A c n l w hn (by rw [← hn]; exact hr.few) hd b hb hc).mono ?_
    rintro e w' ⟨rfl, hb'⟩
    exact ⟨none, 0, [], none, 0, [], 1, L, [], [], col, p, rfl, .inr ⟨rfl, hm, rfl, rfl, rfl⟩, rfl, rfl, Out.nil _ _, Out.nil _ _, h.below hb', Fs.below hb', Fix.refl _⟩
def TaOut (w0 w : World) (col : Nat → Nat) (sp : Nat) (p : Pr) (L : List Pn) (t : Nat) (e : Ending) (w' : World) : Prop :=
  ∃ A c M col' p', e = .returned (.tuple #[.slice A (trace L t).length c, .bool (decide (t ∈ trs L))]) ∧ pns M = trace L t ∧ Out w' col' A c M ∧ Lw w0 col' sp p' (rest L t) w' ∧ Fs w w' col col' ∧ Fix p p'
theorem trace_out {L : List Pn} {t : Nat} (h : t ∉ trs L) : trace L t = [] := Classical.byContradiction fun e => h (trs_trace.2 e)
theorem rest_out {L : List Pn} {t : Nat} (h : t ∉ trs L) : rest L t = L := List.filter_eq_self.2 fun x hx => by
  have : tn x ≠ t := fun e => h (mem_trs.2 ⟨x, hx, e⟩)
  simpa using this
theorem Lw.take (h : Lw w0 col sp p L w) (t : Nat) (ht : (t : Int) ≤ 18446744073709551615) (hfew : L.length ≤ 500) :
    Calls Tryz.prog 16 #[.pointer (some ⟨sp, 0, none⟩), .int .u64 (t : Int)] w (TaOut w0 w col sp p L t) := by
  by_cases hin : t ∈ trs L
  · refine (stake_in h.sd t hin hfew).mono ?_
    rintro e w' ⟨A, c, M, col', p', rfl, h1, h2, h3, h4, h5⟩
    exact ⟨A, c, M, col', p', by rw [decide_eq_true hin], h1, h2, h.fs h4 h3 (by rw [h5.S, h5.B]; exact big_rest h.ok t), h4, h5⟩
  · have hbi : p.bi t = none := by
      cases e : p.bi t with
      | none => rfl
      | some b => exact absurd ((h.sd.rm.sm.bi t).1 (by rw [e]; rfl)) hin
    refine (stake_core ht h.sd.all (pr := fun p' => p' = p) fun p' e => by rw [e]; exact hbi).mono ?_
    rintro e w' ⟨rfl, hb⟩
    refine ⟨none, 0, [], col, p, by rw [decide_eq_false hin, trace_out hin]; rfl, by rw [trace_out hin]; rfl, Out.nil _ _, ?_, Fs.below hb, Fix.refl _⟩
    rw [rest_out hin]
    exact h.below hb
end
end Go.Proofs.YtdmibolbpgondaaGreat.X15
end

section
set_option linter.unusedSimpArgs false
set_option linter.unusedVariables false
namespace Go.Proofs.YtdmibolbpgondaaGreat.X15
open Go.RowKit Go.Lib Go.Sort Go.Proofs.YtdmibolbpgondaaGreat.Wd Go.Proofs.YtdmibolbpgondaaGreat.V04 Go.Proofs.YtdmibolbpgondaaGreat.P06
open Go.Proofs.YtdmibolbpgondaaGreat.B07 (Pn OkN OkA OkP Spn)

set_option maxRecDepth 20000 in
set_option maxHeartbeats 2000000 in
theorem refsize_any (s : Sp) (A : Option Addr) (c n z : Nat) (l : List At) (w : World) (h : Ats w A c l) (hn : l.length = n) (hr : Nr (s, l)) (hz : sz (s, l) = z) :
    Calls Tryz.prog 26 #[spv s (.slice A n c)] w fun e w' => e = .returned (.int .i64 (z : Int)) ∧ Below w.heap.size w w' := by
  have HN := Lib.hid hn
  have hm := hr.few
  have hzl := hr.sz
  rw [hz] at hzl
  have h0 : z = 64 + s.sv.size + s.nm.size + szA l := hz.symm
  have hn' : n ≤ 40 := by rw [← hn]; exact hm
  have b0 : Below w.heap.size w (w.alloc (.cells (spc s (.slice A n c)) 34)) := by go_grown
  have hA : Ats (w.alloc (.cells (spc s (.slice A n c)) 34)) A c l := h.below b0
  have c9 : (w.alloc (.cells (spc s (.slice A n c)) 34)).cell? ⟨w.heap.size, 9, none⟩ = some (.slice A n c) := by simp
  have HX := Lib.hid (fun k (hk : k < l.length) => szA_take hk)
  have HM := Lib.hid (fun k => szA_mono l k)
  obtain ⟨u, hu⟩ : ∃ u, 64 + s.sv.size + s.nm.size = u := ⟨_, rfl⟩
  rw [hu] at h0
  have H0 := Lib.hid h0
  have hul : u ≤ 300000 := by omega
  have k1 : (64 : Int) + (s.sv.size : Int) + (s.nm.size : Int) = (u : Int) := by omega
  have hrest : Hid (u = u + szA (l.take 0)) := Lib.hid (by simp [szA])
  clear hn hm hz hu h0 hr h
  go_enter Tryz.func26, Tryz.ntmps26
  go_wp2
  obtain ⟨X, hX⟩ : ∃ X, w.alloc (.cells (spc s (.slice A n c)) 34) = X := ⟨_, rfl⟩
  rw [hX] at hA b0 c9 ⊢
  clear hX
  go_loopw [3, 4] (fun v i wr => ∃ k m : Nat, v = .int .i64 (m : Int) ∧ i = .int .i64 k ∧ k ≤ n ∧ m ≤ 300000 ∧ Hid (m = u + szA (l.take k)) ∧ Below X.heap.size X wr) (fun _ i _ => n - (intOf i).toNat)
  case atStart => exact ⟨0, u, rfl, rfl, Nat.zero_le _, hul, hrest, Below.refl _ _⟩
  case round =>
    obtain ⟨k, m, rfl, rfl, hk, hmm, HMM, hb⟩ := hrel
    have c9' : wr.cell? ⟨w.heap.size, 9, none⟩ = some (.slice A n c) := (hb.cell (World.block_lt_of_cell? _ _ c9)).trans c9
    by_cases hlt : k < n
    · have hltz : (k : Int) < (n : Int) := by omega
      have hkl : k < l.length := by rw [HN.out]; exact hlt
      obtain ⟨ad, p, rfl, hp, F⟩ := (hA.below hb).get hkl
      have hs := HX.out k hkl
      have hs1 := HM.out (k + 1)
      have hu0 := H0.out
      have hmm2 := HMM.out
      have f0 := F.c0
      have f3 : wr.cell? ⟨p.block, p.off + 1 + 2, none⟩ = some (.string l[k].S) := F.c3
      obtain ⟨m2, hm2⟩ : ∃ m2, u + szA (l.take (k + 1)) = m2 := ⟨_, rfl⟩
      have HM2 : Hid (m2 = u + szA (l.take (k + 1))) := Lib.hid hm2.symm
      have hz2 : m2 ≤ 300000 := by omega
      have e2 : m2 = m + (16 + l[k].key.size + l[k].S.size) := by omega
      clear F hs hs1 hu0 hmm2 hm2
      generalize l[k] = x at *
      obtain ⟨a, ha⟩ : ∃ a, x.key.size = a := ⟨_, rfl⟩
      obtain ⟨b, hb'⟩ : ∃ b, x.S.size = b := ⟨_, rfl⟩
      rw [ha, hb'] at e2
      obtain ⟨m3, hm3⟩ : ∃ m3 : Nat, m + 16 = m3 := ⟨_, rfl⟩
      obtain ⟨m4, hm4⟩ : ∃ m4 : Nat, m3 + a = m4 := ⟨_, rfl⟩
      have e3 : (m : Int) + 16 = (m3 : Int) := by omega
      have e4 : (m3 : Int) + (a : Int) = (m4 : Int) := by omega
      have e5 : (m4 : Int) + (b : Int) = (m2 : Int) := by omega
      have e6 : m3 ≤ 300000 ∧ m4 ≤ 300000 ∧ a ≤ 300000 ∧ b ≤ 300000 := by omega
      obtain ⟨e6, e7, e8, e9⟩ := e6
      have y2 : (0 : Int) ≤ (k : Int) := by omega
      have y3 : ((k : Int)).toNat = k := by omega
      clear e2 hm3 hm4
      go_wp2_with fail
      go_quiet (fail)
      have hb2 : Below X.heap.size X (wr.drewN nq) := below_dn hb nq
      clear f0 f3 c9' hp hb
      generalize wr.drewN nq = w6 at hb2 ⊢
      go_wp2
      go_roundw
      case rel => exact ⟨k + 1, m2, rfl, by go_num, by omega, hz2, HM2, hb2⟩
      case measure => first | go_num | (simp [intOf]; omega)
    · have hltz : ¬ ((k : Int) < (n : Int)) := by omega
      have hkn : k = n := by omega
      have hfin : m = z := by
        have h1 := HMM.out
        have h2 := H0.out
        rw [List.take_of_length_le (by rw [HN.out]; omega)] at h1
        omega
      subst hfin
      have HB := Lib.hid (b0.trans (hb.mono b0.size))
      go_wp2
      go_ret
      exact ⟨rfl, HB.out⟩
end Go.Proofs.YtdmibolbpgondaaGreat.X15
end

section
set_option linter.unusedSimpArgs false
set_option linter.unusedVariables false
namespace Go.Proofs.YtdmibolbpgondaaGreat.X15
open Go.RowKit Go.Lib Go.Maps Go.Proofs.YtdmibolbpgondaaGreat.Wd Go.Proofs.YtdmibolbpgondaaGreat.P06
open Go.Proofs.YtdmibolbpgondaaGreat.B07 (Pn OkN OkA OkP Spn Sps pns tenA ten Ten)
open Go.Proofs.YtdmibolbpgondaaGreat.D09 (TenW)
/-- the document's shard as a value -/
abbrev sag (G S B : Nat) (A : Option Addr) (n c : Nat) : Value := .agg #[.int .u64 (G : Int), .int .i64 (S : Int), .int .i64 (B : Int), .slice A n c]
abbrev sac (G S B : Nat) (A : Option Addr) (n c : Nat) : Array Value := #[.int .u64 (G : Int), .int .i64 (S : Int), .int .i64 (B : Int), .slice A n c]
theorem held_part (L : List Pn) (k : Nat) : held (L.take k) ≤ held L := by
  have h2 : held L = held (L.take k) + held (L.drop k) := by rw [← held_app, List.take_append_drop]
  omega
set_option maxRecDepth 20000 in
set_option maxHeartbeats 4000000 in
theorem rheld_at (G S B : Nat) (A : Option Addr) (n c : Nat) (M : List Spn) (L : List Pn) (w : World) (h : Sps w A c M) (hn : M.length = n) (hL : pns M = L) (hok : ∀ x ∈ L, Nr x) (hfew : n ≤ 500) :
    Calls Tryz.prog 38 #[sag G S B A n c] w fun e w' => e = .returned (.int .i64 (held L : Int)) ∧ Below w.heap.size w w' := by
  have hm : held L ≤ 500 * 300000 := by
    have h1 := held_le hok
    have h2 : L.length = n := by rw [← hL, ← hn]; simp [pns]
    rw [h2] at h1
    exact Nat.le_trans h1 (Nat.mul_le_mul_right _ hfew)
  have bx : Bk (w.alloc (.cells (sac G S B A n c) 31)) w.heap.size 31 (sac G S B A n c) := Bk.new w _ _
  have b0 : Below w.heap.size w (w.alloc (.cells (sac G S B A n c) 31)) := (Below.refl _ _).alloc (Nat.le_refl _) _
  have HN := Lib.hid hn
  have HL := Lib.hid hL
  clear hn hL
  go_enter Tryz.func38, Tryz.ntmps38
  go_wp2
  obtain ⟨X, hX⟩ : ∃ X, w.alloc (.cells (sac G S B A n c) 31) = X := ⟨_, rfl⟩
  obtain ⟨g, hg⟩ : ∃ g, w.heap.size = g := ⟨_, rfl⟩
  rw [hX] at bx b0 ⊢
  rw [hg] at bx ⊢
  clear hX hg
  go_loopw [3, 4] (fun v i wr => ∃ k : Nat, v = .int .i64 (held (L.take k) : Int) ∧ i = .int .i64 (k : Int) ∧ k ≤ n ∧ Below X.heap.size X wr) (fun _ i _ => n - (intOf i).toNat)
  case atStart => exact ⟨0, by simp [held], rfl, Nat.zero_le _, Below.refl _ _⟩
  case round =>
    obtain ⟨k, rfl, rfl, hk, hb⟩ := hrel
    have x3 : wr.cell? ⟨g, 3, none⟩ = some (.slice A n c) := (bx.below hb).cell 3
    by_cases hlt : k < n
    · have hltz : (k : Int) < (n : Int) := by omega
      have hkl : k < M.length := by rw [HN.out]; exact hlt
      obtain ⟨ad, pp, rfl, hpp, F⟩ := ((h.below b0).below hb).get hkl
      have hA := ((h.below b0).below hb).ats _ (List.getElem_mem hkl)
      have hkL : k < L.length := by rw [← HL.out]; simpa [pns] using hkl
      have hx : L[k]'hkL = (M[k].s, M[k].l) := by
        have : ∀ (T : List Pn) (e : pns M = T) (h : k < T.length), T[k] = (M[k].s, M[k].l) := fun T e h => by subst e; exact B07.pns_get M hkl
        exact this _ HL.out hkL
      have hst := held_take hkL
      have hmx := held_part L (k + 1)
      have hr := hok _ (List.getElem_mem hkL)
      rw [hx] at hst hr
      obtain ⟨⟨s, A1, c1, l1⟩, hMk⟩ : ∃ x, M[k] = x := ⟨_, rfl⟩
      rw [hMk] at F hA hst hr
      dsimp only at hA hst hr
      obtain ⟨m, hm1⟩ : ∃ m, l1.length = m := ⟨_, rfl⟩
      have TE := TenW.of F hm1
      have e0 := TE.c0
      have e1 := TE.c1
      have e2 := TE.c2
      have e3 := TE.c3
      have e4 := TE.c4
      have e5 := TE.c5
      have e6 := TE.c6
      have e7 := TE.c7
      have e8 := TE.c8
      have e9 := TE.c9
      obtain ⟨z, hz⟩ : ∃ z, sz (s, l1) = z := ⟨_, rfl⟩
      rw [hz] at hst
      have hrs := refsize_any s A1 c1 m z l1 wr hA hm1 hr hz
      obtain ⟨u, hu⟩ : ∃ u, held (L.take k) = u := ⟨_, rfl⟩
      obtain ⟨v, hv⟩ : ∃ v, held (L.take (k + 1)) = v := ⟨_, rfl⟩
      rw [hv] at hmx
      rw [hv, hu] at hst
      rw [hu]
      have kw : (u : Int) + (z : Int) = (v : Int) := by omega
      have hvm : v ≤ 150000000 := by omega
      have huz : u ≤ 150000000 ∧ z ≤ 150000000 := by omega
      obtain ⟨hum, hzm⟩ := huz
      have HV := Lib.hid hv
      have y2 : (0 : Int) ≤ (k : Int) := by omega
      have y3 : ((k : Int)).toNat = k := by omega
      clear F hMk hx hr TE hm1 hz hu hv hst hmx hkl hkL hm
      go_wp2_with fail
      refine hrs.mono ?_
      rintro e w2 ⟨rfl, b2⟩
      have B2 := hb.trans (b2.mono hb.size)
      clear e0 e1 e2 e3 e4 e5 e6 e7 e8 e9 hrs
      go_wp2
      go_roundw
      case rel => exact ⟨k + 1, by rw [HV.out], by go_num, by omega, B2⟩
      case measure => first | go_num | (simp [intOf]; omega)
    · have hltz : ¬ ((k : Int) < (n : Int)) := by omega
      have hkn : k = n := by omega
      have hfin : L.take k = L := List.take_of_length_le (by rw [hkn, ← HL.out, ← HN.out]; simp [pns])
      rw [hfin]
      have HB := Lib.hid (b0.trans (hb.mono b0.size))
      clear hfin
      go_wp2
      go_ret
      exact ⟨rfl, HB.out⟩
theorem trace_take {L : List Pn} {t k : Nat} (h : k < L.length) : trace (L.take (k + 1)) t = trace (L.take k) t ++ (if tn L[k] = t then [L[k]] else []) := by
  rw [List.take_succ_eq_append_getElem h]
  unfold trace
  rw [List.filter_append]
  congr 1
  by_cases e : tn L[k] = t
  · simp [e]
  · simp [e]
set_option maxRecDepth 20000 in
set_option maxHeartbeats 4000000 in
theorem rdead_at (G S B t : Nat) (A : Option Addr) (n c : Nat) (M : List Spn) (L : List Pn) (w : World) (h : Sps w A c M) (hn : M.length = n) (hL : pns M = L) (hok : ∀ x ∈ L, Okx x) (hfew : n ≤ 500) (hG : G ≤ MT) :
    Calls Tryz.prog 45 #[sag G S B A n c, .int .u64 (t : Int)] w fun e w' => e = .returned (.int .u64 ((mx (trace L t) + G : Nat) : Int)) ∧ Below w.heap.size w w' := by
  have bx : Bk (w.alloc (.cells (sac G S B A n c) 31)) w.heap.size 31 (sac G S B A n c) := Bk.new w _ _
  have b0 : Below w.heap.size w (w.alloc (.cells (sac G S B A n c) 31)) := (Below.refl _ _).alloc (Nat.le_refl _) _
  have HN := Lib.hid hn
  have HL := Lib.hid hL
  clear hn hL
  go_enter Tryz.func45, Tryz.ntmps45
  go_wp2
  obtain ⟨X, hX⟩ : ∃ X, w.alloc (.cells (sac G S B A n c) 31) = X := ⟨_, rfl⟩
  obtain ⟨g, hg⟩ : ∃ g, w.heap.size = g := ⟨_, rfl⟩
  rw [hX] at bx b0 ⊢
  rw [hg] at bx ⊢
  clear hX hg
  go_loopw [5, 6] (fun v i wr => ∃ k u : Nat, v = .int .u64 (u : Int) ∧ i = .int .i64 (k : Int) ∧ k ≤ n ∧ Hid (mx (trace (L.take k) t) = u) ∧ u ≤ MT ∧ wr = X) (fun _ i _ => n - (intOf i).toNat)
  case atStart => exact ⟨0, 0, rfl, rfl, Nat.zero_le _, Lib.hid rfl, Nat.zero_le _, rfl⟩
  case round =>
    obtain ⟨k, u, rfl, rfl, hk, HU, hu, rfl⟩ := hrel
    have x3 := bx.cell 3
    have x0 := bx.cell 0
    simp only [List.getElem?_toArray, List.getElem?_cons_zero, List.getElem?_cons_succ] at x0 x3
    by_cases hlt : k < n
    · have hltz : (k : Int) < (n : Int) := by omega
      have hkl : k < M.length := by rw [HN.out]; exact hlt
      obtain ⟨ad, pp, rfl, hpp, F⟩ := (h.below b0).get hkl
      have hkL : k < L.length := by rw [← HL.out]; simpa [pns] using hkl
      have hx : L[k]'hkL = (M[k].s, M[k].l) := by
        have : ∀ (T : List Pn) (e : pns M = T) (h : k < T.length), T[k] = (M[k].s, M[k].l) := fun T e h => by subst e; exact B07.pns_get M hkl
        exact this _ HL.out hkL
      have hst := trace_take (t := t) hkL
      have hr := hok _ (List.getElem_mem hkL)
      rw [hx] at hst hr
      have hT := hr.tn.1
      have hE0 := hr.n.e0
      have hE1 := hr.e
      obtain ⟨⟨s, A1, c1, l1⟩, hMk⟩ : ∃ x, M[k] = x := ⟨_, rfl⟩
      rw [hMk] at F hst hr hT hE0 hE1
      dsimp only at hst hr hT hE0 hE1
      obtain ⟨a, ha⟩ : ∃ a, tn (s, l1) = a := ⟨_, rfl⟩
      obtain ⟨b, hb⟩ := Int.eq_ofNat_of_zero_le hE0
      rw [ha] at hst hT
      have e0 := F.c0
      have e8 := F.c8
      dsimp only at e0 e8
      rw [← hT] at e0
      rw [hb] at e8 hE1
      have hbm : b ≤ MT := by unfold MT; omega
      have hen : en (s, l1) = b := by unfold en; dsimp only; rw [hb]; rfl
      have y2 : (0 : Int) ≤ (k : Int) := by omega
      have y3 : ((k : Int)).toNat = k := by omega
      have hmx : mx (trace (L.take (k + 1)) t) = if a = t then max u b else u := by
        rw [hst, mx_app, HU.out]
        by_cases e : a = t
        · rw [if_pos e, if_pos e]; show max u (max (en (s, l1)) 0) = _; rw [hen]; omega
        · rw [if_neg e, if_neg e]; show max u 0 = _; omega
      have HMX := Lib.hid hmx
      clear F hMk hx hr hst hb hen hkl hkL hmx hE0 hE1 hT ha
      by_cases ht : a = t
      · have htz : (a : Int) = (t : Int) := by omega
        have htb : ((a : Int) == (t : Int)) = true := by simpa using htz
        by_cases hub : u < b
        · have hubz : (u : Int) < (b : Int) := by omega
          go_wp2
          go_roundw
          case rel => exact ⟨k + 1, b, rfl, by go_num, by omega, Lib.hid (by rw [HMX.out, if_pos ht]; omega), hbm, trivial⟩
          case measure => first | go_num | (simp [intOf]; omega)
        · have hubz : ¬ (u : Int) < (b : Int) := by omega
          go_wp2
          go_roundw
          case rel => exact ⟨k + 1, u, rfl, by go_num, by omega, Lib.hid (by rw [HMX.out, if_pos ht]; omega), hu, trivial⟩
          case measure => first | go_num | (simp [intOf]; omega)
      · have htz : ¬ (a : Int) = (t : Int) := by omega
        have htb : ((a : Int) == (t : Int)) = false := by simpa using htz
        go_wp2
        go_roundw
        case rel => exact ⟨k + 1, u, rfl, by go_num, by omega, Lib.hid (by rw [HMX.out, if_neg ht]), hu, trivial⟩
        case measure => first | go_num | (simp [intOf]; omega)
    · have hltz : ¬ ((k : Int) < (n : Int)) := by omega
      have hkn : k = n := by omega
      have hfin : L.take k = L := List.take_of_length_le (by rw [hkn, ← HL.out, ← HN.out]; simp [pns])
      have hmu := HU.out
      rw [hfin] at hmu
      have HB := Lib.hid b0
      obtain ⟨q, hq⟩ : ∃ q, u + G = q := ⟨_, rfl⟩
      have HQ := Lib.hid (show ((mx (trace L t) : Nat) : Int) + (G : Int) = (q : Int) by rw [hmu]; omega)
      have kw : (u : Int) + (G : Int) = (q : Int) := by omega
      have hqm : q ≤ 9223372036854775808 := by unfold MT at hu hG; omega
      clear hfin hmu hq HU
      go_wp2
      go_ret
      exact ⟨by rw [HQ.out]; rfl, HB.out⟩
end Go.Proofs.YtdmibolbpgondaaGreat.X15
end

section
set_option linter.unusedSimpArgs false
set_option linter.unusedVariables false
namespace Go.Proofs.YtdmibolbpgondaaGreat.X15
open Go.RowKit Go.Lib Go.Maps Go.Proofs.YtdmibolbpgondaaGreat.Wd Go.Proofs.YtdmibolbpgondaaGreat.P06
open Go.Proofs.YtdmibolbpgondaaGreat.B07 (Pn OkN OkA OkP Spn Sps pns tenA ten Ten)
open Go.Proofs.YtdmibolbpgondaaGreat.D09 (TenW)
theorem so_tn {L : List Pn} (h : So L) (ok : ∀ x ∈ L, Okx x) {i j : Nat} (hij : i < j) (hj : j < L.length) : tn (L[i]'(by omega)) ≤ tn L[j] := by
  have h1 := List.pairwise_iff_getElem.1 h i j (by omega) hj hij
  have h2 := (ok _ (List.getElem_mem (show i < L.length by omega))).n.a0
  have h3 := (ok _ (List.getElem_mem hj)).n.a0
  unfold Kl at h1
  unfold X15.tn
  omega
theorem mem_take_i {α : Type} {L : List α} {k : Nat} {x : α} (h : x ∈ L.take k) : ∃ i, ∃ hi : i < L.length, i < k ∧ L[i] = x := by
  obtain ⟨i, hi, he⟩ := List.mem_iff_getElem.1 h
  rw [List.length_take] at hi
  rw [List.getElem_take] at he
  exact ⟨i, by omega, by omega, he⟩
theorem trs_new {L : List Pn} (h : So L) (ok : ∀ x ∈ L, Okx x) {k : Nat} (hk : k < L.length) (hn : k = 0 ∨ tn (L[k - 1]'(by omega)) ≠ tn L[k]) : trs (L.take (k + 1)) = trs (L.take k) ++ [tn L[k]] := by
  have hlt : ∀ t ∈ trs (L.take k), t < tn L[k] := fun t ht => by
    obtain ⟨x, hx, rfl⟩ := mem_trs.1 ht
    obtain ⟨i, hi, hik, rfl⟩ := mem_take_i hx
    have h0 : k ≠ 0 := by omega
    have h1 := hn.resolve_left h0
    have h2 := so_tn h ok (i := k - 1) (j := k) (by omega) hk
    by_cases e : i = k - 1
    · subst e; omega
    · have h3 := so_tn h ok (i := i) (j := k - 1) (by omega) (by omega)
      omega
  refine rise_one (trs_rise _) (List.pairwise_append.2 ⟨trs_rise _, List.pairwise_singleton _ _, fun a ha b hb => ?_⟩) fun t => ?_
  · rw [List.mem_singleton.1 hb]; exact hlt a ha
  · rw [List.take_succ_eq_append_getElem hk]
    simp only [mem_trs, List.mem_append, List.mem_singleton]
    constructor
    · rintro ⟨x, hx | rfl, rfl⟩
      · exact .inl ⟨x, hx, rfl⟩
      · exact .inr rfl
    · rintro (⟨x, hx, rfl⟩ | rfl)
      · exact ⟨x, .inl hx, rfl⟩
      · exact ⟨_, .inr rfl, rfl⟩
theorem trs_old {L : List Pn} {k : Nat} (hk : k < L.length) (h0 : 0 < k) (hn : tn (L[k - 1]'(by omega)) = tn L[k]) : trs (L.take (k + 1)) = trs (L.take k) := by
  refine rise_one (trs_rise _) (trs_rise _) fun t => ?_
  rw [List.take_succ_eq_append_getElem hk]
  simp only [mem_trs, List.mem_append, List.mem_singleton]
  constructor
  · rintro ⟨x, hx | rfl, rfl⟩
    · exact ⟨x, hx, rfl⟩
    · exact ⟨_, List.mem_iff_getElem.2 ⟨k - 1, by rw [List.length_take]; omega, by rw [List.getElem_take]⟩, hn⟩
  · rintro ⟨x, hx, rfl⟩
    exact ⟨x, .inl hx, rfl⟩
/-- what Traces tells -/
def RtOut (w : World) (L : List Pn) (e : Ending) (w' : World) : Prop := ∃ U d, e = .returned (.slice U (trs L).length d) ∧ w'.ownsRow w.heap.size 22 1 (.slice U (trs L).length d) (trs L).length ((trs L).map encU) ∧ Below w.heap.size w w'
set_option maxRecDepth 20000 in
set_option maxHeartbeats 4000000 in
theorem rtraces_at (G S B : Nat) (A : Option Addr) (n c : Nat) (M : List Spn) (L : List Pn) (w : World) (h : Sps w A c M) (hn : M.length = n) (hL : pns M = L) (hso : So L) (hok : ∀ x ∈ L, Okx x) (hfew : n ≤ 500) :
    Calls Tryz.prog 44 #[sag G S B A n c] w (RtOut w L) := by
  obtain ⟨i0, hi, hz0, hz1, hz2⟩ := info_parts u64_info
  have bx : Bk (w.alloc (.cells (sac G S B A n c) 31)) w.heap.size 31 (sac G S B A n c) := Bk.new w _ _
  have b0 : Below w.heap.size w (w.alloc (.cells (sac G S B A n c) 31)) := (Below.refl _ _).alloc (Nat.le_refl _) _
  have HN := Lib.hid hn
  have HL := Lib.hid hL
  clear hn hL
  go_enter Tryz.func44, Tryz.ntmps44
  go_wp2
  obtain ⟨X, hX⟩ : ∃ X, w.alloc (.cells (sac G S B A n c) 31) = X := ⟨_, rfl⟩
  obtain ⟨g, hg⟩ : ∃ g, w.heap.size = g := ⟨_, rfl⟩
  rw [hX] at bx b0 ⊢
  have hgX : w.heap.size ≤ X.heap.size := b0.size
  rw [hg] at bx ⊢
  clear hX
  have hown0 : X.ownsRow X.heap.size 22 1 (.slice none 0 0) 0 ((trs (L.take 0)).map encU) := World.ownsRow_nil _ _ _ _
  go_loopw [3, 4] (fun v i wr => ∃ k m : Nat, ∃ U d, v = .slice U m d ∧ i = .int .i64 (k : Int) ∧ k ≤ n ∧ m ≤ k ∧ Hid ((trs (L.take k)).length = m) ∧ wr.ownsRow X.heap.size 22 1 (.slice U m d) m ((trs (L.take k)).map encU) ∧ Below X.heap.size X wr) (fun _ i _ => n - (intOf i).toNat)
  case atStart => exact ⟨0, 0, none, 0, rfl, rfl, Nat.zero_le _, Nat.le_refl _, Lib.hid rfl, hown0, Below.refl _ _⟩
  case round =>
    clear hown0
    obtain ⟨k, m, U, d, rfl, rfl, hk, hmk, HM, hown, hb⟩ := hrel
    have x3 : wr.cell? ⟨g, 3, none⟩ = some (.slice A n c) := (bx.below hb).cell 3
    by_cases hlt : k < n
    · have hltz : (k : Int) < (n : Int) := by omega
      have hkl : k < M.length := by rw [HN.out]; exact hlt
      have hkL : k < L.length := by rw [← HL.out]; simpa [pns] using hkl
      have hx : ∀ i (hi : i < L.length), ∃ hi' : i < M.length, L[i]'hi = (M[i].s, M[i].l) := fun i hi => by
        have : ∀ (T : List Pn) (e : pns M = T) (h : i < T.length), ∃ hi' : i < M.length, T[i] = (M[i].s, M[i].l) := fun T e h => by subst e; exact ⟨by simpa [pns] using h, B07.pns_get M _⟩
        exact this _ HL.out hi
      obtain ⟨ad, pp, hA, hpp, F⟩ := ((h.below b0).below hb).get hkl
      obtain ⟨a, ha⟩ : ∃ a, tn (L[k]'hkL) = a := ⟨_, rfl⟩
      have hTa : (a : Int) = (M[k]).s.T ∧ (a : Int) ≤ 18446744073709551615 := by
        have h1 := (hok _ (List.getElem_mem hkL)).tn
        rw [ha] at h1
        obtain ⟨hi', e⟩ := hx k hkL
        rw [e] at h1
        exact h1
      have e0 := F.c0
      rw [← hTa.1] at e0
      have ham := hTa.2
      have hkey : ∃ nb : Bool, (nb = true → trs (L.take (k + 1)) = trs (L.take k) ++ [a]) ∧ (nb = false → trs (L.take (k + 1)) = trs (L.take k)) ∧
          ((k = 0 ∧ nb = true) ∨ ∃ j b : Nat, ∃ pq, k = j + 1 ∧ ad.add (j * 10) = pq ∧ wr.cell? pq = some (.int .u64 (b : Int)) ∧ (nb = true ∧ ¬ a = b ∨ nb = false ∧ a = b)) := by
        cases k with
        | zero => exact ⟨true, fun _ => by rw [trs_new hso hok hkL (.inl rfl), ha], fun e => (by cases e), .inl ⟨rfl, rfl⟩⟩
        | succ j =>
          have hjM : j < M.length := by omega
          have hjL : j < L.length := by omega
          obtain ⟨ad', pq, hA', hpq, F'⟩ := ((h.below b0).below hb).get hjM
          rw [hA] at hA'
          injection hA' with hA'
          subst hA'
          obtain ⟨b, hbq⟩ : ∃ b, tn (L[j]'hjL) = b := ⟨_, rfl⟩
          have hTb : (b : Int) = (M[j]).s.T := by
            have h1 := (hok _ (List.getElem_mem hjL)).tn.1
            rw [hbq] at h1
            obtain ⟨hi', e⟩ := hx j hjL
            rw [e] at h1
            exact h1
          have e0' := F'.c0
          rw [← hTb] at e0'
          by_cases e : a = b
          · exact ⟨false, fun e => (by cases e), fun _ => trs_old hkL (by omega) (by show tn (L[j]'hjL) = _; rw [hbq, ha, e]), .inr ⟨j, b, pq, rfl, hpq, e0', .inr ⟨rfl, e⟩⟩⟩
          · exact ⟨true, fun _ => by rw [trs_new hso hok hkL (.inr (by show tn (L[j]'hjL) ≠ _; rw [hbq, ha]; exact fun h => e h.symm)), ha], fun e => (by cases e), .inr ⟨j, b, pq, rfl, hpq, e0', .inl ⟨rfl, e⟩⟩⟩
      obtain ⟨nb, hk1, hk2, hk3⟩ := hkey
      subst hA
      have HK1 := Lib.hid hk1
      have HK2 := Lib.hid hk2
      have HK3 := Lib.hid hk3
      have y2 : (0 : Int) ≤ (k : Int) := by omega
      have y3 : ((k : Int)).toNat = k := by omega
      clear F hTa ha hx hkl hkL hk1 hk2 hk3
      go_wp2_with fail
      go_cut [29] from 5 to 38 (fun u29 wx => u29 = .bool nb ∧ Below wr.heap.size wr wx)
      case first =>
        rcases HK3.out with ⟨rfl, rfl⟩ | ⟨j, b, pq, hkj, hpq, e1, hc⟩
        · go_quiet (fail)
          go_wp2
          go_meet
          exact ⟨rfl, below_dn (Below.refl _ _) _⟩
        · have z2 : (0 : Int) ≤ (j : Int) := by omega
          have z3 : ((j : Int)).toNat = j := by omega
          have z4 : (k : Int) - 1 = (j : Int) := by omega
          have z5 : ((k : Int) == 0) = false := by simp; omega
          have z6 : j < n := by omega
          clear hkj
          have z7 : (j : Int) < (n : Int) := by omega
          rcases hc with ⟨rfl, hab⟩ | ⟨rfl, rfl⟩
          · have q1 : ((a : Int) == (b : Int)) = false := by simpa using fun e => hab (by omega)
            have q2 : ¬ (a : Int) = (b : Int) := by omega
            go_quiet (fail)
            go_wp2
            go_meet
            exact ⟨by simp [q1, q2], below_dn (Below.refl _ _) _⟩
          · go_quiet (fail)
            go_wp2
            go_meet
            exact ⟨by simp, below_dn (Below.refl _ _) _⟩
      case rest =>
        obtain ⟨rfl, bw⟩ := hcut
        have B2 := hb.trans (bw.mono hb.size)
        cases nb with
        | true =>
          have own1 := own_below hown bw
          have e0w := (bw.cell (World.block_lt_of_cell? _ _ e0)).trans e0
          have x3w := (bw.cell (World.block_lt_of_cell? _ _ x3)).trans x3
          have bl : Below wc.heap.size wc (wc.alloc (.cells #[.int .u64 (a : Int)] 22)) := (Below.refl _ _).alloc (Nat.le_refl _) _
          have own2 := own_below own1 bl
          have hlit : Rd 1 (wc.alloc (.cells #[.int .u64 (a : Int)] 22)) (some ⟨wc.heap.size, 0, none⟩) 1 1 [encU a] := ⟨rfl, fun e => (by cases e), Nat.le_refl _, by unfold maxLen; omega, fun ad ha i u hu => by
            injection ha with ha
            subst ha
            rw [Addr.add_lit, (Bk.new wc _ _).cell]
            simpa using hu⟩
          have hone : ∀ u ∈ [encU a], u.oneCell' = true := fun u hu => by rw [List.mem_singleton.1 hu]; rfl
          have hsz : X.heap.size ≤ wc.heap.size + 1 := by have := B2.size; omega
          clear hown own1 e0 x3 hb bw
          go_wp2_with (at_builtin; refine wpList_append_rd _ rfl (.tmp 30) (.tmp 37) 57 rfl X.heap.size 22 i0 _ 1 8 Tryz.underlying57 hi hz0 hz1 hz2 rfl (by decide) (.slice U m d) m ((trs (L.take k)).map encU) rfl own2 (some ⟨wc.heap.size, 0, none⟩) 1 1 [encU a] rfl hlit hone ?d1 ?d2 ?d3 ?_)
          case d1 => unfold maxLen; omega
          case d2 => omega
          intro A6 c6 w6 hrow6 hg6
          have B6 : Below X.heap.size X w6 := ((Fr.of_below _ (B2.trans (bl.mono B2.size))).then (Fr.of_grown (o := ((Value.slice U m d).ownBlock).toList) hg6 fun q hq => by rw [hq]; simp)).below (Nat.le_refl _) fun x hx => (own2.lt x (by simpa [Option.mem_toList] using hx)).1
          have R6 : w6.ownsRow X.heap.size 22 1 (.slice A6 (m + 1) c6) (m + 1) ((trs (L.take (k + 1))).map encU) := by rw [HK1.out trivial, List.map_append]; exact hrow6
          clear hrow6 hg6 own2 hlit hone hsz
          go_wp2
          go_roundw
          case rel => exact ⟨k + 1, m + 1, A6, c6, rfl, by go_num, by omega, by omega, Lib.hid (by rw [HK1.out trivial, List.length_append, HM.out]; rfl), R6, B6⟩
          case measure => first | go_num | (simp [intOf]; omega)
        | false =>
          go_wp2
          go_roundw
          case rel => exact ⟨k + 1, m, U, d, rfl, by go_num, by omega, by omega, Lib.hid (by rw [HK2.out rfl]; exact HM.out), by rw [HK2.out rfl]; exact own_below hown bw, B2⟩
          case measure => first | go_num | (simp [intOf]; omega)
    · have hltz : ¬ ((k : Int) < (n : Int)) := by omega
      have hkn : k = n := by omega
      have hfin : L.take k = L := List.take_of_length_le (by rw [hkn, ← HL.out, ← HN.out]; simp [pns])
      have hml := HM.out
      rw [hfin] at hml hown
      have HB := Lib.hid (show RtOut w L (.returned (.slice U m d)) wr from ⟨U, d, by rw [hml], by
        rw [hml]
        exact ⟨hown.1, hown.2.elim .inl fun ⟨g, cap, cur, h1, h2, h3⟩ => .inr ⟨g, cap, cur, h1, Nat.le_trans hgX h2, h3⟩⟩, b0.trans (hb.mono b0.size)⟩)
      clear hfin hml HM hown
      go_wp2
      go_ret
      exact HB.out
end Go.Proofs.YtdmibolbpgondaaGreat.X15
end
