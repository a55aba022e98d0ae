/-
  room.shrink: traces let go till there is no more than may be. (Written by gen15/shrink.py.)
-/
import Derived.Test.YtdmibolbpgondaaGreatKX15SortF
import Derived.Test.YtdmibolbpgondaaGreatKTwoOwn
import Derived.Deep.CutRange
set_option linter.unusedSimpArgs false
set_option linter.unusedVariables false
namespace Go.Proofs.YtdmibolbpgondaaGreat.X15
open Go.RowKit Go.Lib Go.Maps Go.Proofs.YtdmibolbpgondaaGreat.Wd Go.Proofs.YtdmibolbpgondaaGreat.P06
open Go.Proofs.YtdmibolbpgondaaGreat.B07 (Pn OkN OkA OkP Spn Sps pns tenA ten Ten ten_one ten_len span_info)
open Go.Proofs.YtdmibolbpgondaaGreat.U12 (It Lt Qu QOut putm dropm isin first_some drew_below)
section
variable {w w' : World} {col col' : Nat → Nat} {p : Pr} {L : List Pn}
/-- what shrink leaves -/
def ShOut (w : World) (col : Nat → Nat) (p : Pr) (L : List Pn) (e : Ending) (w' : World) : Prop :=
  ∃ A c M col' p', e = .returned (.slice A (shrink p.G p.S p.B L).2.length c) ∧ pns M = (shrink p.G p.S p.B L).2 ∧ Out w' col' A c M ∧ Rm w' col' p' (shrink p.G p.S p.B L).1 ∧ Fs w w' col col' ∧ Fix p p'
/-- a state between two rounds -/
structure Sl (w : World) (col : Nat → Nat) (p : Pr) (L0 : List Pn) (A : Option Addr) (n c : Nat) (L : List Pn) (col' : Nat → Nat) (p' : Pr) (M : List Spn) (W : World) : Prop where
  len : M.length = n
  rm : Rm W col' p' L
  fs : Fs w W col col'
  fix : Fix p p'
  fi : p'.fi = p.fi
  sub : ∀ x ∈ L, x ∈ L0
  gone : pns M ++ (shrink p.G p.S p.B L).2 = (shrink p.G p.S p.B L0).2
  stay : (shrink p.G p.S p.B L).1 = (shrink p.G p.S p.B L0).1
  row : W.ownsRow w.heap.size 45 10 (.slice A n c) n (M.flatMap ten)
  hd : ∀ y ∈ M, Hd 0 W y.A y.c y.l ∧ ∀ a, y.A = some a → col' a.block = 0 ∧ a.block < w.heap.size
  a0 : ∀ a, A = some a → col' a.block = 0
theorem Sl.few {L0 M : List _} {A : Option Addr} {n c : Nat} {p' : Pr} (h : Sl w col p L0 A n c L col' p' M w') : n + (shrink p.G p.S p.B L).2.length = (shrink p.G p.S p.B L0).2.length := by
  have := congrArg List.length h.gone
  simp only [List.length_append, pns, List.length_map, h.len] at this
  exact this
/-- the values of a trace's map are of old -/
theorem low (h : Sm w col p L (trs L)) {t i : Nat} (ht : t ∈ trs L) {y : Spn} (hv : p.fi t i = some (sval y)) : ∀ a, y.A = some a → a.block < w.heap.size := fun a ha => by
  obtain ⟨z, e, _, _, hd, _⟩ := h.val ht hv
  have e1 : tenA y = tenA z := by injection e
  have e2 := congrArg (fun q : Array Value => q[9]?) e1
  have e3 : some (Value.slice y.A y.l.length y.c) = some (Value.slice z.A z.l.length z.c) := e2
  injection e3 with e3
  injection e3 with e3
  exact (B07.Hd.lt hd a (by rw [← e3]; exact ha)).2
theorem Fs.fresh {W W' : World} {o : List Nat} (h : Fs w W col col') (f : Fr o W W') (ho : ∀ x ∈ o, w.heap.size ≤ x) : Fs w W' col col' :=
  ⟨h.fr.trans f fun x hx => .inr (ho x hx), h.old, h.five⟩
theorem row_kept {base n : Nat} {e : TypeId} {v : Value} {xs : List Value} (h : w.ownsRow base e 10 v n xs) (hk : ∀ k, v.ownBlock = some k → w'.heap[k]? = w.heap[k]?) : w'.ownsRow base e 10 v n xs := by
  refine ⟨h.1, ?_⟩
  rcases h.2 with h1 | ⟨g, cap, cur, hv, hb, hg, h4⟩
  · exact .inl h1
  · exact .inr ⟨g, cap, cur, hv, hb, (hk g (by rw [hv]; rfl)).trans hg, h4⟩
/-- one trace more is gone -/
theorem Sl.grow {L0 : List Pn} {M : List Spn} {A : Option Addr} {n c : Nat} {p1 : Pr} {col1 : Nat → Nat} {W : World} (h0 : Sm w col p L0 (trs L0)) (h : Sl w col p L0 A n c L col1 p1 M W)
    (hb : big p.S p.B L = true) {t : Nat} (ht : first p.G L = t) {W1 : World} (b1 : Below W.heap.size W W1) {A2 : Option Addr} {c2 m : Nat} {M2 : List Spn} {col2 : Nat → Nat} {p2 : Pr} {W2 : World}
    (hM2 : pns M2 = trace L t) (hm : M2.length = m) (hO : Out W2 col2 A2 c2 M2) (hR : Rm W2 col2 p2 (rest L t)) (hF : Fs W1 W2 col1 col2) (hX : Fix p1 p2) (hfi : p2.fi = p1.fi) (hvs : ∀ y ∈ M2, ∃ i, p1.fi t i = some (sval y)) :
    W2.ownsRow w.heap.size 45 10 (.slice A n c) n (M.flatMap ten) ∧ ∀ A' c' W3, W3.ownsRow w.heap.size 45 10 (.slice A' (n + m) c') (n + m) (M.flatMap ten ++ M2.flatMap ten) → W2.grownBy W3 (Value.slice A n c).ownBlock →
      ((Value.slice A' (n + m) c').ownBlock = (Value.slice A n c).ownBlock ∨ (Value.slice A' (n + m) c').ownBlock = some W2.heap.size) → Sl w col p L0 A' (n + m) c' (rest L t) col2 p2 (M ++ M2) W3 := by
  have hk0 : ∀ k, (Value.slice A n c).ownBlock = some k → col1 k = 0 ∧ w.heap.size ≤ k ∧ k < W.heap.size := fun k hk => by
    have h1 := h.row.lt k hk
    cases hA : A with
    | none => rw [hA] at hk; cases hk
    | some a =>
      have e : a.block = k := by rw [hA] at hk; exact Option.some.inj hk
      exact ⟨by rw [← e]; exact h.a0 a hA, h1⟩
  have F1 : Fs w W1 col col1 := h.fs.trans (Fs.below b1)
  have F2 := F1.trans hF
  have hrow2 : W2.ownsRow w.heap.size 45 10 (.slice A n c) n (M.flatMap ten) := row_kept h.row fun k hk => by
    obtain ⟨k1, k2, k3⟩ := hk0 k hk
    exact (hF.fr.block k (Nat.lt_of_lt_of_le k3 b1.size) fun hm => (mem_ow.1 hm).2.1 k1).trans (b1.block k k3)
  refine ⟨hrow2, fun A' c' W3 hrow3 hg hat => ?_⟩
  obtain ⟨o, ho⟩ : ∃ o, ((Value.slice A n c).ownBlock).toList = o := ⟨_, rfl⟩
  have hin : ∀ x, x ∈ o ↔ (Value.slice A n c).ownBlock = some x := fun x => by rw [← ho]; simp [Option.mem_toList]
  have f : Fr o W2 W3 := Fr.of_grown hg fun k hk => (hin k).2 hk
  have hc2 : ∀ k, k < W1.heap.size → col1 k = 0 → col2 k = 0 := fun k hk h1 => by
    by_cases e : col2 k = 0
    · exact e
    · exact absurd h1 ((hF.old k hk).1 e)
  have hoc : ∀ x ∈ o, col2 x = 0 ∧ w.heap.size ≤ x := fun x hx => by
    obtain ⟨k1, k2, k3⟩ := hk0 x ((hin x).1 hx)
    exact ⟨hc2 x (Nat.lt_of_lt_of_le k3 b1.size) k1, k2⟩
  have hn : L ≠ [] := fun e => by subst e; rw [big_nil] at hb; cases hb
  have htL : t ∈ trs L := by rw [← ht]; exact (first_in hn).1
  have htr0 : ∀ u, u ∈ trs L → u ∈ trs L0 := fun u hu => by
    obtain ⟨x, h1, h2⟩ := mem_trs.1 hu
    exact mem_trs.2 ⟨x, h.sub x h1, h2⟩
  have htr1 : ∀ u, u ∈ trs (rest L t) → u ∈ trs L := fun u hu => by
    obtain ⟨x, h1, h2⟩ := mem_trs.1 hu
    exact mem_trs.2 ⟨x, (mem_rest.1 h1).1, h2⟩
  have hg2 := shrink_go (G := p.G) hb
  rw [ht] at hg2
  have hsm : Sm W3 col2 p2 (rest L t) (trs (rest L t)) := by
    have k := hR.sm
    refine ⟨k.so, k.ok, k.bi, k.qi, k.nt, k.ne, fun u hu x hx => ?_, k.fn, k.ni, k.mi, k.dq⟩
    obtain ⟨y, h1, h2, h3, h4⟩ := k.fi u hu x hx
    refine ⟨y, h1, h2, hd_fr h3 f fun a ha hm => ?_, h4⟩
    have h5 : p.fi u (idn x) = some (sval y) := by rw [← h.fi, ← hfi]; exact h2
    have := low h0 (htr0 u (htr1 u hu)) h5 a ha
    have := (hoc _ hm).2
    omega
  refine ⟨by simp [h.len, hm], ⟨hR.rx.same f fun x hx => (hoc x hx).1, hsm, hR.n, hR.h⟩, F2.fresh f fun x hx => (hoc x hx).2, h.fix.trans hX, hfi.trans h.fi, fun x hx => h.sub x (mem_rest.1 hx).1, ?_, ?_, by rw [List.flatMap_append]; exact hrow3, fun y hy => ?_, fun a ha => ?_⟩
  · rw [← h.gone, hg2]
    have : pns (M ++ M2) = pns M ++ pns M2 := by simp [pns]
    rw [this, hM2, List.append_assoc]
  · rw [← h.stay, hg2]
  · have key : ∀ {y : Spn}, Hd 0 W2 y.A y.c y.l → (∀ a, y.A = some a → a.block < w.heap.size) → Hd 0 W3 y.A y.c y.l := fun hy hl => hd_fr hy f fun a ha hm => by
      have := hl a ha
      have := (hoc _ hm).2
      omega
    rcases List.mem_append.1 hy with hy | hy
    · obtain ⟨k1, k2⟩ := h.hd y hy
      obtain ⟨k3, k4⟩ := hd_fs (k1.below b1) hF fun a ha => (k2 a ha).1
      exact ⟨key k3 fun a ha => (k2 a ha).2, fun a ha => ⟨k4 a ha, (k2 a ha).2⟩⟩
    · obtain ⟨i, hi⟩ := hvs y hy
      have hl : ∀ a, y.A = some a → a.block < w.heap.size := low h0 (htr0 t htL) (by rw [← h.fi]; exact hi)
      exact ⟨key (hO.hd y hy) hl, fun a ha => ⟨hO.c0 y hy a ha, hl a ha⟩⟩
  · rcases hat with e | e
    · rw [ha] at e
      obtain ⟨k1, k2, k3⟩ := hk0 a.block e.symm
      exact hc2 _ (Nat.lt_of_lt_of_le k3 b1.size) k1
    · rw [ha] at e
      have e : a.block = W2.heap.size := Option.some.inj e
      rw [e]
      exact hR.rx.new0
set_option maxRecDepth 20000 in
set_option maxHeartbeats 8000000 in
theorem shrink_at (h : Rm w col p L) (hfew : L.length ≤ 500) :
    Calls Tryz.prog 33 #[.pointer (some ⟨p.r, 0, none⟩)] w (ShOut w col p L) := by
  have mixed : Tryz.prog.follows .mixedOrders = true := by kernel_rfl
  obtain ⟨i0, hi, hz0, hz1, hz2⟩ := info_parts span_info
  have hS0 : Sl w col p L none 0 0 L col p [] w := ⟨rfl, h, Fs.refl _ _, Fix.refl p, rfl, fun _ h => h, rfl, rfl, World.ownsRow_nil _ _ _ _, fun _ h => (by cases h), fun _ h => by cases h⟩
  have hsl : (shrink p.G p.S p.B L).2.length ≤ 500 := by have := shrink_len (G := p.G) (S := p.S) (B := p.B) L; omega
  go_enter Tryz.func33, Tryz.ntmps33
  go_wp2_with fail
  go_loopw [3] (fun v wr => ∃ A n c L' col' p' M, v = .slice A n c ∧ Sl w col p L A n c L' col' p' M wr) (fun _ wr => match wr.cell? ⟨p.r, 3, none⟩ with | some v => (intOf v).toNat | none => 0)
  case atStart => exact ⟨none, 0, 0, L, col, p, [], rfl, hS0⟩
  case round =>
    clear hS0
    obtain ⟨A, n, c, L', col', p', M, rfl, R⟩ := hrel
    have hl1 : L'.length ≤ 500 := by
      have h1 := shrink_len (G := p.G) (S := p.S) (B := p.B) L
      have h2 := shrink_len (G := p.G) (S := p.S) (B := p.B) L'
      have h3 := R.few
      rw [R.stay] at h2
      omega
    have hn1 : n ≤ 500 := by have := R.few; omega
    have hnc : n + (trace L' (first p.G L')).length ≤ 1000 := by have := part_len L' (first p.G L'); omega
    have cl := R.rm.rx.cl
    have er := R.fix.r
    have c1 := cl.c1
    have c2 := cl.c2
    have c3 := cl.c3
    have c4 := cl.c4
    have c6 := cl.c6
    rw [R.rm.n] at c3
    rw [R.rm.h] at c4
    rw [er] at c1 c2 c3 c4 c6
    rw [R.fix.S] at c1
    rw [R.fix.B] at c2
    obtain ⟨m, hm⟩ : ∃ m, L'.length = m := ⟨_, rfl⟩
    obtain ⟨hh, hhd⟩ : ∃ hh, held L' = hh := ⟨_, rfl⟩
    have hbig : big p.S p.B L' = (decide (p.S < m) || decide (p.B < hh)) := by unfold big; rw [hm, hhd]
    rw [hm] at c3
    rw [hhd] at c4
    rw [hm] at hl1
    have HM := Lib.hid hm
    have HB := Lib.hid hbig
    have HR := Lib.hid R
    have HNC := Lib.hid hnc
    clear R cl er hm hhd hbig hnc
    go_wp2_with fail
    go_cut [30] from 7 to 44 (fun u30 wx => u30 = .bool (decide (p.S < m ∨ p.B < hh)) ∧ Below wr.heap.size wr wx)
    case first =>
      by_cases h1 : p.S < m
      · have k1 : (p.S : Int) < (m : Int) := by omega
        go_quiet (fail)
        go_wp2
        go_meet
        exact ⟨by simp [h1], below_dn (Below.refl _ _) _⟩
      · have k1 : ¬ (p.S : Int) < (m : Int) := by omega
        by_cases h2 : p.B < hh
        · have k2 : (p.B : Int) < (hh : Int) := by omega
          go_quiet (fail)
          go_wp2
          go_meet
          exact ⟨by simp [h2], below_dn (Below.refl _ _) _⟩
        · have k2 : ¬ (p.B : Int) < (hh : Int) := by omega
          go_quiet (fail)
          go_wp2
          go_meet
          exact ⟨by simp [h1, h2], below_dn (Below.refl _ _) _⟩
    case rest =>
      obtain ⟨rfl, bx⟩ := hcut
      by_cases hb : p.S < m ∨ p.B < hh
      · have hbg : big p.S p.B L' = true := by rw [HB.out]; simpa using hb
        have hbd : decide (p.S < m ∨ p.B < hh) = true := by simpa using hb
        rw [hbd]
        have R := HR.out
        have hn0 : L' ≠ [] := fun e => by subst e; rw [big_nil] at hbg; cases hbg
        obtain ⟨hft, m', hdq⟩ := first_in (G := p.G) hn0
        obtain ⟨t, ht⟩ : ∃ t, first p.G L' = t := ⟨_, rfl⟩
        rw [ht] at hft hdq
        have hnk := HNC.out
        rw [ht] at hnk
        obtain ⟨k, hk⟩ : ∃ k, (trace L' t).length = k := ⟨_, rfl⟩
        rw [hk] at hnk
        obtain ⟨o, hQ, ho⟩ := (R.rm.rx.below bx).dl
        have hdq2 : p'.dq = (t, dl p.G L' t) :: m' := by rw [R.rm.sm.dq, R.fix.G]; exact hdq
        rw [hdq2] at hQ
        have hfirst := first_some _ hQ
        have c6' := (R.rm.rx.below bx).cl.c6
        rw [R.fix.r] at c6'
        have hl2 : L'.length ≤ 500 := by rw [HM.out]; exact hl1
        have htake := fun W1 (b : Below wr.heap.size wr W1) => take_at (R.rm.below b) t hft hl2
        rw [R.fix.r] at htake
        dsimp only at hfirst
        clear hQ ho hdq hdq2 c1 c2 c4 c6 hn0 hb hbd
        go_wp2_with fail
        refine hfirst.mono ?_
        rintro e w1 ⟨rfl, b1⟩
        have bW := bx.trans (b1.mono bx.size)
        have htk := htake w1 bW
        go_wp2_with fail
        refine htk.mono ?_
        rintro e w2 ⟨A2, c2, M2, col2, p2, rfl, hM2, hO, hRm, hF, hX, hfi, hvs⟩
        rw [hk]
        have hmk : M2.length = k := by rw [← hk, ← hM2]; simp [pns]
        have R := HR.out
        obtain ⟨hrow2, hgr⟩ := Sl.grow h.sm R hbg ht bW hM2 hmk hO hRm hF hX hfi hvs
        have hrd2 : Rd 10 w2 A2 k c2 (M2.flatMap ten) := by have := hO.rd; rw [hmk] at this; exact this
        have hone : ∀ u ∈ M2.flatMap ten, u.oneCell' = true := fun u hu => by
          obtain ⟨y, _, h⟩ := List.mem_flatMap.1 hu
          exact ten_one y u h
        have hsz : w.heap.size ≤ w2.heap.size := Nat.le_trans R.fs.fr.size (Nat.le_trans bW.size hF.fr.size)
        have HGR := Lib.hid hgr
        have HLT := Lib.hid (rest_less hft)
        clear hgr hM2 hmk hO hRm hF hX hfi hvs R hfirst htake htk c6' hbg ht hk b1 bW bx hft
        go_wp2_with (at_builtin; refine append_rd_at _ rfl (.tmp 40) (.tmp 43) 38 rfl w.heap.size 45 i0 _ 10 112 Tryz.underlying38 hi hz0 hz1 hz2 rfl (by decide) (.slice A n c) n (M.flatMap ten) rfl hrow2 A2 k c2 (M2.flatMap ten) rfl hrd2 hone ?d1 ?d2 ?d3 ?_)
        case d1 => unfold maxLen; omega
        case d2 => omega
        case d3 => exact hsz
        intro A6 c6 w6 hrow6 hg6 hat6
        have R6 := HGR.out A6 c6 w6 hrow6 hg6 hat6
        have c3' := R6.rm.rx.cl.c3
        rw [R6.rm.n, R6.fix.r] at c3'
        have hlt := HLT.out
        rw [HM.out] at hlt
        clear hrow6 hg6 hat6 hrow2 hrd2 hone HGR
        go_wp2
        go_roundw
        case rel => exact ⟨A6, n + k, c6, _, _, _, _, rfl, R6⟩
        case measure =>
          rw [c3, c3']
          simp [intOf]
          omega
      · have hbg : big p.S p.B L' = false := by
          rw [HB.out]
          simp only [not_or] at hb
          simp [hb.1, hb.2]
        have hbd : decide (p.S < m ∨ p.B < hh) = false := by simpa using hb
        rw [hbd]
        have R := HR.out
        have hno := shrink_no (G := p.G) hbg
        have hnl : (shrink p.G p.S p.B L).2.length = n := by have := R.few; rw [hno] at this; simpa using this.symm
        have O : Out wr col' A c M := ⟨Rd.own (by rw [R.len]; exact R.row), fun y hy => (R.hd y hy).1, fun a ha => ⟨R.a0 a ha, (R.row.lt a.block (by rw [ha]; rfl)).2⟩, fun y hy a ha => ((R.hd y hy).2 a ha).1⟩
        have HFin := Lib.hid (show ShOut w col p L (.returned (.slice A n c)) wc from
          ⟨A, c, M, col', p', by rw [hnl], by have := R.gone; rw [hno, List.append_nil] at this; exact this, O.below bx, by rw [← R.stay, hno]; exact R.rm.below bx, R.fs.trans (Fs.below bx), R.fix⟩)
        clear hno hnl O R hbg hbd hb
        go_wp2
        go_returns
        exact HFin.out
end
end Go.Proofs.YtdmibolbpgondaaGreat.X15
