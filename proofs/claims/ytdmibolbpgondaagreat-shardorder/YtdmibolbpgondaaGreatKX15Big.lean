/-
  How many attributes a span of a parameter can have: what memory holds of them.
  A shard of the law's own: what may be, one span more, a trace taken, one line a call.
-/
import Derived.Test.YtdmibolbpgondaaGreatKB7Open
import Derived.SizedLaws
import Derived.Deep.Slices
import Derived.Test.YtdmibolbpgondaaGreatKX15Wide
import Derived.Test.YtdmibolbpgondaaGreatKX15Ou4
section
set_option linter.unusedSimpArgs false
set_option linter.unusedVariables false
namespace Go.Proofs.YtdmibolbpgondaaGreat.X15
open Go.RowKit Go.Lib Go.ChangeShapes Go.WideShapes Go.Deep Go.Proofs.YtdmibolbpgondaaGreat.Wd Go.Proofs.YtdmibolbpgondaaGreat.P06
open Go.Proofs.YtdmibolbpgondaaGreat.B07 (Spn Sps pns ten)
section
variable {H : Type} {enc' : TypeId × Value → H} {w : World} {base : Nat} {spare : Nat → Bool} {held : Bool}
theorem weights_mem_all {P : Program} {e : TypeId} : ∀ {l : List (DataW H)} {d : DataW H}, d ∈ l → ∀ q ∈ d.weights P e, q ∈ DataW.weightsAll P e l
  | y :: l, d, hd, q, hq => by
    rw [DataW.weightsAll, List.mem_append]
    rcases List.mem_cons.1 hd with rfl | hd
    · exact .inl hq
    · exact .inr (weights_mem_all hd q hq)
set_option maxRecDepth 20000 in
theorem attrs_sized {n m c : Nat} {A : Option Addr} {x : DataW H × List MemPlace} (h : DataW.trod enc' Tryz.prog w base spare held n 32 [.slice A m c] = some x) (hz : ∀ q ∈ x.1.weights Tryz.prog 32, q ≤ reachBytes) : m * 48 ≤ reachBytes := by
  have hb : Tryz.prog.bytesOf 81 = 48 := by kernel_rfl
  rcases open_slice Tryz.underlying32 h with ⟨h0, _⟩ | ⟨a, len, cap, k, n', D, Pl, hcs, _, hl, _, hk, rfl, _⟩
  · simp only [List.cons.injEq, and_true] at h0
    injection h0 with _ e _
    subst e
    simp
  · simp only [List.cons.injEq, and_true] at hcs
    injection hcs with _ e _
    subst e
    have h1 := hz (((List.range m).map D).length * 48 + (List.range (k - m)).length * 48) (by
      simp only [DataW.weights, Tryz.underlying32, hb, List.length_map, List.length_range]
      rw [← Nat.add_mul]
      exact List.mem_cons_self ..)
    simp only [List.length_map, List.length_range] at h1
    omega
set_option maxRecDepth 20000 in
theorem span_sized {n m c : Nat} {A : Option Addr} {cs : List Value} {x : DataW H × List MemPlace} (h : DataW.trod enc' Tryz.prog w base spare held n 34 cs = some x) (hz : ∀ q ∈ x.1.weights Tryz.prog 34, q ≤ reachBytes) (h9 : cs[9]? = some (.slice A m c)) : m * 48 ≤ reachBytes := by
  have z23 : Tryz.prog.cellsOf 32 = 1 := by kernel_rfl
  have z10 : Tryz.prog.cellsOf 34 = 10 := by kernel_rfl
  obtain ⟨xs, n', _, rfl, hl, hlen, hg⟩ := DataW.trod_struct Tryz.underlying34 h
  rw [z10] at hl
  match cs, hl with
  | [c0, c1, c2, c3, c4, c5, c6, c7, c8, c9], _ =>
    match xs, hlen with
    | [y0, y1, y2, y3, y4, y5, y6, y7, y8, y9], _ =>
      have g9 := hg 9 _ rfl
      simp only [z23, List.drop_zero, List.drop_succ_cons, List.take_succ_cons, List.take_zero, List.getElem?_cons_zero, List.getElem?_cons_succ, List.getElem_toArray, List.getElem_cons_zero, List.getElem_cons_succ] at g9
      simp only [List.getElem?_cons_zero, List.getElem?_cons_succ, Option.some.injEq] at h9
      subst h9
      refine attrs_sized g9 fun q hq => hz q ?_
      simp only [DataW.weights, Tryz.underlying34]
      exact DataW.weights_mem_each (j := 9) rfl rfl q hq
set_option maxRecDepth 20000 in
/-- no span of a parameter has more attributes than memory can hold -/
theorem sps_sized {fuel : Nat} {x : DataW H × List MemPlace} {a : Option Addr} {len cap : Nat} {L : List Spn}
    (h : DataW.trod enc' Tryz.prog w base spare held fuel 29 (Value.slice a len cap).cells.toList = some x) (hz : ∀ q ∈ x.1.weights Tryz.prog 29, q ≤ reachBytes)
    (hS : Sps w a cap L) (hL : L.length = len) : ∀ y ∈ L, y.l.length * 48 ≤ 140737488355328 := by
  have z10 : Tryz.prog.cellsOf 34 = 10 := by kernel_rfl
  intro y hy
  obtain ⟨i, hi, rfl⟩ := List.mem_iff_getElem.1 hy
  have hr := reachBytes_lt
  have h : DataW.trod enc' Tryz.prog w base spare held fuel 29 [Value.slice a len cap] = some x := h
  rcases open_slice Tryz.underlying29 h with ⟨h0, _⟩ | ⟨a', len', cap', k, n', D, Pl, hcs, _, hl, _, hk, rfl, hx⟩
  · simp only [List.cons.injEq, and_true] at h0
    injection h0 with _ e _
    omega
  · simp only [List.cons.injEq, and_true] at hcs
    injection hcs with e1 e2 e3
    subst e1 e2 e3
    have hlk : len ≤ k := by rw [hk]; split <;> omega
    obtain ⟨cs', hc, ht⟩ := hx i (by omega)
    obtain ⟨ad, p, hA, hp, F⟩ := hS.get hi
    cases hA
    rw [z10] at hc
    obtain ⟨_, _, hat⟩ := World.cells?_some hc
    have h9 : cs'[9]? = some (.slice L[i].A L[i].l.length L[i].c) := by
      rw [← hat 9 (by omega), hp, B07.add_pos _ _ (by omega)]
      exact F.c9
    have := span_sized ht (fun q hq => hz q (by
      simp only [DataW.weights, Tryz.underlying29]
      exact List.mem_cons_of_mem _ (List.mem_append_left _ (weights_mem_all (List.mem_map.2 ⟨i, List.mem_range.2 (by omega), rfl⟩) q hq)))) h9
    omega
end
end Go.Proofs.YtdmibolbpgondaaGreat.X15
end

section
set_option linter.unusedSimpArgs false
set_option linter.unusedVariables false
namespace Go.Proofs.YtdmibolbpgondaaGreat.X15
open Go.RowKit Go.Lib Go.Maps Go.Proofs.YtdmibolbpgondaaGreat.Wd Go.Proofs.YtdmibolbpgondaaGreat.P06
open Go.Proofs.YtdmibolbpgondaaGreat.B07 (Pn OkN OkA OkP Spn Sps pns tenA ten)
/-- a span that may be -/
def May (x : Pn) : Prop := chk x.1 true = 0 ∧ Amb x.2
theorem chk_no (s : Sp) : chk s false ≠ 0 := by
  unfold chk
  repeat' split
  all_goals first | omega | simp at *
theorem chk_may {x : Pn} {b : Bool} (hb : b = true ↔ Amb x.2) : chk x.1 b = 0 ↔ May x := by
  unfold May
  cases b with
  | true => exact ⟨fun h => ⟨h, hb.1 rfl⟩, fun h => h.1⟩
  | false => exact ⟨fun h => absurd h (chk_no _), fun h => absurd (hb.2 h.2) (by decide)⟩
theorem may_okx {x : Pn} (h : May x) (hN : OkN x.1) (hr : Nr x) : Okx x := by
  refine ⟨hN, ?_, hr⟩
  have h1 := h.1
  unfold chk at h1
  by_cases e : 4611686018427387904 < x.1.t1
  · exfalso
    revert h1
    repeat' split
    all_goals first | omega | (intro h1; omega)
  · omega
theorem amb_bool (l : List At) : ∃ b : Bool, b = true ↔ Amb l := by
  by_cases h : Amb l
  · exact ⟨true, by simp [h]⟩
  · exact ⟨false, by simp [h]⟩
theorem big_rest {S B : Nat} {L : List Pn} (h : big S B L = false) (t : Nat) : big S B (rest L t) = false := by
  unfold big at *
  simp only [Bool.or_eq_false_iff, decide_eq_false_iff_not] at *
  have := part_len L t
  have := part_held L t
  omega
/-- one span more: what is told, what stays, what is twice, what is gone -/
def Ad (G S B : Nat) (L : List Pn) (x : Pn) (k : Int) (L' T g : List Pn) : Prop := (k = 0 ∧ May x ∧ L' = (add G S B L x).1 ∧ T = (add G S B L x).2.1 ∧ g = (add G S B L x).2.2) ∨ (k = 1 ∧ ¬ May x ∧ L' = L ∧ T = [] ∧ g = [])
/-- the law's shard -/
structure Lw (w0 : World) (col : Nat → Nat) (sp : Nat) (p : Pr) (L : List Pn) (W : World) : Prop where
  sd : Sd W col sp p L
  ok : big p.S p.B L = false
  bel : Below w0.heap.size w0 W
  new : ∀ x, col x ≠ 0 → col x ≠ 5 → w0.heap.size ≤ x
section
variable {w0 w w' : World} {col col' : Nat → Nat} {sp : Nat} {p p' : Pr} {L L' : List Pn}
theorem Lw.below (h : Lw w0 col sp p L w) (hb : Below w.heap.size w w') : Lw w0 col sp p L w' := ⟨h.sd.below hb, h.ok, h.bel.trans (hb.mono h.bel.size), h.new⟩
theorem Lw.fs (h : Lw w0 col sp p L w) (F : Fs w w' col col') (R : Sd w' col' sp p' L') (ok : big p'.S p'.B L' = false) : Lw w0 col' sp p' L' w' := by
  refine ⟨R, ok, ((Fr.of_below _ h.bel).trans F.fr fun x hx => .inr (h.new x (mem_ow.1 hx).2.1 (mem_ow.1 hx).2.2)).below (Nat.le_refl _) (o := []) fun x hx => (by cases hx), fun x h1 h2 => ?_⟩
  by_cases e : x < w.heap.size
  · exact h.new x ((F.old x e).1 h1) fun e5 => h2 ((F.five x e).2 e5)
  · have := h.bel.size; omega
theorem Fs.size (F : Fs w w' col col') : w.heap.size ≤ w'.heap.size := F.fr.size
/-- a row in nobody's block stays -/
theorem us_fs {A : Option Addr} {c : Nat} {l : List Nat} (h : Us w A c l) (F : Fs w w' col col') (h0 : ∀ a, A = some a → col a.block = 0 ∧ a.block < w.heap.size) : Us w' A c l ∧ ∀ a, A = some a → col' a.block = 0 ∧ a.block < w'.heap.size := by
  refine ⟨⟨rd_block h.1 fun a ha => F.fr.block _ (h0 a ha).2 fun hm => (mem_ow.1 hm).2.1 (h0 a ha).1, h.2⟩, fun a ha => ⟨?_, Nat.lt_of_lt_of_le (h0 a ha).2 F.fr.size⟩⟩
  by_cases e : col' a.block = 0
  · exact e
  · exact absurd (h0 a ha).1 ((F.old _ (h0 a ha).2).1 e)
theorem Rx.fresh (h : Rx w col p) {x : Nat} (hx : w.heap.size ≤ x) : col x = 0 := by
  by_cases e : col x = 0
  · exact e
  · have := h.lt x e; omega
def AcOut (w0 w : World) (col : Nat → Nat) (sp : Nat) (p : Pr) (L : List Pn) (x : Pn) (e : Ending) (w' : World) : Prop :=
  ∃ A1 c1 M1 A2 c2 M2 k L' T g col' p', e = .returned (.tuple #[.agg #[.slice A1 (List.length T) c1, .slice A2 (List.length g) c2], .int .i64 k]) ∧ Ad p.G p.S p.B L x k L' T g ∧ pns M1 = T ∧ pns M2 = g ∧
    Out w' col' A1 c1 M1 ∧ Out w' col' A2 c2 M2 ∧ Lw w0 col' sp p' L' w' ∧ Fs w w' col col' ∧ Fix p p'
theorem Lw.add (h : Lw w0 col sp p L w) (s : Sp) (A : Option Addr) (c n : Nat) (l : List At) (hn : l.length = n) (hN : OkN s) (hr : Nr (s, l)) (hd : Hd 0 w A c l) (hfew : L.length ≤ 400) (hG : p.G ≤ MT) :
    Calls Tryz.prog 10 #[.pointer (some ⟨sp, 0, none⟩), spv s (.slice A n c)] w (AcOut w0 w col sp p L (s, l)) := by
  obtain ⟨b, hb⟩ := amb_bool l
  by_cases hc : chk s b = 0
  · have hm : May (s, l) := (chk_may (x := (s, l)) hb).1 hc
    refine (add_right h.sd h.ok s A c n l hn (may_okx hm hN hr) hd b hb hc hfew hG).mono ?_
    rintro e w' ⟨A1, c1, M1, A2, c2, M2, col', p', rfl, h1, h2, h3, h4, h5, h6, h7⟩
    refine ⟨A1, c1, M1, A2, c2, M2, 0, _, _, _, col', p', rfl, .inl ⟨rfl, hm, rfl, rfl, rfl⟩, h1, h2, h3, h4, h.fs h6 h5 ?_, h6, h7⟩
    rw [h7.S, h7.B, add_puts h.ok]
    exact shrink_ok _ _ _ _
  · have hm : ¬ May (s, l) := fun e => hc ((chk_may (x := (s, l)) hb).2 e)
    refine (add_wrong (sp := sp) s A c n l w hn (by rw [← hn]; exact hr.few) hd b hb hc).mono ?_
    rintro e w' ⟨rfl, hb'⟩
    exact ⟨none, 0, [], none, 0, [], 1, L, [], [], col, p, rfl, .inr ⟨rfl, hm, rfl, rfl, rfl⟩, rfl, rfl, Out.nil _ _, Out.nil _ _, h.below hb', Fs.below hb', Fix.refl _⟩
def TaOut (w0 w : World) (col : Nat → Nat) (sp : Nat) (p : Pr) (L : List Pn) (t : Nat) (e : Ending) (w' : World) : Prop :=
  ∃ A c M col' p', e = .returned (.tuple #[.slice A (trace L t).length c, .bool (decide (t ∈ trs L))]) ∧ pns M = trace L t ∧ Out w' col' A c M ∧ Lw w0 col' sp p' (rest L t) w' ∧ Fs w w' col col' ∧ Fix p p'
theorem trace_out {L : List Pn} {t : Nat} (h : t ∉ trs L) : trace L t = [] := Classical.byContradiction fun e => h (trs_trace.2 e)
theorem rest_out {L : List Pn} {t : Nat} (h : t ∉ trs L) : rest L t = L := List.filter_eq_self.2 fun x hx => by
  have : tn x ≠ t := fun e => h (mem_trs.2 ⟨x, hx, e⟩)
  simpa using this
theorem Lw.take (h : Lw w0 col sp p L w) (t : Nat) (ht : (t : Int) ≤ 18446744073709551615) (hfew : L.length ≤ 500) :
    Calls Tryz.prog 16 #[.pointer (some ⟨sp, 0, none⟩), .int .u64 (t : Int)] w (TaOut w0 w col sp p L t) := by
  by_cases hin : t ∈ trs L
  · refine (stake_in h.sd t hin hfew).mono ?_
    rintro e w' ⟨A, c, M, col', p', rfl, h1, h2, h3, h4, h5⟩
    exact ⟨A, c, M, col', p', by rw [decide_eq_true hin], h1, h2, h.fs h4 h3 (by rw [h5.S, h5.B]; exact big_rest h.ok t), h4, h5⟩
  · have hbi : p.bi t = none := by
      cases e : p.bi t with
      | none => rfl
      | some b => exact absurd ((h.sd.rm.sm.bi t).1 (by rw [e]; rfl)) hin
    refine (stake_core ht h.sd.all (pr := fun p' => p' = p) fun p' e => by rw [e]; exact hbi).mono ?_
    rintro e w' ⟨rfl, hb⟩
    refine ⟨none, 0, [], col, p, by rw [decide_eq_false hin, trace_out hin]; rfl, by rw [trace_out hin]; rfl, Out.nil _ _, ?_, Fs.below hb, Fix.refl _⟩
    rw [rest_out hin]
    exact h.below hb
end
end Go.Proofs.YtdmibolbpgondaaGreat.X15
end
