/-
  A shard of the law's own: what may be, one span more, a trace taken, one line a call.
  Traces taken one behind the other; who is due: in plain lists.
  The walk of ShardTakes.
-/
import Derived.Test.YtdmibolbpgondaaGreatKX15Add
import Derived.Test.YtdmibolbpgondaaGreatKX15Ou4
import Derived.Test.YtdmibolbpgondaaGreatKX15SortS
import Derived.Deep.CutRange
section
set_option linter.unusedSimpArgs false
set_option linter.unusedVariables false
namespace Go.Proofs.YtdmibolbpgondaaGreat.X15
open Go.RowKit Go.Lib Go.Maps Go.Proofs.YtdmibolbpgondaaGreat.Wd Go.Proofs.YtdmibolbpgondaaGreat.P06
open Go.Proofs.YtdmibolbpgondaaGreat.B07 (Pn OkN OkA OkP Spn Sps pns tenA ten)
/-- a span that may be -/
def May (x : Pn) : Prop := chk x.1 true = 0 ∧ Amb x.2
theorem chk_no (s : Sp) : chk s false ≠ 0 := by
  unfold chk
  repeat' split
  all_goals first | omega | simp at *
theorem chk_may {x : Pn} {b : Bool} (hb : b = true ↔ Amb x.2) : chk x.1 b = 0 ↔ May x := by
  unfold May
  cases b with
  | true => exact ⟨fun h => ⟨h, hb.1 rfl⟩, fun h => h.1⟩
  | false => exact ⟨fun h => absurd h (chk_no _), fun h => absurd (hb.2 h.2) (by decide)⟩
theorem may_okx {x : Pn} (h : May x) (hN : OkN x.1) (hr : Nr x) : Okx x := by
  refine ⟨hN, ?_, hr⟩
  have h1 := h.1
  unfold chk at h1
  by_cases e : 4611686018427387904 < x.1.t1
  · exfalso
    revert h1
    repeat' split
    all_goals first | omega | (intro h1; omega)
  · omega
theorem amb_bool (l : List At) : ∃ b : Bool, b = true ↔ Amb l := by
  by_cases h : Amb l
  · exact ⟨true, by simp [h]⟩
  · exact ⟨false, by simp [h]⟩
theorem big_rest {S B : Nat} {L : List Pn} (h : big S B L = false) (t : Nat) : big S B (rest L t) = false := by
  unfold big at *
  simp only [Bool.or_eq_false_iff, decide_eq_false_iff_not] at *
  have := part_len L t
  have := part_held L t
  omega
/-- one span more: what is told, what stays, what is twice, what is gone -/
def Ad (G S B : Nat) (L : List Pn) (x : Pn) (k : Int) (L' T g : List Pn) : Prop := (k = 0 ∧ May x ∧ L' = (add G S B L x).1 ∧ T = (add G S B L x).2.1 ∧ g = (add G S B L x).2.2) ∨ (k = 1 ∧ ¬ May x ∧ L' = L ∧ T = [] ∧ g = [])
/-- the law's shard -/
structure Lw (w0 : World) (col : Nat → Nat) (sp : Nat) (p : Pr) (L : List Pn) (W : World) : Prop where
  sd : Sd W col sp p L
  ok : big p.S p.B L = false
  bel : Below w0.heap.size w0 W
  new : ∀ x, col x ≠ 0 → col x ≠ 5 → w0.heap.size ≤ x
section
variable {w0 w w' : World} {col col' : Nat → Nat} {sp : Nat} {p p' : Pr} {L L' : List Pn}
theorem Lw.below (h : Lw w0 col sp p L w) (hb : Below w.heap.size w w') : Lw w0 col sp p L w' := ⟨h.sd.below hb, h.ok, h.bel.trans (hb.mono h.bel.size), h.new⟩
theorem Lw.fs (h : Lw w0 col sp p L w) (F : Fs w w' col col') (R : Sd w' col' sp p' L') (ok : big p'.S p'.B L' = false) : Lw w0 col' sp p' L' w' := by
  refine ⟨R, ok, ((Fr.of_below _ h.bel).trans F.fr fun x hx => .inr (h.new x (mem_ow.1 hx).2.1 (mem_ow.1 hx).2.2)).below (Nat.le_refl _) (o := []) fun x hx => (by cases hx), fun x h1 h2 => ?_⟩
  by_cases e : x < w.heap.size
  · exact h.new x ((F.old x e).1 h1) fun e5 => h2 ((F.five x e).2 e5)
  · have := h.bel.size; omega
theorem Fs.size (F : Fs w w' col col') : w.heap.size ≤ w'.heap.size := F.fr.size
/-- a row in nobody's block stays -/
theorem us_fs {A : Option Addr} {c : Nat} {l : List Nat} (h : Us w A c l) (F : Fs w w' col col') (h0 : ∀ a, A = some a → col a.block = 0 ∧ a.block < w.heap.size) : Us w' A c l ∧ ∀ a, A = some a → col' a.block = 0 ∧ a.block < w'.heap.size := by
  refine ⟨⟨rd_block h.1 fun a ha => F.fr.block _ (h0 a ha).2 fun hm => (mem_ow.1 hm).2.1 (h0 a ha).1, h.2⟩, fun a ha => ⟨?_, Nat.lt_of_lt_of_le (h0 a ha).2 F.fr.size⟩⟩
  by_cases e : col' a.block = 0
  · exact e
  · exact absurd (h0 a ha).1 ((F.old _ (h0 a ha).2).1 e)
theorem Rx.fresh (h : Rx w col p) {x : Nat} (hx : w.heap.size ≤ x) : col x = 0 := by
  by_cases e : col x = 0
  · exact e
  · have := h.lt x e; omega
def AcOut (w0 w : World) (col : Nat → Nat) (sp : Nat) (p : Pr) (L : List Pn) (x : Pn) (e : Ending) (w' : World) : Prop :=
  ∃ A1 c1 M1 A2 c2 M2 k L' T g col' p', e = .returned (.tuple #[.agg #[.slice A1 (List.length T) c1, .slice A2 (List.length g) c2], .int .i64 k]) ∧ Ad p.G p.S p.B L x k L' T g ∧ pns M1 = T ∧ pns M2 = g ∧
    Out w' col' A1 c1 M1 ∧ Out w' col' A2 c2 M2 ∧ Lw w0 col' sp p' L' w' ∧ Fs w w' col col' ∧ Fix p p'
theorem Lw.add (h : Lw w0 col sp p L w) (s : Sp) (A : Option Addr) (c n : Nat) (l : List At) (hn : l.length = n) (hN : OkN s) (hr : Nr (s, l)) (hd : Hd 0 w A c l) (hfew : L.length ≤ 400) (hG : p.G ≤ MT) :
    Calls Tryz.prog 10 #[.pointer (some ⟨sp, 0, none⟩), spv s (.slice A n c)] w (AcOut w0 w col sp p L (s, l)) := by
  obtain ⟨b, hb⟩ := amb_bool l
  by_cases hc : chk s b = 0
  · have hm : May (s, l) := (chk_may (x := (s, l)) hb).1 hc
    refine (add_right h.sd h.ok s A c n l hn (may_okx hm hN hr) hd b hb hc hfew hG).mono ?_
    rintro e w' ⟨A1, c1, M1, A2, c2, M2, col', p', rfl, h1, h2, h3, h4, h5, h6, h7⟩
    refine ⟨A1, c1, M1, A2, c2, M2, 0, _, _, _, col', p', rfl, .inl ⟨rfl, hm, rfl, rfl, rfl⟩, h1, h2, h3, h4, h.fs h6 h5 ?_, h6, h7⟩
    rw [h7.S, h7.B, add_puts h.ok]
    exact shrink_ok _ _ _ _
  · have hm : ¬ May (s, l) := fun e => hc ((chk_may (x := (s, l)) hb).2 e)
    refine (add_wrong (sp := sp) s A c n l w hn (by rw [← hn]; exact hr.few) hd b hb hc).mono ?_
    rintro e w' ⟨rfl, hb'⟩
    exact ⟨none, 0, [], none, 0, [], 1, L, [], [], col, p, rfl, .inr ⟨rfl, hm, rfl, rfl, rfl⟩, rfl, rfl, Out.nil _ _, Out.nil _ _, h.below hb', Fs.below hb', Fix.refl _⟩
def TaOut (w0 w : World) (col : Nat → Nat) (sp : Nat) (p : Pr) (L : List Pn) (t : Nat) (e : Ending) (w' : World) : Prop :=
  ∃ A c M col' p', e = .returned (.tuple #[.slice A (trace L t).length c, .bool (decide (t ∈ trs L))]) ∧ pns M = trace L t ∧ Out w' col' A c M ∧ Lw w0 col' sp p' (rest L t) w' ∧ Fs w w' col col' ∧ Fix p p'
theorem trace_out {L : List Pn} {t : Nat} (h : t ∉ trs L) : trace L t = [] := Classical.byContradiction fun e => h (trs_trace.2 e)
theorem rest_out {L : List Pn} {t : Nat} (h : t ∉ trs L) : rest L t = L := List.filter_eq_self.2 fun x hx => by
  have : tn x ≠ t := fun e => h (mem_trs.2 ⟨x, hx, e⟩)
  simpa using this
theorem Lw.take (h : Lw w0 col sp p L w) (t : Nat) (ht : (t : Int) ≤ 18446744073709551615) (hfew : L.length ≤ 500) :
    Calls Tryz.prog 16 #[.pointer (some ⟨sp, 0, none⟩), .int .u64 (t : Int)] w (TaOut w0 w col sp p L t) := by
  by_cases hin : t ∈ trs L
  · refine (stake_in h.sd t hin hfew).mono ?_
    rintro e w' ⟨A, c, M, col', p', rfl, h1, h2, h3, h4, h5⟩
    exact ⟨A, c, M, col', p', by rw [decide_eq_true hin], h1, h2, h.fs h4 h3 (by rw [h5.S, h5.B]; exact big_rest h.ok t), h4, h5⟩
  · have hbi : p.bi t = none := by
      cases e : p.bi t with
      | none => rfl
      | some b => exact absurd ((h.sd.rm.sm.bi t).1 (by rw [e]; rfl)) hin
    refine (stake_core ht h.sd.all (pr := fun p' => p' = p) fun p' e => by rw [e]; exact hbi).mono ?_
    rintro e w' ⟨rfl, hb⟩
    refine ⟨none, 0, [], col, p, by rw [decide_eq_false hin, trace_out hin]; rfl, by rw [trace_out hin]; rfl, Out.nil _ _, ?_, Fs.below hb, Fix.refl _⟩
    rw [rest_out hin]
    exact h.below hb
end
end Go.Proofs.YtdmibolbpgondaaGreat.X15
end

section
set_option linter.unusedSimpArgs false
set_option linter.unusedVariables false
namespace Go.Proofs.YtdmibolbpgondaaGreat.X15
open Go.Proofs.YtdmibolbpgondaaGreat.P06
open Go.Proofs.YtdmibolbpgondaaGreat.B07 (Pn OkN OkA OkP)
open Go.Proofs.YtdmibolbpgondaaGreat.U12 (It Lt)
theorem mem_tk {α : Type} {L : List α} {k : Nat} {x : α} (h : x ∈ L.take k) : ∃ i, ∃ hi : i < L.length, i < k ∧ L[i] = x := by
  obtain ⟨i, hi, he⟩ := List.mem_iff_getElem.1 h
  rw [List.length_take] at hi
  rw [List.getElem_take] at he
  exact ⟨i, by omega, by omega, he⟩
/-- without these traces -/
def rems (L : List Pn) : List Nat → List Pn
  | [] => L
  | t :: ts => rems (rest L t) ts
theorem rems_app (L : List Pn) (ts us : List Nat) : rems L (ts ++ us) = rems (rems L ts) us := by
  induction ts generalizing L with
  | nil => rfl
  | cons t ts ih => exact ih _
theorem mem_rems {L : List Pn} {ts : List Nat} {x : Pn} : x ∈ rems L ts ↔ x ∈ L ∧ tn x ∉ ts := by
  induction ts generalizing L with
  | nil => simp [rems]
  | cons t ts ih =>
    rw [rems, ih, mem_rest]
    simp only [List.mem_cons, not_or]
    constructor
    · rintro ⟨⟨a, b⟩, c⟩; exact ⟨a, b, c⟩
    · rintro ⟨a, b, c⟩; exact ⟨⟨a, b⟩, c⟩
theorem rems_trace {L : List Pn} {ts : List Nat} {t : Nat} (h : t ∉ ts) : trace (rems L ts) t = trace L t := by
  induction ts generalizing L with
  | nil => rfl
  | cons u ts ih =>
    simp only [List.mem_cons, not_or] at h
    rw [rems, ih h.2, trace_rest_other h.1]
theorem rems_so {L : List Pn} (h : So L) (ts : List Nat) : So (rems L ts) := by
  induction ts generalizing L with
  | nil => exact h
  | cons t ts ih => exact ih (rest_so h t)
theorem rems_len (L : List Pn) (ts : List Nat) : (rems L ts).length ≤ L.length := by
  induction ts generalizing L with
  | nil => exact Nat.le_refl _
  | cons t ts ih =>
    have := ih (rest L t)
    have := part_len L t
    rw [rems]
    omega
theorem rems_step {L : List Pn} {ts : List Nat} {k : Nat} (h : k < ts.length) : rems L (ts.take (k + 1)) = rest (rems L (ts.take k)) ts[k] := by
  rw [List.take_succ_eq_append_getElem h, rems_app]
  rfl
theorem rems_all {L : List Pn} {ts : List Nat} (h : ∀ t, t ∈ trs L → t ∈ ts) : rems L ts = [] := by
  refine List.eq_nil_iff_forall_not_mem.2 fun x hx => ?_
  obtain ⟨h1, h2⟩ := mem_rems.1 hx
  exact h2 (h _ (mem_trs.2 ⟨x, h1, rfl⟩))
theorem rems_in {L : List Pn} {ts : List Nat} {t : Nat} (h : t ∈ trs L) (hn : t ∉ ts) : t ∈ trs (rems L ts) := by
  rw [trs_trace, rems_trace hn]
  exact trs_trace.1 h
/-- all of a list's traces, by their deadlines -/
abbrev als (G : Nat) (L : List Pn) : List Nat := (dqs G L).map (·.1)
theorem als_len (G : Nat) (L : List Pn) : (als G L).length = (trs L).length := by rw [List.length_map, dqs_len]
theorem als_nodup (G : Nat) (L : List Pn) : (als G L).Nodup := dqs_nodup G L
theorem mem_als {G : Nat} {L : List Pn} {t : Nat} : t ∈ als G L ↔ t ∈ trs L := by
  rw [List.mem_map]
  constructor
  · rintro ⟨y, hy, rfl⟩
    obtain ⟨u, hu, rfl⟩ := mem_dqs.1 hy
    exact hu
  · intro h
    exact ⟨_, mem_dqs.2 ⟨t, h, rfl⟩, rfl⟩
theorem due_als {G : Nat} {L : List Pn} {m : Nat} (h : ∀ t ∈ trs L, dl G L t ≤ m) : due G L m = als G L := by
  unfold due U12.due
  rw [List.filter_eq_self.2]
  intro x hx
  obtain ⟨t, ht, rfl⟩ := mem_dqs.1 hx
  simpa using h t ht
theorem due_len (G : Nat) (L : List Pn) (m : Nat) : (due G L m).length ≤ (als G L).length := by
  unfold due U12.due
  rw [List.length_map, List.length_map]
  exact List.length_filter_le _ _
theorem tw_len {α : Type} (p : α → Bool) : ∀ (l : List α) (i : Nat) (h : i < l.length) , (l.Pairwise fun a b => p b = true → p a = true) → (i < (l.takeWhile p).length ↔ p l[i] = true)
  | [], _, h, _ => by simp at h
  | x :: l, i, h, hs => by
    have h1 := List.pairwise_cons.1 hs
    by_cases hx : p x = true
    · rw [List.takeWhile_cons_of_pos hx]
      cases i with
      | zero => simp [hx]
      | succ i =>
        have := tw_len p l i (by simpa using h) h1.2
        simpa using this
    · rw [List.takeWhile_cons_of_neg hx]
      cases i with
      | zero => simp [hx]
      | succ i =>
        have hi : i < l.length := by simpa using h
        have : ¬ p l[i] = true := fun e => hx (h1.1 _ (List.getElem_mem hi) e)
        simp [this]
theorem due_iff (G : Nat) (L : List Pn) (m : Nat) {i : Nat} (h : i < (als G L).length) : i < (due G L m).length ↔ dl G L (als G L)[i] ≤ m := by
  have hd : i < (dqs G L).length := by simpa using h
  have hs := dqs_sorted G L
  have hx := mem_dqs.1 (List.getElem_mem hd)
  obtain ⟨t, ht, e⟩ := hx
  have e1 : (als G L)[i] = t := by rw [List.getElem_map, e]
  have := tw_len (fun x : It => decide (x.2 ≤ m)) (dqs G L) i hd (hs.imp fun {a b} hl => by
    intro h
    have h := of_decide_eq_true h
    unfold Lt at hl
    exact decide_eq_true (by omega))
  unfold due
  rw [List.length_map, U12.due_take hs, this, e1, e]
  simp
theorem due_get (G : Nat) (L : List Pn) (m : Nat) {i : Nat} (h : i < (due G L m).length) : (due G L m)[i] = (als G L)[i]'(Nat.lt_of_lt_of_le h (due_len G L m)) := by
  have hs := dqs_sorted G L
  have key : ∀ (l : List It) (p : It → Bool) (i : Nat) (h : i < (l.takeWhile p).length), (l.takeWhile p)[i] = l[i]'(Nat.lt_of_lt_of_le h (List.takeWhile_prefix p).length_le) := fun l p i h => by
    have := List.takeWhile_prefix (l := l) p
    exact this.getElem h
  unfold due at h ⊢
  simp only [U12.due_take hs] at h ⊢
  rw [List.length_map] at h
  simp only [List.getElem_map, key (dqs G L) _ i h]
theorem dl_le {L : List Pn} (hok : ∀ x ∈ L, Okx x) (t : Nat) : mx (trace L t) ≤ MT := by
  by_cases e : trace L t = []
  · rw [e]; exact Nat.zero_le _
  · obtain ⟨x, h1, h2⟩ := mx_in e
    rw [← h2]
    exact (hok x (mem_trace.1 h1).1).en.2
/-- the spans of a trace: their IDs rise -/
theorem trace_ids {L : List Pn} (h : So L) (hok : ∀ x ∈ L, Okx x) (t : Nat) {i j : Nat} (hij : i < j) (hj : j < (trace L t).length) : idn ((trace L t)[i]'(by omega)) < idn (trace L t)[j] := by
  have h1 := List.pairwise_iff_getElem.1 (trace_so h t) i j (by omega) hj hij
  have a := mem_trace.1 (List.getElem_mem (show i < (trace L t).length by omega))
  have b := mem_trace.1 (List.getElem_mem hj)
  have ka := (hok _ a.1).tn.1
  have kb := (hok _ b.1).tn.1
  have ia := (hok _ a.1).idn.1
  have ib := (hok _ b.1).idn.1
  rw [a.2] at ka
  rw [b.2] at kb
  unfold Kl at h1
  omega
theorem mx_take {X : List Pn} {k : Nat} (h : k < X.length) : mx (X.take (k + 1)) = max (mx (X.take k)) (en X[k]) := by
  rw [List.take_succ_eq_append_getElem h, mx_app]
  simp [mx]
end Go.Proofs.YtdmibolbpgondaaGreat.X15
end

section
set_option linter.unusedSimpArgs false
set_option linter.unusedVariables false
namespace Go.Proofs.YtdmibolbpgondaaGreat.X15
open Go.RowKit Go.Lib Go.Maps Go.Proofs.YtdmibolbpgondaaGreat.Wd Go.Proofs.YtdmibolbpgondaaGreat.P06
open Go.Proofs.YtdmibolbpgondaaGreat.B07 (Pn OkN OkA OkP Spn Sps pns tenA ten Ten)
open Go.Proofs.YtdmibolbpgondaaGreat.D09 (TenW)
theorem ad_len {G S B : Nat} {L : List Pn} {x : Pn} {k : Int} {L' T g : List Pn} (h : Ad G S B L x k L' T g) (hs : So L) (hb : big S B L = false) : L'.length ≤ L.length + 1 := by
  rcases h with ⟨_, _, rfl, _, _⟩ | ⟨_, _, rfl, _, _⟩
  · rw [add_puts hb]
    have h1 := shrink_len (G := G) (S := S) (B := B) (puts L x).1
    have h2 := puts_len L x hs
    show (shrink G S B (puts L x).1).1.length ≤ _
    omega
  · omega
/-- the k-th span of a list that came in, as it lies in memory -/
theorem sps_at {w : World} {A : Option Addr} {c n k : Nat} {M : List Spn} (h : Sps w A c M) (hok : ∀ x ∈ pns M, OkP x) (hn : M.length = n) (hk : k < n) :
    ∃ ad pp s A1 c1 l m, A = some ad ∧ ad.add (k * 10) = pp ∧ TenW w pp s (.slice A1 m c1) ∧ Ats w A1 c1 l ∧ OkN s ∧ l.length = m ∧ m ≤ 9223372036854775807 ∧ (pns M)[k]? = some (s, l) := by
  have hkl : k < M.length := by rw [hn]; exact hk
  obtain ⟨ad, pp, hA, hpp, F⟩ := h.get hkl
  have hT := h.ats _ (List.getElem_mem hkl)
  have hN : OkN M[k].s := (hok M[k].pn (List.mem_map.2 ⟨_, List.getElem_mem hkl, rfl⟩)).1
  have hp : (pns M)[k]? = some (M[k].s, M[k].l) := by rw [List.getElem?_eq_getElem (by simpa [pns] using hkl)]; exact congrArg some (B07.pns_get M hkl)
  generalize M[k] = x at *
  obtain ⟨s, A1, c1, l⟩ := x
  refine ⟨ad, pp, s, A1, c1, l, l.length, hA, hpp, TenW.of F rfl, hT, hN, rfl, ?_, hp⟩
  have h1 := hT.cap
  have h2 := hT.max
  unfold maxLen at h2
  dsimp only at h1 h2
  omega
/-- what the second loop keeps -/
structure Tk (w : World) (sp gap : Nat) (L : List Pn) (al du : List Nat) (U1 : Option Addr) (d1 : Nat) (U2 : Option Addr) (d2 i m : Nat) (W : World) : Prop where
  ex : ∃ col p, Lw w col sp p (rems L (al.take i)) W ∧ p.G = gap ∧ (∀ a, U1 = some a → col a.block = 0 ∧ a.block < W.heap.size) ∧ (∀ a, U2 = some a → col a.block = 0 ∧ a.block < W.heap.size)
  u1 : Us W U1 d1 du
  u2 : Us W U2 d2 al
  sum : m + (rems L (al.take i)).length = L.length
set_option maxRecDepth 200000 in
set_option maxHeartbeats 8000000 in
theorem takes_law (A : Option Addr) (c n : Nat) (M : List Spn) (gap mark : Nat) (w : World) (hS : Sps w A c M) (hok : ∀ x ∈ pns M, OkP x) (hn : M.length = n) (hg : gap ≤ 65535) (hm : (mark : Int) ≤ 18446744073709551615) :
    Calls Tryz.prog 6 #[.slice A n c, .int .u16 (gap : Int), .int .u64 (mark : Int)] w fun e w' => e = .returned (.bool true) ∧ Below w.heap.size w w' := by
  have HN := Lib.hid hn
  have HS := Lib.hid hS
  have HK := Lib.hid hok
  clear hn hS hok
  go_enter Tryz.func6, Tryz.ntmps6
  go_wp2_with fail
  refine (alive_any _).mono ?_
  rintro e w1 ⟨rfl, b1⟩
  by_cases h2 : (30 : Int) < (n : Int)
  · go_wp2
    go_ret
    exact ⟨rfl, b1⟩
  have hnew := snew_right gap 1000 1099511627776 w1 (by unfold MT; omega) (by omega) (by unfold MT; omega)
  go_wp2_with fail
  refine hnew.mono ?_
  rintro e w2 ⟨sp, col, p, rfl, k1, k2, k3, k4, k5, k6, k7⟩
  have HL := Lib.hid (show Lw w col sp p [] w2 ∧ p.G = gap ∧ p.S = 1000 ∧ p.B = 1099511627776 ∧ ([] : List Pn).length ≤ 0 from ⟨⟨k1, big_nil _ _, b1.trans (k7.mono b1.size), fun x hx _ => Nat.le_trans b1.size (k5 x hx)⟩, k2, k3, k4, Nat.le_refl _⟩)
  clear hnew k1 k2 k3 k4 k5 k6 k7 b1
  go_wp2_with fail
  go_loopw [9] (fun v wr => ∃ (k : Nat) (col : Nat → Nat) (p : Pr) (L : List Pn), v = .int .i64 (k : Int) ∧ k ≤ n ∧ Hid (Lw w col sp p L wr ∧ p.G = gap ∧ p.S = 1000 ∧ p.B = 1099511627776 ∧ L.length ≤ k)) (fun v _ => n - (intOf v).toNat)
  case atStart => exact ⟨0, col, p, [], rfl, Nat.zero_le _, HL⟩
  case round =>
    clear HL
    obtain ⟨k, col, p, L, rfl, hk, HL⟩ := hrel
    by_cases hlt : k < n
    · have hltz : (k : Int) < (n : Int) := by omega
      obtain ⟨ad, pp, s, A1, c1, l, m, rfl, hpp, T0, hA, hN, hm1, hmm, -⟩ := sps_at HS.out HK.out HN.out hlt
      obtain ⟨f, hf⟩ : ∃ f, far s l = f := ⟨_, rfl⟩
      have hb := HL.out.1.bel
      have T1 := T0.below hb
      have hfar := far_at s A1 c1 m l f wr (hA.below hb) hm1 hmm hf
      have HT := Lib.hid T0
      have HA := Lib.hid (And.intro hA (And.intro hN hm1))
      have HF := Lib.hid hf
      have e0 := T1.c0
      have e1 := T1.c1
      have e2 := T1.c2
      have e3 := T1.c3
      have e4 := T1.c4
      have e5 := T1.c5
      have e6 := T1.c6
      have e7 := T1.c7
      have e8 := T1.c8
      have e9 := T1.c9
      have y2 : (0 : Int) ≤ (k : Int) := by omega
      have y3 : ((k : Int)).toNat = k := by omega
      clear T0 T1 hA hN hm1 hmm hf hb
      go_wp2_with fail
      change Calls _ _ #[spv s (.slice A1 m c1)] _ _
      refine hfar.mono ?_
      rintro e w3 ⟨rfl, b3⟩
      have HL3 := Lib.hid (And.intro (HL.out.1.below b3) HL.out.2)
      clear HL hfar e0 e1 e2 e3 e4 e5 e6 e7 e8 e9 b3
      cases f with
      | true =>
        have hb := HL3.out.1.bel
        go_wp2
        go_ret
        exact ⟨rfl, hb⟩
      | false =>
        have hr := nr_of (x := (s, l)) HF.out
        have hb := HL3.out.1.bel
        have T1 := HT.out.below hb
        have hof := of_at s A1 c1 m l w3 (HA.out.1.below hb) HA.out.2.2 (by rw [← HA.out.2.2]; exact hr.few)
        have HR := Lib.hid hr
        have e0 := T1.c0
        have e1 := T1.c1
        have e2 := T1.c2
        have e3 := T1.c3
        have e4 := T1.c4
        have e5 := T1.c5
        have e6 := T1.c6
        have e7 := T1.c7
        have e8 := T1.c8
        have e9 := T1.c9
        clear T1 hb hr
        go_wp2_with fail
        change Calls _ _ #[spv s (.slice A1 m c1)] _ _
        refine hof.mono ?_
        rintro e w4 ⟨A3, c3, rfl, hd3, b4⟩
        have HL4 := Lib.hid (And.intro (HL3.out.1.below b4) HL3.out.2)
        have hadd := HL4.out.1.add s A3 c3 m l HA.out.2.2 HA.out.2.1 HR.out (hd3.low (Nat.zero_le _)) (by have := HL4.out.2.2.2.2; omega) (by rw [HL4.out.2.1]; unfold MT; omega)
        clear HL3 hof e0 e1 e2 e3 e4 e5 e6 e7 e8 e9 b4 hd3
        go_wp2_with fail
        refine hadd.mono ?_
        rintro e w5 ⟨A5, c5, M5, A6, c6, M6, kk, L', T, g, col', p', rfl, hAd, -, -, -, -, hL', -, hX⟩
        have HL5 := Lib.hid (show Lw w col' sp p' L' w5 ∧ p'.G = gap ∧ p'.S = 1000 ∧ p'.B = 1099511627776 ∧ L'.length ≤ k + 1 from ⟨hL', hX.G.trans HL4.out.2.1, hX.S.trans HL4.out.2.2.1, hX.B.trans HL4.out.2.2.2.1, Nat.le_trans (ad_len hAd HL4.out.1.sd.rm.sm.so HL4.out.1.ok) (Nat.succ_le_succ HL4.out.2.2.2.2)⟩)
        clear hadd hAd hL' hX HL4
        go_wp2
        go_roundw
        case rel => exact ⟨k + 1, col', p', L', by go_num, by omega, HL5⟩
        case measure => first | go_num | (simp [intOf]; omega)
    · obtain rfl : k = n := by omega
      have hltz : ¬ (k : Int) < (k : Int) := by omega
      have hL30 : L.length ≤ 30 := by have := HL.out.2.2.2.2; omega
      have hG : p.G = gap := HL.out.2.1
      have hh := HL.out.1.sd.held
      obtain ⟨nl, hnl⟩ : ∃ nl, L.length = nl := ⟨_, rfl⟩
      rw [hnl] at hh
      have HNL := Lib.hid hnl
      go_wp2_with fail
      refine hh.mono ?_
      rintro e w3 ⟨rfl, b3⟩
      have H3 := Lib.hid (HL.out.1.below b3)
      have hdu := H3.out.sd.due mark hm
      rw [hG] at hdu
      clear hh b3 HL
      go_wp2_with fail
      refine hdu.mono ?_
      rintro e w4 ⟨U1, d1, rfl, hu1, b4, hn1⟩
      have H4 := Lib.hid (H3.out.below b4)
      have hal : Calls Tryz.prog 19 #[.pointer (some ⟨sp, 0, none⟩), .int .u64 18446744073709551615] w4 (DuOut w4 (due p.G L 18446744073709551615)) := H4.out.sd.due 18446744073709551615 (by omega)
      have hall : due p.G L 18446744073709551615 = als gap L := by
        rw [hG]
        refine due_als fun t ht => ?_
        have := dl_le H4.out.sd.rm.sm.ok t
        unfold dl
        unfold MT at this
        omega
      rw [hall] at hal
      have n1 : ∀ a, U1 = some a → col a.block = 0 ∧ a.block < w4.heap.size := fun a ha => ⟨H3.out.sd.rm.rx.fresh (hn1 a ha).1, (hn1 a ha).2⟩
      have HU1 := Lib.hid (And.intro hu1 n1)
      obtain ⟨du, hdu'⟩ : ∃ du, due gap L mark = du := ⟨_, rfl⟩
      obtain ⟨al, hal'⟩ : ∃ al, als gap L = al := ⟨_, rfl⟩
      have HF := Lib.hid (show du.length ≤ al.length ∧ al.length = (trs L).length ∧ al.Nodup ∧ (∀ t, t ∈ al ↔ t ∈ trs L) ∧ (∀ i (h : i < al.length), i < du.length ↔ dl gap L al[i] ≤ mark) ∧ ∀ i (h : i < du.length) (h2 : i < al.length), du[i] = al[i] from by
        subst hdu' hal'
        exact ⟨due_len _ _ _, als_len _ _, als_nodup _ _, fun t => mem_als, fun i h => due_iff _ _ _ h, fun i h _ => due_get _ _ _ h⟩)
      rw [hdu'] at hu1 ⊢
      rw [hal'] at hal
      rw [hdu'] at HU1
      clear hall hdu hu1 n1 hn1 b4 H3 hdu' hal'
      obtain ⟨nd, hnd⟩ : ∃ nd, du.length = nd := ⟨_, rfl⟩
      have HND := Lib.hid hnd
      rw [hnd]
      clear hnd
      go_wp2_with fail
      refine hal.mono ?_
      rintro e w5 ⟨U2, d2, rfl, hu2, b5, hn2⟩
      have n2 : ∀ a, U2 = some a → col a.block = 0 ∧ a.block < w5.heap.size := fun a ha => ⟨H4.out.sd.rm.rx.fresh (hn2 a ha).1, (hn2 a ha).2⟩
      have H5 := Lib.hid (show Lw w col sp p L w5 ∧ Us w5 U1 d1 du ∧ (∀ a, U1 = some a → col a.block = 0 ∧ a.block < w5.heap.size) ∧ Us w5 U2 d2 al ∧ (∀ a, U2 = some a → col a.block = 0 ∧ a.block < w5.heap.size) from
        ⟨H4.out.below b5, HU1.out.1.below b5, fun a ha => ⟨(HU1.out.2 a ha).1, Nat.lt_of_lt_of_le (HU1.out.2 a ha).2 b5.size⟩, hu2, n2⟩)
      clear hal hu2 n2 hn2 b5 H4 HU1
      obtain ⟨na, hna⟩ : ∃ na, al.length = na := ⟨_, rfl⟩
      have HNA := Lib.hid hna
      rw [hna]
      clear hna
      have htr : Calls Tryz.prog 23 #[.pointer (some ⟨sp, 0, none⟩)] w5 fun e w' => (∃ U d, e = .returned (.slice U na d)) ∧ Below w5.heap.size w5 w' := by
        refine (H5.out.1.sd.traces (by omega)).mono ?_
        rintro e w' ⟨U, d, rfl, -, hb, -⟩
        exact ⟨⟨U, d, by rw [← HNA.out, HF.out.2.1]⟩, hb⟩
      have hnn : ¬ (na : Int) < (nd : Int) := by have := HF.out.1; have := HNA.out; have := HND.out; omega
      have hnl30 : nl ≤ 30 := by omega
      have hna30 : na ≤ 30 := by have := HF.out.2.1; have := HNA.out; have := trs_len L; omega
      have hnd30 : nd ≤ 30 := by omega
      go_wp2_with fail
      refine htr.mono ?_
      rintro e w6 ⟨⟨U3, d3, rfl⟩, b6⟩
      have HT0 := Lib.hid (show Tk w sp gap L al du U1 d1 U2 d2 0 0 w6 from ⟨⟨col, p, H5.out.1.below b6, hG, fun a ha => ⟨(H5.out.2.2.1 a ha).1, Nat.lt_of_lt_of_le (H5.out.2.2.1 a ha).2 b6.size⟩, fun a ha => ⟨(H5.out.2.2.2.2 a ha).1, Nat.lt_of_lt_of_le (H5.out.2.2.2.2 a ha).2 b6.size⟩⟩, H5.out.2.1.below b6, H5.out.2.2.2.1.below b6, by simp [rems]⟩)
      have HOK := Lib.hid (And.intro H5.out.1.sd.rm.sm.so H5.out.1.sd.rm.sm.ok)
      clear htr H5 b6 hG
      go_wp2_with fail
      (try rw [show decide (na < nd) = false from decide_eq_false (by omega)])
      go_loopw [14, 15] (fun v14 v15 wr => ∃ (i m : Nat), v14 = .int .i64 (m : Int) ∧ v15 = .int .i64 (i : Int) ∧ i ≤ na ∧ m ≤ 30 ∧ Hid (Tk w sp gap L al du U1 d1 U2 d2 i m wr)) (fun _ v15 _ => na - (intOf v15).toNat)
      case atStart => exact ⟨0, 0, rfl, rfl, Nat.zero_le _, by omega, HT0⟩
      case round =>
        clear HT0
        obtain ⟨i, m, rfl, rfl, hi, hm30, HT⟩ := hrel
        by_cases hin : i < na
        · have hiz : (i : Int) < (na : Int) := by omega
          obtain ⟨col1, p1, hLw, hG1, hc1, hc2⟩ := HT.out.ex
          have hia : i < al.length := by rw [HNA.out]; exact hin
          obtain ⟨ad2, hU2, hcell, hbd⟩ := HT.out.u2.get hia
          obtain ⟨t, ht⟩ : ∃ t, al[i] = t := ⟨_, rfl⟩
          rw [ht] at hcell hbd
          have htin : t ∈ trs L := (HF.out.2.2.2.1 t).1 (by rw [← ht]; exact List.getElem_mem hia)
          have htn : t ∉ al.take i := fun hx => by
            obtain ⟨j, hj, hji, e⟩ := mem_tk hx
            have := List.pairwise_iff_getElem.1 HF.out.2.2.1 j i hj hia hji
            rw [e, ht] at this
            exact this rfl
          have htr := rems_in htin htn
          have hX : trace (rems L (al.take i)) t = trace L t := rems_trace htn
          obtain ⟨X, hXe⟩ : ∃ X, trace L t = X := ⟨_, rfl⟩
          obtain ⟨d, hd⟩ : ∃ d, dl gap L t = d := ⟨_, rfl⟩
          have hde := hLw.sd.dead htr
          have hdl : dl p1.G (rems L (al.take i)) t = d := by rw [← hd]; unfold dl; rw [hX, hG1]
          rw [hdl] at hde
          have hrl := rems_len L (al.take i)
          have HI := Lib.hid (show (i < nd ↔ d ≤ mark) ∧ (∀ (h : i < du.length), du[i] = t) ∧ mx X + gap = d ∧ X ≠ [] ∧ (∀ x ∈ X, tn x = t ∧ Okx x) ∧ (∀ a b (hab : a < b) (hb : b < X.length), idn (X[a]'(by omega)) < idn X[b]) from by
            refine ⟨?_, fun h => ?_, ?_, ?_, fun x hx => ?_, fun a b hab hb => ?_⟩
            · rw [← HND.out, HF.out.2.2.2.2.1 i hia, ht, hd]
            · rw [HF.out.2.2.2.2.2 i h hia, ht]
            · rw [← hXe, ← hd]; rfl
            · rw [← hXe]; exact trs_trace.1 htin
            · rw [← hXe] at hx
              exact ⟨(mem_trace.1 hx).2, HOK.out.2 x (mem_trace.1 hx).1⟩
            · subst hXe
              exact trace_ids HOK.out.1 HOK.out.2 t hab hb)
          obtain ⟨nx, hnx⟩ : ∃ nx, X.length = nx := ⟨_, rfl⟩
          have hpl := part_len (rems L (al.take i)) t
          rw [hX, hXe, hnx] at hpl
          have hstep := rems_step (L := L) hia
          rw [ht] at hstep
          have HPL := Lib.hid (show m + nx + (rems L (al.take (i + 1))).length = L.length from by rw [hstep]; have := HT.out.sum; omega)
          have HST := Lib.hid hstep
          subst hU2
          have HLw := Lib.hid hLw
          have HU := Lib.hid (And.intro HT.out.u1 (And.intro HT.out.u2 (And.intro hc1 (And.intro hc2 hG1))))
          have htake : ∀ W, Below wr.heap.size wr W → Calls Tryz.prog 16 #[.pointer (some ⟨sp, 0, none⟩), .int .u64 (t : Int)] W fun e w' => ∃ A4 c4 M4 col4 p4, e = .returned (.tuple #[.slice A4 nx c4, .bool true]) ∧ pns M4 = X ∧ Out w' col4 A4 c4 M4 ∧ Lw w col4 sp p4 (rems L (al.take (i + 1))) w' ∧ Fs W w' col1 col4 ∧ Fix p1 p4 := fun W hW => by
            refine ((HLw.out.below hW).take t hbd (by omega)).mono ?_
            rintro e w' ⟨A4, c4, M4, col4, p4, rfl, q1, q2, q3, q4, q5⟩
            rw [hX, hXe] at q1 ⊢
            rw [HST.out]
            exact ⟨A4, c4, M4, col4, p4, by rw [decide_eq_true htr, hnx], q1, q2, q3, q4, q5⟩
          have hnx30 : nx ≤ 30 ∧ m + nx ≤ 30 := by
            have := HPL.out
            have := HNL.out
            omega
          have HNX := Lib.hid hnx
          have y2 : (0 : Int) ≤ (i : Int) := by omega
          have y3 : ((i : Int)).toNat = i := by omega
          clear hLw hG1 hc1 hc2 hbd ht htin htn htr hX hXe hd hdl hrl hnx hpl hstep HT
          go_wp2_with fail
          refine hde.mono ?_
          rintro e w7 ⟨rfl, b7⟩
          have hcell7 : w7.cell? (ad2.add i) = some (.int .u64 (t : Int)) := (b7.cell (World.block_lt_of_cell? _ _ hcell)).trans hcell
          have htk := htake w7 b7
          have HB7 := Lib.hid b7
          clear hde hcell htake b7
          go_wp2_with fail
          refine htk.mono ?_
          rintro e w8 ⟨A4, c4, M4, col4, p4, rfl, q1, q2, q3, q4, q5⟩
          have F := (Fs.below (col := col1) HB7.out).trans q4
          have v1 := us_fs HU.out.1 F HU.out.2.2.1
          have v2 := us_fs HU.out.2.1 F HU.out.2.2.2.1
          have HT := Lib.hid (show Tk w sp gap L al du U1 d1 (some ad2) d2 (i + 1) (m + nx) w8 from ⟨⟨col4, p4, q3, q5.G.trans HU.out.2.2.2.2, v1.2, v2.2⟩, v1.1, v2.1, HPL.out⟩)
          have HO := Lib.hid (And.intro q2.sps q1)
          have hl7 : ad2.block < w7.heap.size := by
            have := World.block_lt_of_cell? _ _ hcell7
            rwa [add_block] at this
          have hk8 : w8.heap[ad2.block]? = w7.heap[ad2.block]? := q4.fr.block _ hl7 fun hx => (mem_ow.1 hx).2.1 (HU.out.2.2.2.1 ad2 rfl).1
          have hcell8 : w8.cell? (ad2.add i) = some (.int .u64 (t : Int)) := (World.cell?_of_block (by rw [add_block]; exact hk8)).trans hcell7
          clear hl7 hk8
          clear htk hcell7 HB7 HU F v1 v2 q1 q2 q3 q4 q5 HLw HPL HST
          go_wp2_with fail
          go_loopw [20, 21] (fun v20 v21 wr => ∃ (k e : Nat), v20 = .int .u64 (e : Int) ∧ v21 = .int .i64 (k : Int) ∧ k ≤ nx ∧ e ≤ MT ∧ Hid (mx (X.take k) = e) ∧ Below w8.heap.size w8 wr) (fun _ v21 _ => nx - (intOf v21).toNat)
          case atStart => exact ⟨0, 0, rfl, rfl, Nat.zero_le _, Nat.zero_le _, Lib.hid rfl, Below.refl _ _⟩
          case round =>
            obtain ⟨k, e, rfl, rfl, hk, heM, HE, hb8⟩ := hrel
            have hcw := (hb8.cell (World.block_lt_of_cell? _ _ hcell8)).trans hcell8
            by_cases hkn : k < nx
            · have hkz : (k : Int) < (nx : Int) := by omega
              have hsp := fun (j : Nat) (hj : j < nx) => show ∃ ad pp, A4 = some ad ∧ ad.add (j * 10) = pp ∧ wr.cell? pp = some (.int .u64 (t : Int)) ∧ wr.cell? ⟨pp.block, pp.off + 1, none⟩ = some (.int .u64 ((idn (X[j]'(by rw [HNX.out]; exact hj)) : Nat) : Int)) ∧ wr.cell? ⟨pp.block, pp.off + 8, none⟩ = some (.int .u64 ((en (X[j]'(by rw [HNX.out]; exact hj)) : Nat) : Int)) from by
                have hjX : j < X.length := by rw [HNX.out]; exact hj
                have hjM : j < M4.length := by rw [← B07.pns_len M4, HO.out.2]; exact hjX
                obtain ⟨ad, pp, hA, hpp, F⟩ := (HO.out.1.below hb8).get hjM
                have hx : X[j] = (M4[j].s, M4[j].l) := by
                  have : ∀ (Y : List Pn) (e : pns M4 = Y) (h : j < Y.length), Y[j] = (M4[j].s, M4[j].l) := fun Y e h => by subst e; exact B07.pns_get M4 hjM
                  exact this _ HO.out.2 hjX
                have ho := HI.out.2.2.2.2.1 _ (List.getElem_mem hjX)
                have k1 := ho.2.tn.1
                have k2 := ho.2.idn.1
                have k3 := ho.2.en.1
                rw [ho.1] at k1
                refine ⟨ad, pp, hA, hpp, ?_, ?_, ?_⟩
                · rw [k1, hx]; exact F.c0
                · rw [k2, hx]; exact F.c1
                · rw [k3, hx]; exact F.c8
              obtain ⟨ad4, pp, rfl, hpp, e0, e1, e8⟩ := hsp k hkn
              have hkX : k < X.length := by rw [HNX.out]; exact hkn
              have hen : en (X[k]'hkX) ≤ MT := ((HI.out.2.2.2.2.1 _ (List.getElem_mem hkX)).2).en.2
              have hmx := mx_take hkX
              rw [HE.out] at hmx
              have hkey : (k = 0) ∨ ∃ j pq ij, k = j + 1 ∧ ad4.add (j * 10) = pq ∧ wr.cell? ⟨pq.block, pq.off + 1, none⟩ = some (.int .u64 ((ij : Nat) : Int)) ∧ ij < idn (X[k]'hkX) := by
                cases k with
                | zero => exact .inl rfl
                | succ j =>
                  obtain ⟨ad5, pq, hA5, hpq, _, f1, _⟩ := hsp j (by omega)
                  injection hA5 with hA5
                  subst hA5
                  exact .inr ⟨j, pq, _, rfl, hpq, f1, HI.out.2.2.2.2.2 j (j + 1) (by omega) hkX⟩
              obtain ⟨ik, hik⟩ : ∃ ik, idn (X[k]'hkX) = ik := ⟨_, rfl⟩
              obtain ⟨ek, hek⟩ : ∃ ek, en (X[k]'hkX) = ek := ⟨_, rfl⟩
              rw [hik] at e1 hkey
              rw [hek] at e8 hmx hen
              obtain ⟨e2, he2⟩ : ∃ e2, max e ek = e2 := ⟨_, rfl⟩
              rw [he2] at hmx
              have HMX := Lib.hid hmx
              have hmz : max (e : Int) (ek : Int) = (e2 : Int) := by omega
              have he2M : e2 ≤ MT := by omega
              have z2 : (0 : Int) ≤ (k : Int) := by omega
              have z3 : ((k : Int)).toNat = k := by omega
              have HKEY := Lib.hid hkey
              clear hsp hkX hmx hkey hik hek he2
              go_wp2_with fail
              rcases HKEY.out with hk0 | ⟨j, pq, ij, hkj, hpq, f1, hlt⟩
              · have hk0z : decide ((0 : Int) < (k : Int)) = false := decide_eq_false (by omega)
                have hk0n : ¬ 0 < k := by omega
                clear hk0 HKEY
                go_quiet (fail)
                have hb9 := below_dn hb8 nq
                clear e0 e1 e8 hcw hb8 hk0z hk0n hkz
                generalize wr.drewN nq = w9 at hb9 ⊢
                go_wp2
                go_roundw
                case rel => exact ⟨k + 1, e2, rfl, by go_num, by omega, he2M, HMX, hb9⟩
                case measure => first | go_num | (simp [intOf]; omega)
              · have hk0z : (0 : Int) < (k : Int) := by omega
                have hk0n : 0 < k := by omega
                have hlzn : ¬ ik ≤ ij := by omega
                have hj1 : (k : Int) - 1 = (j : Int) := by omega
                have hj2 : (0 : Int) ≤ (j : Int) := by omega
                have hj3 : ((j : Int)).toNat = j := by omega
                have hj4 : (j : Int) < (nx : Int) := by omega
                have hj5 : j < nx := by omega
                have hlz : ¬ (ik : Int) ≤ (ij : Int) := by omega
                have hlz2 : decide ((ik : Int) ≤ (ij : Int)) = false := decide_eq_false hlz
                clear hkj hlt HKEY
                go_quiet (fail)
                have hb9 := below_dn hb8 nq
                clear e0 e1 e8 hcw hb8 hk0z hk0n hlzn hkz f1 hj1 hj2 hj3 hj4 hj5 hlz hlz2 hpq
                generalize wr.drewN nq = w9 at hb9 ⊢
                go_wp2
                go_roundw
                case rel => exact ⟨k + 1, e2, rfl, by go_num, by omega, he2M, HMX, hb9⟩
                case measure => first | go_num | (simp [intOf]; omega)
            · obtain rfl : k = nx := by omega
              have hkz : ¬ (k : Int) < (k : Int) := by omega
              have hme : e + gap = d := by
                have h1 := HE.out
                rw [List.take_of_length_le (by rw [HNX.out]; exact Nat.le_refl _)] at h1
                have h2 := HI.out.2.2.1
                omega
              have hk0 : 0 < k := by
                have := List.length_pos_iff.2 HI.out.2.2.2.1
                rw [HNX.out] at this
                exact this
              have hk0z : ((k : Int) == 0) = false := by simp; omega
              obtain ⟨m2, hm2⟩ : ∃ m2, m + k = m2 := ⟨_, rfl⟩
              have hm2z : (m : Int) + (k : Int) = (m2 : Int) := by omega
              have hm2l : m2 ≤ 30 := by omega
              have hez : (e : Int) + (gap : Int) = (d : Int) := by omega
              have hdm : d ≤ 4611686018427453439 := by have := heM; unfold MT at this; omega
              have heM2 : e ≤ 4611686018427387904 := by have := heM; unfold MT at this; omega
              rw [hm2] at HT
              have HT9 := Lib.hid (show Tk w sp gap L al du U1 d1 (some ad2) d2 (i + 1) m2 wr from by
                obtain ⟨col5, p5, r1, r2, r3, r4⟩ := HT.out.ex
                exact ⟨⟨col5, p5, r1.below hb8, r2, fun a ha => ⟨(r3 a ha).1, Nat.lt_of_lt_of_le (r3 a ha).2 hb8.size⟩, fun a ha => ⟨(r4 a ha).1, Nat.lt_of_lt_of_le (r4 a ha).2 hb8.size⟩⟩, HT.out.u1.below hb8, HT.out.u2.below hb8, HT.out.sum⟩)
              have hio := HI.out.1
              have hdget : ∀ (h : i < nd), ∃ ad1, U1 = some ad1 ∧ wr.cell? (ad1.add i) = some (.int .u64 (t : Int)) := fun h => by
                have hil : i < du.length := by rw [HND.out]; exact h
                obtain ⟨ad1, r1, r2, _⟩ := HT9.out.u1.get hil
                rw [HI.out.2.1 hil] at r2
                exact ⟨ad1, r1, r2⟩
              clear hm2 HT hb8 hcell8 HE HI HO hme HNX
              go_wp2_with fail
              by_cases hind : i < nd
              · obtain ⟨ad1, rfl, hc1⟩ := hdget hind
                have g1 : (i : Int) < (nd : Int) := by omega
                have g2 : (d : Int) ≤ (mark : Int) := by have := hio.1 hind; omega
                clear hdget hio
                go_quiet (fail)
                have HTn := Lib.hid (show Tk w sp gap L al du (some ad1) d1 (some ad2) d2 (i + 1) m2 (wr.drewN nq) from by
                  obtain ⟨col5, p5, r1, r2, r3, r4⟩ := HT9.out.ex
                  have hbb : Below wr.heap.size wr (wr.drewN nq) := below_dn (Below.refl _ _) nq
                  exact ⟨⟨col5, p5, r1.below hbb, r2, r3, r4⟩, HT9.out.u1.below hbb, HT9.out.u2.below hbb, HT9.out.sum⟩)
                clear HT9 hc1 hcw g1 g2 hez hk0z
                generalize wr.drewN nq = w9 at HTn ⊢
                go_wp2
                go_roundw
                case rel => first | exact ⟨i + 1, m2, rfl, by go_num, by omega, hm2l, HTn⟩ | ((repeat apply Exists.intro); exact And.intro ⟨i + 1, m2, rfl, by go_num, by omega, hm2l, HTn⟩ rfl)
                case measure => first | go_num | (simp [intOf]; omega)
              · have g1 : decide ((i : Int) < (nd : Int)) = false := decide_eq_false (by omega)
                have g3 : ¬ (i : Int) < (nd : Int) := by omega
                have g2 : decide ((d : Int) ≤ (mark : Int)) = false := decide_eq_false (by intro h; exact hind (hio.2 (by omega)))
                have g2n : ¬ d ≤ mark := fun h => hind (hio.2 (by omega))
                clear hdget hio
                go_quiet (fail)
                have HTn := Lib.hid (show Tk w sp gap L al du U1 d1 (some ad2) d2 (i + 1) m2 (wr.drewN nq) from by
                  obtain ⟨col5, p5, r1, r2, r3, r4⟩ := HT9.out.ex
                  have hbb : Below wr.heap.size wr (wr.drewN nq) := below_dn (Below.refl _ _) nq
                  exact ⟨⟨col5, p5, r1.below hbb, r2, r3, r4⟩, HT9.out.u1.below hbb, HT9.out.u2.below hbb, HT9.out.sum⟩)
                clear HT9 hcw g1 g2 g2n g3 hez hk0z
                generalize wr.drewN nq = w9 at HTn ⊢
                go_wp2
                go_roundw
                case rel => first | exact ⟨i + 1, m2, rfl, by go_num, by omega, hm2l, HTn⟩ | ((repeat apply Exists.intro); exact And.intro ⟨i + 1, m2, rfl, by go_num, by omega, hm2l, HTn⟩ rfl)
                case measure => first | go_num | (simp [intOf]; omega)
        · obtain rfl : i = na := by omega
          have hiz : ¬ (i : Int) < (i : Int) := by omega
          have hall : rems L (al.take i) = [] := by
            rw [List.take_of_length_le (by rw [HNA.out]; exact Nat.le_refl _)]
            exact rems_all fun t ht => (HF.out.2.2.2.1 t).2 ht
          obtain ⟨col1, p1, hLw, _, _, _⟩ := HT.out.ex
          rw [hall] at hLw
          have hml : m = nl := by
            have h1 := HT.out.sum
            rw [hall] at h1
            rw [← HNL.out]
            exact h1
          subst hml
          have hh : Calls Tryz.prog 22 #[.pointer (some ⟨sp, 0, none⟩)] wr fun e w' => e = .returned (.tuple #[.int .i64 0, .int .i64 0]) ∧ Below wr.heap.size wr w' := hLw.sd.held
          have HB := Lib.hid hLw.bel
          clear hLw hall HT
          go_wp2_with fail
          refine hh.mono ?_
          rintro e w7 ⟨rfl, b7⟩
          have HB2 := Lib.hid (HB.out.trans (b7.mono HB.out.size))
          clear hh b7 HB
          go_wp2
          go_ret
          exact ⟨by simp, HB2.out⟩
end Go.Proofs.YtdmibolbpgondaaGreat.X15
end
