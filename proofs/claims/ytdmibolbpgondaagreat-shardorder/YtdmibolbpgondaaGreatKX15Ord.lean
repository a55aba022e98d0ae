/-
  Spans kept of a list in any order: in plain lists.
  Three shards of the law's own: a call on one leaves the others.
  Traces taken one behind the other; who is due: in plain lists.
  Three shards of the law's own: as they begin; a list of numbers told; what is kept of all that came so far.
-/
import Derived.Test.YtdmibolbpgondaaGreatKX15Big
import Derived.Test.YtdmibolbpgondaaGreatKB7Same
import Derived.Test.YtdmibolbpgondaaGreatKX15Wide
import Derived.Test.YtdmibolbpgondaaGreatKX15SortS
section
set_option linter.unusedSimpArgs false
set_option linter.unusedVariables false
namespace Go.Proofs.YtdmibolbpgondaaGreat.X15
open Go.Proofs.YtdmibolbpgondaaGreat.P06
open Go.Proofs.YtdmibolbpgondaaGreat.B07 (Pn OkN OkA OkP cmp_same)
open Go.Proofs.YtdmibolbpgondaaGreat.D09 (cp cp_neg cp_self cp_trans)
/-- of all that came in xs, L is what is kept where none has to go -/
structure Kep (xs L : List Pn) : Prop where
  so : So L
  sub : ∀ x ∈ L, x ∈ xs ∧ May x
  cov : ∀ y ∈ xs, May y → ∃ z ∈ L, Ke z y ∧ cp z y ≤ 0
theorem cp_eq {x y : Pn} (h : cp x y = 0) : x = y := by
  obtain ⟨h1, h2⟩ := cmp_same.1 h
  exact Prod.ext h1 h2
theorem Kep.nil : Kep [] [] := ⟨List.Pairwise.nil, fun x hx => (by cases hx), fun y hy => (by cases hy)⟩
theorem Kep.mem {xs L : List Pn} (h : Kep xs L) {x : Pn} : x ∈ L ↔ x ∈ xs ∧ May x ∧ ∀ y ∈ xs, May y → Ke y x → cp x y ≤ 0 := by
  constructor
  · intro hx
    refine ⟨(h.sub x hx).1, (h.sub x hx).2, fun y hy hm hk => ?_⟩
    obtain ⟨z, hz, hk', hc⟩ := h.cov y hy hm
    rw [← so_key h.so hz hx (hk'.trans hk)]
    exact hc
  · rintro ⟨h1, h2, h3⟩
    obtain ⟨z, hz, hk, hc⟩ := h.cov x h1 h2
    have h4 := h3 z (h.sub z hz).1 (h.sub z hz).2 hk
    have h5 := cp_neg x z
    rw [← cp_eq (x := z) (y := x) (by omega)]
    exact hz
theorem Kep.one {xs ys L M : List Pn} (h : Kep xs L) (k : Kep ys M) (e : ∀ x, x ∈ xs ↔ x ∈ ys) : L = M := by
  refine so_one h.so k.so fun x => ?_
  rw [h.mem, k.mem]
  constructor
  · rintro ⟨h1, h2, h3⟩
    exact ⟨(e x).1 h1, h2, fun y hy => h3 y ((e y).2 hy)⟩
  · rintro ⟨h1, h2, h3⟩
    exact ⟨(e x).2 h1, h2, fun y hy => h3 y ((e y).1 hy)⟩
/-- one that may not be -/
theorem Kep.no {xs L : List Pn} (h : Kep xs L) {x : Pn} (hx : ¬ May x) : Kep (xs ++ [x]) L := by
  refine ⟨h.so, fun y hy => ⟨List.mem_append_left _ (h.sub y hy).1, (h.sub y hy).2⟩, fun y hy hm => ?_⟩
  rcases List.mem_append.1 hy with hy | hy
  · exact h.cov y hy hm
  · rw [List.mem_singleton.1 hy] at hm
    exact absurd hm hx
/-- one that may be -/
theorem Kep.yes {xs L : List Pn} (h : Kep xs L) {x : Pn} (hx : May x) : Kep (xs ++ [x]) (puts L x).1 := by
  have hput : ∀ z, fnd L x = some z → ¬ cp z x ≤ 0 → Kep (xs ++ [x]) (put L x) := fun z e hc => by
    obtain ⟨hz, hk⟩ := fnd_some e
    have h5 := cp_neg z x
    refine ⟨put_so h.so x, fun y hy => ?_, fun y hy hm => ?_⟩
    · rcases mem_put.1 hy with rfl | ⟨hy, _⟩
      · exact ⟨List.mem_append_right _ (List.mem_singleton.2 rfl), hx⟩
      · exact ⟨List.mem_append_left _ (h.sub y hy).1, (h.sub y hy).2⟩
    · rcases List.mem_append.1 hy with hy | hy
      · obtain ⟨z', hz', hk', hc'⟩ := h.cov y hy hm
        by_cases e' : Ke z' x
        · have e2 := so_key h.so hz' hz (e'.trans hk.symm)
          subst e2
          exact ⟨x, mem_put.2 (.inl rfl), hk.symm.trans hk', cp_trans (y := z') (by omega) hc'⟩
        · exact ⟨z', mem_put.2 (.inr ⟨hz', e'⟩), hk', hc'⟩
      · rw [List.mem_singleton.1 hy]
        exact ⟨x, mem_put.2 (.inl rfl), ke_refl x, by rw [cp_self]; omega⟩
  unfold puts
  cases e : fnd L x with
  | none =>
    dsimp only
    refine ⟨put_so h.so x, fun y hy => ?_, fun y hy hm => ?_⟩
    · rcases mem_put.1 hy with rfl | ⟨hy, _⟩
      · exact ⟨List.mem_append_right _ (List.mem_singleton.2 rfl), hx⟩
      · exact ⟨List.mem_append_left _ (h.sub y hy).1, (h.sub y hy).2⟩
    · rcases List.mem_append.1 hy with hy | hy
      · obtain ⟨z', hz', hk', hc'⟩ := h.cov y hy hm
        exact ⟨z', mem_put.2 (.inr ⟨hz', fnd_none e z' hz'⟩), hk', hc'⟩
      · rw [List.mem_singleton.1 hy]
        exact ⟨x, mem_put.2 (.inl rfl), ke_refl x, by rw [cp_self]; omega⟩
  | some z =>
    dsimp only
    by_cases hc : cp z x ≤ 0
    · rw [if_pos hc]
      obtain ⟨hz, hk⟩ := fnd_some e
      refine ⟨h.so, fun y hy => ⟨List.mem_append_left _ (h.sub y hy).1, (h.sub y hy).2⟩, fun y hy hm => ?_⟩
      rcases List.mem_append.1 hy with hy | hy
      · exact h.cov y hy hm
      · rw [List.mem_singleton.1 hy]
        exact ⟨z, hz, hk, hc⟩
    · rw [if_neg hc]
      exact hput z e hc
theorem szA_le2 {l : List At} {n m : Nat} (h : ∀ a ∈ l, a.key.size ≤ n ∧ a.S.size ≤ m) : szA l ≤ l.length * (16 + n + m) := by
  induction l with
  | nil => simp [szA]
  | cons a l ih =>
    have h1 := ih fun x hx => h x (List.mem_cons_of_mem _ hx)
    have h2 := h a (List.mem_cons_self ..)
    rw [szA, List.length_cons, Nat.add_mul]
    omega
theorem sz_le {x : Pn} (h : Nr x) : sz x ≤ 300000 := by
  have h1 := szA_le2 h.at_
  have h2 := h.few
  have h3 := h.sv
  have h4 := h.nm
  have h5 : x.2.length * (16 + 300 + 5000) ≤ 40 * (16 + 300 + 5000) := Nat.mul_le_mul_right _ h2
  unfold sz
  omega
theorem held_le2 {L : List Pn} (h : ∀ x ∈ L, Nr x) : held L ≤ L.length * 300000 := by
  induction L with
  | nil => simp [held]
  | cons a l ih =>
    have h1 := ih fun x hx => h x (List.mem_cons_of_mem _ hx)
    have h2 := sz_le (h a (List.mem_cons_self ..))
    rw [held, List.length_cons, Nat.add_mul]
    omega
theorem big_few {S B : Nat} {L : List Pn} (h : ∀ x ∈ L, Nr x) (hl : L.length ≤ 100) (hS : 100 ≤ S) (hB : 100000000 ≤ B) : big S B L = false := by
  have h1 := held_le2 h
  have h2 : L.length * 300000 ≤ 100 * 300000 := Nat.mul_le_mul_right _ hl
  unfold big
  simp only [Bool.or_eq_false_iff, decide_eq_false_iff_not]
  omega
/-- where none has to go -/
theorem add_free {G S B : Nat} {L : List Pn} {x : Pn} (hs : So L) (h : ∀ y ∈ L, Nr y) (hx : Nr x) (hl : L.length ≤ 50) (hS : 100 ≤ S) (hB : 100000000 ≤ B) :
    (add G S B L x).1 = (puts L x).1 ∧ (add G S B L x).2.2 = [] := by
  have hb : big S B L = false := big_few h (by omega) hS hB
  have hp : ∀ y ∈ (puts L x).1, Nr y := fun y hy => by
    have hput : y ∈ put L x → Nr y := fun hy => by
      rcases mem_put.1 hy with rfl | ⟨hy, _⟩
      · exact hx
      · exact h y hy
    unfold puts at hy
    revert hy
    split
    · split
      · exact fun hy => h y hy
      · exact hput
    · exact hput
  have hl2 := puts_len L x hs
  have hb2 : big S B (puts L x).1 = false := big_few hp (by omega) hS hB
  rw [add_puts hb, shrink_no hb2]
  exact ⟨rfl, rfl⟩
/-- all that came is kept or told -/
theorem add_count {G S B : Nat} {L : List Pn} {x : Pn} (hs : So L) : (add G S B L x).1.length + (add G S B L x).2.1.length + (add G S B L x).2.2.length = L.length + 1 := by
  have h1 := shrink_len (G := G) (S := S) (B := B) (put L x)
  unfold add
  cases e : fnd L x with
  | none =>
    have h2 := (put_new (fnd_none e)).1
    simp only [List.length_nil]
    omega
  | some z =>
    obtain ⟨hz, hk⟩ := fnd_some e
    have h2 := (put_old hs hz hk).1
    dsimp only
    by_cases hc : cp z x ≤ 0
    · rw [if_pos hc]
      simp
    · rw [if_neg hc]
      simp only [List.length_singleton]
      omega
theorem ad_count {G S B : Nat} {L L' T g : List Pn} {x : Pn} {k : Int} (h : Ad G S B L x k L' T g) (hs : So L) : (k = 0 ∧ L'.length + T.length + g.length = L.length + 1) ∨ (k = 1 ∧ L'.length + T.length + g.length = L.length) := by
  rcases h with ⟨h1, _, rfl, rfl, rfl⟩ | ⟨h1, _, rfl, rfl, rfl⟩
  · exact .inl ⟨h1, add_count hs⟩
  · exact .inr ⟨h1, by simp⟩
theorem ad_kep {G S B : Nat} {L L' T g xs : List Pn} {x : Pn} {k : Int} (h : Ad G S B L x k L' T g) (hk : Kep xs L) (ho : ∀ y ∈ L, Nr y) (hx : Nr x) (hl : L.length ≤ 50) (hS : 100 ≤ S) (hB : 100000000 ≤ B) : Kep (xs ++ [x]) L' ∧ g = [] := by
  rcases h with ⟨h1, hm, rfl, rfl, rfl⟩ | ⟨h1, hm, rfl, rfl, rfl⟩
  · obtain ⟨e1, e2⟩ := add_free (G := G) hk.so ho hx hl hS hB
    rw [e1]
    exact ⟨hk.yes hm, e2⟩
  · exact ⟨hk.no hm, rfl⟩
/-- the place of the i-th in the other order -/
def oth (n b i : Nat) : Nat := (n - 1 - i + b) % n
theorem oth_lt {n : Nat} (b i : Nat) (h : 0 < n) : oth n b i < n := Nat.mod_lt _ h
theorem oth_all {n : Nat} (b : Nat) {j : Nat} (hj : j < n) : ∃ i, i < n ∧ oth n b i = j := by
  have hn : 0 < n := by omega
  have hlt : (n - 1 + b + n - j) % n < n := Nat.mod_lt _ hn
  refine ⟨(n - 1 + b + n - j) % n, hlt, ?_⟩
  have hd := Nat.div_add_mod (n - 1 + b + n - j) n
  generalize (n - 1 + b + n - j) % n = i at hd hlt ⊢
  generalize (n - 1 + b + n - j) / n = q at hd
  unfold oth
  have e : n - 1 - i + b + n = j + n * q := by omega
  have h1 : (n - 1 - i + b + n) % n = j % n := by rw [e, Nat.add_mul_mod_self_left]
  rw [Nat.add_mod_right] at h1
  rw [h1, Nat.mod_eq_of_lt hj]
def oths (L : List Pn) (b k : Nat) : List Pn := (List.range k).filterMap fun i => L[oth L.length b i]?
theorem oths_step {L : List Pn} {b k : Nat} (h : oth L.length b k < L.length) : oths L b (k + 1) = oths L b k ++ [L[oth L.length b k]] := by
  unfold oths
  rw [List.range_succ, List.filterMap_append]
  simp [List.getElem?_eq_getElem h]
theorem mem_oths {L : List Pn} (b : Nat) (x : Pn) : x ∈ L ↔ x ∈ oths L b L.length := by
  unfold oths
  rw [List.mem_filterMap]
  constructor
  · intro hx
    obtain ⟨j, hj, rfl⟩ := List.mem_iff_getElem.1 hx
    obtain ⟨i, hi, e⟩ := oth_all b hj
    exact ⟨i, List.mem_range.2 hi, by rw [e]; exact List.getElem?_eq_getElem hj⟩
  · rintro ⟨i, hi, e⟩
    exact List.mem_of_getElem? e
end Go.Proofs.YtdmibolbpgondaaGreat.X15
end

section
set_option linter.unusedSimpArgs false
set_option linter.unusedVariables false
namespace Go.Proofs.YtdmibolbpgondaaGreat.X15
open Go.RowKit Go.Lib Go.Maps Go.Proofs.YtdmibolbpgondaaGreat.Wd Go.Proofs.YtdmibolbpgondaaGreat.P06
open Go.Proofs.YtdmibolbpgondaaGreat.B07 (Pn OkN OkA OkP Spn Sps pns tenA ten)
/-- a colour of the room's own -/
def Pp (c : Nat) : Prop := c ≠ 0 ∧ c ≠ 5
instance (c : Nat) : Decidable (Pp c) := by unfold Pp; infer_instance
/-- seen from another shard, a shard's blocks are 5 -/
def asd (cb ca : Nat → Nat) : Nat → Nat := fun x => if Pp (ca x) then 5 else cb x
section
variable {w0 w w' W W' : World} {ca ca' cb cb' cc : Nat → Nat} {sa sb sc : Nat} {pa pa' pb pc p : Pr} {La La' Lb Lc L : List Pn} {U : List Nat}
theorem asd_in {x : Nat} (h : Pp (ca x)) : asd cb ca x = 5 := if_pos h
theorem asd_out {x : Nat} (h : ¬ Pp (ca x)) : asd cb ca x = cb x := if_neg h
theorem asd_pp {x : Nat} (h : Pp (asd cb ca x)) : ¬ Pp (ca x) ∧ Pp (cb x) := by
  by_cases e : Pp (ca x)
  · rw [asd_in e] at h
    exact absurd rfl h.2
  · rw [asd_out e] at h
    exact ⟨e, h⟩
theorem Fs.pp (F : Fs w w' ca ca') {x : Nat} (hx : x < w.heap.size) : Pp (ca' x) ↔ Pp (ca x) := by
  have h1 := F.old x hx
  have h2 := F.five x hx
  unfold Pp
  constructor
  · rintro ⟨a, b⟩; exact ⟨h1.1 a, fun e => b (h2.2 e)⟩
  · rintro ⟨a, b⟩; exact ⟨h1.2 a, fun e => b (h2.1 e)⟩
/-- a call on another shard -/
theorem Lw.other (h : Lw w0 cb sb pb Lb w) (hn : ∀ x, Pp (ca x) → w0.heap.size ≤ x) (F : Fs w w' ca ca') (hl : ∀ x, ca' x ≠ 0 → x < w'.heap.size) (hab : ∀ x, Pp (ca x) → cb x = 5) (hs : ca sb = 0) : Lw w0 (asd cb ca') sb pb Lb w' := by
  have hsz := F.fr.size
  have hR := h.sd.rm.rx
  have hS := h.sd.rm.sm
  have d : ∀ {x k : Nat}, cb x = k → k ≠ 0 → asd cb ca' x = k := fun {x k} hx hk => by
    have hx' := hR.lt x (by omega)
    by_cases e : Pp (ca' x)
    · rw [asd_in e, ← hx, hab x ((F.pp hx').1 e)]
    · rw [asd_out e, hx]
  have d0 : ∀ x, x < w.heap.size → cb x = 0 → asd cb ca' x = 0 := fun x hx h0 => by
    by_cases e : Pp (ca' x)
    · have := hab x ((F.pp hx).1 e); omega
    · rw [asd_out e, h0]
  have k := hR.keep (c := 5) F.fr fun x hx => hab x (mem_ow.1 hx).2
  have hlt : sb < w.heap.size := World.block_lt_of_cell? _ _ h.sd.c
  have rx : Rx w' (asd cb ca') pb := by
    refine ⟨k.cl (by omega), d hR.kr (by omega), k.mt (by omega), d hR.kt (by omega), k.me (by omega), d hR.ke (by omega), ?_, fun t b hb => ⟨k.im t b hb (by omega), d (hR.im t b hb).2 (by omega)⟩, fun t q hq => ?_, fun x hx => ?_⟩
    · obtain ⟨o, h1, h2⟩ := k.dl (by omega)
      exact ⟨o, h1, fun x hx => d (h2 x hx) (by omega)⟩
    · obtain ⟨o, h1, h2⟩ := k.iq t q hq (by omega)
      exact ⟨o, h1, fun x hx => d (h2 x hx) (by omega)⟩
    · by_cases e : Pp (ca' x)
      · exact hl x e.1
      · rw [asd_out e] at hx
        exact Nat.lt_of_lt_of_le (hR.lt x hx) hsz
  have sm : Sm w' (asd cb ca') pb Lb (trs Lb) := by
    refine ⟨hS.so, hS.ok, hS.bi, hS.qi, hS.nt, hS.ne, fun t ht x hx => ?_, hS.fn, hS.ni, hS.mi, hS.dq⟩
    obtain ⟨y, h1, h2, h3, h4⟩ := hS.fi t ht x hx
    exact ⟨y, h1, h2, hd_fr h3 F.fr fun a ha hm => by have h5 := hab _ (mem_ow.1 hm).2; have h6 := h4 a ha; omega, fun a ha => d0 _ (B07.Hd.lt h3 a ha).2 (h4 a ha)⟩
  refine ⟨⟨⟨rx, sm, h.sd.rm.n, h.sd.rm.h⟩, ?_, d0 sb hlt h.sd.k⟩, h.ok, ((Fr.of_below _ h.bel).trans F.fr fun x hx => .inr (hn x (mem_ow.1 hx).2)).below (Nat.le_refl _) (o := []) fun x hx => (by cases hx), fun x h1 h2 => ?_⟩
  · rw [World.cell?_of_block (F.fr.block sb hlt fun hm => (mem_ow.1 hm).2.1 hs)]
    exact h.sd.c
  · obtain ⟨_, h3⟩ := asd_pp (⟨h1, h2⟩ : Pp (asd cb ca' x))
    exact h.new x h3.1 h3.2
/-- a shard that keeps nothing yet, seen beside another -/
theorem Lw.wear (h : Lw w0 cb sb pb [] w) (hab : ∀ x, Pp (ca x) → cb x = 0 ∨ cb x = 5) (hl : ∀ x, Pp (ca x) → x < w.heap.size) (hs : ca sb = 0) : Lw w0 (asd cb ca) sb pb [] w := by
  have hR := h.sd.rm.rx
  have hS := h.sd.rm.sm
  have d : ∀ {x k : Nat}, cb x = k → k ≠ 0 → asd cb ca x = k := fun {x k} hx hk => by
    by_cases e : Pp (ca x)
    · rw [asd_in e]
      rcases hab x e with h1 | h1 <;> omega
    · rw [asd_out e, hx]
  have rx : Rx w (asd cb ca) pb := by
    refine ⟨hR.cl, d hR.kr (by omega), hR.mt, d hR.kt (by omega), hR.me, d hR.ke (by omega), ?_, fun t b hb => ⟨(hR.im t b hb).1, d (hR.im t b hb).2 (by omega)⟩, fun t q hq => ?_, fun x hx => ?_⟩
    · obtain ⟨o, h1, h2⟩ := hR.dl
      exact ⟨o, h1, fun x hx => d (h2 x hx) (by omega)⟩
    · obtain ⟨o, h1, h2⟩ := hR.iq t q hq
      exact ⟨o, h1, fun x hx => d (h2 x hx) (by omega)⟩
    · by_cases e : Pp (ca x)
      · exact hl x e
      · rw [asd_out e] at hx
        exact hR.lt x hx
  have sm : Sm w (asd cb ca) pb [] (trs []) := ⟨hS.so, hS.ok, hS.bi, hS.qi, hS.nt, hS.ne, fun t ht x hx => (by cases hx), hS.fn, hS.ni, hS.mi, hS.dq⟩
  refine ⟨⟨⟨rx, sm, h.sd.rm.n, h.sd.rm.h⟩, h.sd.c, ?_⟩, h.ok, h.bel, fun x h1 h2 => ?_⟩
  · rw [asd_out (by rw [hs]; exact fun e => e.1 rfl)]
    exact h.sd.k
  · obtain ⟨_, h3⟩ := asd_pp (⟨h1, h2⟩ : Pp (asd cb ca x))
    exact h.new x h3.1 h3.2
/-- three, and blocks of the law's own -/
structure T3 (w0 : World) (ca cb cc : Nat → Nat) (sa sb sc : Nat) (pa pb pc : Pr) (La Lb Lc : List Pn) (U : List Nat) (W : World) : Prop where
  a : Lw w0 ca sa pa La W
  b : Lw w0 cb sb pb Lb W
  c : Lw w0 cc sc pc Lc W
  ab : ∀ x, Pp (ca x) → cb x = 5
  ac : ∀ x, Pp (ca x) → cc x = 5
  ba : ∀ x, Pp (cb x) → ca x = 5
  bc : ∀ x, Pp (cb x) → cc x = 5
  xa : ∀ x, Pp (cc x) → ca x = 5
  xb : ∀ x, Pp (cc x) → cb x = 5
  sab : ca sb = 0
  sac : ca sc = 0
  sba : cb sa = 0
  sbc : cb sc = 0
  sca : cc sa = 0
  scb : cc sb = 0
  fr : ∀ x ∈ U, ¬ Pp (ca x) ∧ ¬ Pp (cb x) ∧ ¬ Pp (cc x) ∧ x < W.heap.size
theorem T3.rot (h : T3 w0 ca cb cc sa sb sc pa pb pc La Lb Lc U W) : T3 w0 cb cc ca sb sc sa pb pc pa Lb Lc La U W :=
  ⟨h.b, h.c, h.a, h.bc, h.ba, h.xb, h.xa, h.ab, h.ac, h.sbc, h.sba, h.scb, h.sca, h.sab, h.sac, fun x hx => ⟨(h.fr x hx).2.1, (h.fr x hx).2.2.1, (h.fr x hx).1, (h.fr x hx).2.2.2⟩⟩
theorem T3.below (h : T3 w0 ca cb cc sa sb sc pa pb pc La Lb Lc U W) (hb : Below W.heap.size W W') : T3 w0 ca cb cc sa sb sc pa pb pc La Lb Lc U W' :=
  ⟨h.a.below hb, h.b.below hb, h.c.below hb, h.ab, h.ac, h.ba, h.bc, h.xa, h.xb, h.sab, h.sac, h.sba, h.sbc, h.sca, h.scb, fun x hx => ⟨(h.fr x hx).1, (h.fr x hx).2.1, (h.fr x hx).2.2.1, Nat.lt_of_lt_of_le (h.fr x hx).2.2.2 hb.size⟩⟩
theorem T3.step (h : T3 w0 ca cb cc sa sb sc pa pb pc La Lb Lc U W) (ha : Lw w0 ca' sa pa' La' W') (F : Fs W W' ca ca') : T3 w0 ca' (asd cb ca') (asd cc ca') sa sb sc pa' pb pc La' Lb Lc U W' := by
  have hl := ha.sd.rm.rx.lt
  have hn : ∀ x, Pp (ca x) → w0.heap.size ≤ x := fun x hx => h.a.new x hx.1 hx.2
  have up : ∀ {cd : Nat → Nat} {sd : Nat} {pd : Pr} {Ld : List Pn}, Lw w0 cd sd pd Ld W → (∀ x, Pp (cd x) → ca x = 5) → ∀ x, Pp (asd cd ca' x) → ca' x = 5 := fun {cd sd pd Ld} hd hk x hx => by
    obtain ⟨_, h2⟩ := asd_pp hx
    exact (F.five x (hd.sd.rm.rx.lt x h2.1)).2 (hk x h2)
  have z0 : ∀ {s : Nat}, s < W.heap.size → ca s = 0 → ca' s = 0 := fun {s} hs h0 => Classical.byContradiction fun e => (F.old s hs).1 e h0
  have z1 : ∀ {cd : Nat → Nat} {s : Nat}, ca' s = 0 → cd s = 0 → asd cd ca' s = 0 := fun {cd s} h0 h1 => by rw [asd_out (by rw [h0]; exact fun e => e.1 rfl), h1]
  have la : sa < W.heap.size := World.block_lt_of_cell? _ _ h.a.sd.c
  have lb : sb < W.heap.size := World.block_lt_of_cell? _ _ h.b.sd.c
  have lc : sc < W.heap.size := World.block_lt_of_cell? _ _ h.c.sd.c
  have ka : ca' sa = 0 := ha.sd.k
  have kb : ca' sb = 0 := z0 lb h.sab
  have kc : ca' sc = 0 := z0 lc h.sac
  refine ⟨ha, h.b.other hn F hl h.ab h.sab, h.c.other hn F hl h.ac h.sac, fun x hx => asd_in hx, fun x hx => asd_in hx, up h.b h.ba, fun x hx => ?_, up h.c h.xa, fun x hx => ?_, kb, kc, z1 ka h.sba, z1 kc h.sbc, z1 ka h.sca, z1 kb h.scb, fun x hx => ?_⟩
  · obtain ⟨h1, h2⟩ := asd_pp hx
    rw [asd_out h1]
    exact h.bc x h2
  · obtain ⟨h1, h2⟩ := asd_pp hx
    rw [asd_out h1]
    exact h.xb x h2
  · obtain ⟨h1, h2, h3, h4⟩ := h.fr x hx
    exact ⟨fun e => h1 ((F.pp h4).1 e), fun e => h2 (asd_pp e).2, fun e => h3 (asd_pp e).2, Nat.lt_of_lt_of_le h4 F.fr.size⟩
theorem T3.kept (h : T3 w0 ca cb cc sa sb sc pa pb pc La Lb Lc U W) (F : Fs W W' ca ca') : ∀ x ∈ U, W'.heap[x]? = W.heap[x]? := fun x hx => F.fr.block x (h.fr x hx).2.2.2 fun hm => (h.fr x hx).1 (mem_ow.1 hm).2
/-- a shard's numbers -/
def Nu (p : Pr) (k : Nat × Nat × Nat) : Prop := p.G = k.1 ∧ p.S = k.2.1 ∧ p.B = k.2.2
theorem Nu.fix {p' : Pr} {k : Nat × Nat × Nat} (h : Nu p k) (X : Fix p p') : Nu p' k := ⟨X.G.trans h.1, X.S.trans h.2.1, X.B.trans h.2.2⟩
structure Th (w0 : World) (sa sb sc : Nat) (ka kb kc : Nat × Nat × Nat) (La Lb Lc : List Pn) (U : List Nat) (W : World) : Prop where
  ex : ∃ ca cb cc pa pb pc, T3 w0 ca cb cc sa sb sc pa pb pc La Lb Lc U W ∧ Nu pa ka ∧ Nu pb kb ∧ Nu pc kc
variable {ka kb kc : Nat × Nat × Nat}
theorem Th.rot (h : Th w0 sa sb sc ka kb kc La Lb Lc U W) : Th w0 sb sc sa kb kc ka Lb Lc La U W := by
  obtain ⟨ca, cb, cc, pa, pb, pc, h, n1, n2, n3⟩ := h.ex
  exact ⟨cb, cc, ca, pb, pc, pa, h.rot, n2, n3, n1⟩
theorem Th.below (h : Th w0 sa sb sc ka kb kc La Lb Lc U W) (hb : Below W.heap.size W W') : Th w0 sa sb sc ka kb kc La Lb Lc U W' := by
  obtain ⟨ca, cb, cc, pa, pb, pc, h, n⟩ := h.ex
  exact ⟨ca, cb, cc, pa, pb, pc, h.below hb, n⟩
theorem Th.sub {U' : List Nat} (h : Th w0 sa sb sc ka kb kc La Lb Lc U W) (hU : ∀ x ∈ U', x ∈ U) : Th w0 sa sb sc ka kb kc La Lb Lc U' W := by
  obtain ⟨ca, cb, cc, pa, pb, pc, h, n⟩ := h.ex
  exact ⟨ca, cb, cc, pa, pb, pc, ⟨h.a, h.b, h.c, h.ab, h.ac, h.ba, h.bc, h.xa, h.xb, h.sab, h.sac, h.sba, h.sbc, h.sca, h.scb, fun x hx => h.fr x (hU x hx)⟩, n⟩
theorem not_pp0 {x : Nat} (h : x = 0) : ¬ Pp x := fun e => e.1 h
theorem Th.push (h : Th w0 sa sb sc ka kb kc La Lb Lc U W) (hb : Below W.heap.size W W') {x : Nat} (hx : W.heap.size ≤ x) (hx' : x < W'.heap.size) : Th w0 sa sb sc ka kb kc La Lb Lc (x :: U) W' := by
  obtain ⟨ca, cb, cc, pa, pb, pc, h, n⟩ := h.ex
  have h' := h.below hb
  refine ⟨ca, cb, cc, pa, pb, pc, ⟨h'.a, h'.b, h'.c, h.ab, h.ac, h.ba, h.bc, h.xa, h.xb, h.sab, h.sac, h.sba, h.sbc, h.sca, h.scb, fun y hy => ?_⟩, n⟩
  rcases List.mem_cons.1 hy with rfl | hy
  · exact ⟨not_pp0 (h.a.sd.rm.rx.fresh hx), not_pp0 (h.b.sd.rm.rx.fresh hx), not_pp0 (h.c.sd.rm.rx.fresh hx), hx'⟩
  · exact h'.fr y hy
theorem Th.bel (h : Th w0 sa sb sc ka kb kc La Lb Lc U W) : Below w0.heap.size w0 W := by
  obtain ⟨ca, cb, cc, pa, pb, pc, h, n⟩ := h.ex
  exact h.a.bel
theorem Th.sd (h : Th w0 sa sb sc ka kb kc La Lb Lc U W) : ∃ col p, Sd W col sa p La := by
  obtain ⟨ca, cb, cc, pa, pb, pc, h, n⟩ := h.ex
  exact ⟨ca, pa, h.a.sd⟩
theorem Th.few (h : Th w0 sa sb sc ka kb kc La Lb Lc U W) : big ka.2.1 ka.2.2 La = false := by
  obtain ⟨ca, cb, cc, pa, pb, pc, h, n, _⟩ := h.ex
  rw [← n.2.1, ← n.2.2]
  exact h.a.ok
theorem Th.so (h : Th w0 sa sb sc ka kb kc La Lb Lc U W) : So La := by obtain ⟨_, _, h⟩ := h.sd; exact h.rm.sm.so
theorem Th.ok (h : Th w0 sa sb sc ka kb kc La Lb Lc U W) : ∀ x ∈ La, Okx x := by obtain ⟨_, _, h⟩ := h.sd; exact h.rm.sm.ok
theorem key_len {s : ByteArray} (h : T03.key (T03.ls s) = true) : s.size ≤ 64 := by
  unfold T03.key at h
  simp only [Bool.and_eq_true, decide_eq_true_eq] at h
  have h8 : (T03.ls s).length = s.size := rfl
  omega
theorem right_len {K N : Int} {S : ByteArray} (h : V04.right K N S = true) : S.size ≤ 4096 := by
  unfold V04.right at h
  simp only [decide_eq_true_eq] at h
  omega
/-- a span that is more than is looked at may not be -/
theorem far_may {x : Pn} (h : far x.1 x.2 = true) : ¬ May x := by
  rintro ⟨h1, h2, h3⟩
  have hs : x.1.sv.size ≤ 4096 ∧ x.1.nm.size ≤ 4096 := by
    unfold chk at h1
    by_cases e : nmb x.1.sv = false ∨ nmb x.1.nm = false
    · exfalso
      revert h1
      repeat' split
      all_goals first | omega | (intro h1; omega)
    · simp only [not_or, Bool.not_eq_false] at e
      obtain ⟨e1, e2⟩ := e
      unfold nmb at e1 e2
      simp only [decide_eq_true_eq] at e1 e2
      omega
  unfold far at h
  simp only [Bool.or_eq_true, decide_eq_true_eq, List.any_eq_true] at h
  rcases h with ((h | h) | h) | h
  · omega
  · omega
  · omega
  · obtain ⟨a, ha, hb⟩ := h
    obtain ⟨i, hi, rfl⟩ := List.mem_iff_getElem.1 ha
    obtain ⟨k1, k2, _⟩ := h3 i hi
    have := key_len k1
    have := right_len k2
    omega
/-- one span more for the first -/
theorem Th.add (h : Th w0 sa sb sc ka kb kc La Lb Lc U W) (s : Sp) (A : Option Addr) (c n : Nat) (l : List At) (hn : l.length = n) (hN : OkN s) (hd : Hd 0 W A c l) (hm : n ≤ 9223372036854775807) (hfew : La.length ≤ 400) (hG : ka.1 ≤ MT) :
    Calls Tryz.prog 10 #[.pointer (some ⟨sa, 0, none⟩), spv s (.slice A n c)] W fun e w' => ∃ A1 c1 A2 c2 k L' T g, e = .returned (.tuple #[.agg #[.slice A1 (List.length T) c1, .slice A2 (List.length g) c2], .int .i64 k]) ∧ Ad ka.1 ka.2.1 ka.2.2 La (s, l) k L' T g ∧ Th w0 sa sb sc ka kb kc L' Lb Lc U w' ∧ (∀ x ∈ U, w'.heap[x]? = W.heap[x]?) ∧ W.heap.size ≤ w'.heap.size := by
  obtain ⟨ca, cb, cc, pa, pb, pc, h, n1, n2, n3⟩ := h.ex
  cases hf : far s l with
  | false =>
    refine (h.a.add s A c n l hn hN (nr_of (x := (s, l)) hf) hd hfew (by rw [n1.1]; exact hG)).mono ?_
    rintro e w' ⟨A1, c1, M1, A2, c2, M2, k, L', T, g, col', p', rfl, hAd, q1, q2, o1, o2, hL, F, X⟩
    rw [n1.1, n1.2.1, n1.2.2] at hAd
    exact ⟨A1, c1, A2, c2, k, L', T, g, rfl, hAd, ⟨_, _, _, _, _, _, h.step hL F, n1.fix X, n2, n3⟩, h.kept F, F.fr.size⟩
  | true =>
    have hno : ¬ May (s, l) := far_may (x := (s, l)) hf
    obtain ⟨b, hb⟩ := amb_bool l
    refine (addw_wrong (sp := sa) s A c n l W hn hm hd b hb fun e => hno ((chk_may (x := (s, l)) hb).1 e)).mono ?_
    rintro e w' ⟨rfl, hb'⟩
    exact ⟨none, 0, none, 0, 1, La, [], [], rfl, .inr ⟨rfl, hno, rfl, rfl, rfl⟩, ⟨_, _, _, _, _, _, h.below hb', n1, n2, n3⟩, fun x hx => hb'.block x (h.fr x hx).2.2.2, hb'.size⟩
/-- a told list's blocks -/
def ubs (A : Option Addr) (M : List Spn) : List Nat := A.toList.map (·.block) ++ M.flatMap fun y => y.A.toList.map (·.block)
theorem mem_ubs {A : Option Addr} {M : List Spn} {x : Nat} : x ∈ ubs A M ↔ (∃ a, A = some a ∧ a.block = x) ∨ ∃ y ∈ M, ∃ a, y.A = some a ∧ a.block = x := by
  unfold ubs
  simp only [List.mem_append, List.mem_map, List.mem_flatMap, Option.mem_toList]
theorem sps_ubs {A : Option Addr} {c : Nat} {M : List Spn} (h : Sps W A c M) (k : ∀ x ∈ ubs A M, W'.heap[x]? = W.heap[x]?) : Sps W' A c M :=
  ⟨rd_block h.rd fun a ha => k _ (mem_ubs.2 (.inl ⟨a, ha, rfl⟩)), fun y hy => rd_block (h.ats y hy) fun a ha => k _ (mem_ubs.2 (.inr ⟨y, hy, a, ha, rfl⟩))⟩
/-- a trace of the first's taken -/
theorem Th.take (h : Th w0 sa sb sc ka kb kc La Lb Lc U W) (t : Nat) (ht : (t : Int) ≤ 18446744073709551615) (hfew : La.length ≤ 500) :
    Calls Tryz.prog 16 #[.pointer (some ⟨sa, 0, none⟩), .int .u64 (t : Int)] W fun e w' => ∃ A c M, e = .returned (.tuple #[.slice A (trace La t).length c, .bool (decide (t ∈ trs La))]) ∧ pns M = trace La t ∧ Sps w' A c M ∧ Th w0 sa sb sc ka kb kc (rest La t) Lb Lc (ubs A M ++ U) w' ∧ (∀ x ∈ U, w'.heap[x]? = W.heap[x]?) ∧ W.heap.size ≤ w'.heap.size := by
  obtain ⟨ca, cb, cc, pa, pb, pc, h, n1, n2, n3⟩ := h.ex
  refine (h.a.take t ht hfew).mono ?_
  rintro e w' ⟨A, c, M, col', p', rfl, q1, o1, hL, F, X⟩
  have hs := h.step hL F
  refine ⟨A, c, M, rfl, q1, o1.sps, ⟨_, _, _, _, _, _, ⟨hs.a, hs.b, hs.c, hs.ab, hs.ac, hs.ba, hs.bc, hs.xa, hs.xb, hs.sab, hs.sac, hs.sba, hs.sbc, hs.sca, hs.scb, fun x hx => ?_⟩, n1.fix X, n2, n3⟩, h.kept F, F.fr.size⟩
  rcases List.mem_append.1 hx with hx | hx
  · have h0 : col' x = 0 ∧ x < w'.heap.size := by
      rcases mem_ubs.1 hx with ⟨a, ha, rfl⟩ | ⟨y, hy, a, ha, rfl⟩
      · exact o1.a0 a ha
      · exact ⟨o1.c0 y hy a ha, (B07.Hd.lt (o1.hd y hy) a ha).2⟩
    exact ⟨not_pp0 h0.1, fun e => by have := hs.ba x e; omega, fun e => by have := hs.xa x e; omega, h0.2⟩
  · exact hs.fr x hx
end
end Go.Proofs.YtdmibolbpgondaaGreat.X15
end

section
set_option linter.unusedSimpArgs false
set_option linter.unusedVariables false
namespace Go.Proofs.YtdmibolbpgondaaGreat.X15
open Go.Proofs.YtdmibolbpgondaaGreat.P06
open Go.Proofs.YtdmibolbpgondaaGreat.B07 (Pn OkN OkA OkP)
open Go.Proofs.YtdmibolbpgondaaGreat.U12 (It Lt)
theorem mem_tk {α : Type} {L : List α} {k : Nat} {x : α} (h : x ∈ L.take k) : ∃ i, ∃ hi : i < L.length, i < k ∧ L[i] = x := by
  obtain ⟨i, hi, he⟩ := List.mem_iff_getElem.1 h
  rw [List.length_take] at hi
  rw [List.getElem_take] at he
  exact ⟨i, by omega, by omega, he⟩
/-- without these traces -/
def rems (L : List Pn) : List Nat → List Pn
  | [] => L
  | t :: ts => rems (rest L t) ts
theorem rems_app (L : List Pn) (ts us : List Nat) : rems L (ts ++ us) = rems (rems L ts) us := by
  induction ts generalizing L with
  | nil => rfl
  | cons t ts ih => exact ih _
theorem mem_rems {L : List Pn} {ts : List Nat} {x : Pn} : x ∈ rems L ts ↔ x ∈ L ∧ tn x ∉ ts := by
  induction ts generalizing L with
  | nil => simp [rems]
  | cons t ts ih =>
    rw [rems, ih, mem_rest]
    simp only [List.mem_cons, not_or]
    constructor
    · rintro ⟨⟨a, b⟩, c⟩; exact ⟨a, b, c⟩
    · rintro ⟨a, b, c⟩; exact ⟨⟨a, b⟩, c⟩
theorem rems_trace {L : List Pn} {ts : List Nat} {t : Nat} (h : t ∉ ts) : trace (rems L ts) t = trace L t := by
  induction ts generalizing L with
  | nil => rfl
  | cons u ts ih =>
    simp only [List.mem_cons, not_or] at h
    rw [rems, ih h.2, trace_rest_other h.1]
theorem rems_so {L : List Pn} (h : So L) (ts : List Nat) : So (rems L ts) := by
  induction ts generalizing L with
  | nil => exact h
  | cons t ts ih => exact ih (rest_so h t)
theorem rems_len (L : List Pn) (ts : List Nat) : (rems L ts).length ≤ L.length := by
  induction ts generalizing L with
  | nil => exact Nat.le_refl _
  | cons t ts ih =>
    have := ih (rest L t)
    have := part_len L t
    rw [rems]
    omega
theorem rems_step {L : List Pn} {ts : List Nat} {k : Nat} (h : k < ts.length) : rems L (ts.take (k + 1)) = rest (rems L (ts.take k)) ts[k] := by
  rw [List.take_succ_eq_append_getElem h, rems_app]
  rfl
theorem rems_all {L : List Pn} {ts : List Nat} (h : ∀ t, t ∈ trs L → t ∈ ts) : rems L ts = [] := by
  refine List.eq_nil_iff_forall_not_mem.2 fun x hx => ?_
  obtain ⟨h1, h2⟩ := mem_rems.1 hx
  exact h2 (h _ (mem_trs.2 ⟨x, h1, rfl⟩))
theorem rems_in {L : List Pn} {ts : List Nat} {t : Nat} (h : t ∈ trs L) (hn : t ∉ ts) : t ∈ trs (rems L ts) := by
  rw [trs_trace, rems_trace hn]
  exact trs_trace.1 h
/-- all of a list's traces, by their deadlines -/
abbrev als (G : Nat) (L : List Pn) : List Nat := (dqs G L).map (·.1)
theorem als_len (G : Nat) (L : List Pn) : (als G L).length = (trs L).length := by rw [List.length_map, dqs_len]
theorem als_nodup (G : Nat) (L : List Pn) : (als G L).Nodup := dqs_nodup G L
theorem mem_als {G : Nat} {L : List Pn} {t : Nat} : t ∈ als G L ↔ t ∈ trs L := by
  rw [List.mem_map]
  constructor
  · rintro ⟨y, hy, rfl⟩
    obtain ⟨u, hu, rfl⟩ := mem_dqs.1 hy
    exact hu
  · intro h
    exact ⟨_, mem_dqs.2 ⟨t, h, rfl⟩, rfl⟩
theorem due_als {G : Nat} {L : List Pn} {m : Nat} (h : ∀ t ∈ trs L, dl G L t ≤ m) : due G L m = als G L := by
  unfold due U12.due
  rw [List.filter_eq_self.2]
  intro x hx
  obtain ⟨t, ht, rfl⟩ := mem_dqs.1 hx
  simpa using h t ht
theorem due_len (G : Nat) (L : List Pn) (m : Nat) : (due G L m).length ≤ (als G L).length := by
  unfold due U12.due
  rw [List.length_map, List.length_map]
  exact List.length_filter_le _ _
theorem tw_len {α : Type} (p : α → Bool) : ∀ (l : List α) (i : Nat) (h : i < l.length) , (l.Pairwise fun a b => p b = true → p a = true) → (i < (l.takeWhile p).length ↔ p l[i] = true)
  | [], _, h, _ => by simp at h
  | x :: l, i, h, hs => by
    have h1 := List.pairwise_cons.1 hs
    by_cases hx : p x = true
    · rw [List.takeWhile_cons_of_pos hx]
      cases i with
      | zero => simp [hx]
      | succ i =>
        have := tw_len p l i (by simpa using h) h1.2
        simpa using this
    · rw [List.takeWhile_cons_of_neg hx]
      cases i with
      | zero => simp [hx]
      | succ i =>
        have hi : i < l.length := by simpa using h
        have : ¬ p l[i] = true := fun e => hx (h1.1 _ (List.getElem_mem hi) e)
        simp [this]
theorem due_iff (G : Nat) (L : List Pn) (m : Nat) {i : Nat} (h : i < (als G L).length) : i < (due G L m).length ↔ dl G L (als G L)[i] ≤ m := by
  have hd : i < (dqs G L).length := by simpa using h
  have hs := dqs_sorted G L
  have hx := mem_dqs.1 (List.getElem_mem hd)
  obtain ⟨t, ht, e⟩ := hx
  have e1 : (als G L)[i] = t := by rw [List.getElem_map, e]
  have := tw_len (fun x : It => decide (x.2 ≤ m)) (dqs G L) i hd (hs.imp fun {a b} hl => by
    intro h
    have h := of_decide_eq_true h
    unfold Lt at hl
    exact decide_eq_true (by omega))
  unfold due
  rw [List.length_map, U12.due_take hs, this, e1, e]
  simp
theorem due_get (G : Nat) (L : List Pn) (m : Nat) {i : Nat} (h : i < (due G L m).length) : (due G L m)[i] = (als G L)[i]'(Nat.lt_of_lt_of_le h (due_len G L m)) := by
  have hs := dqs_sorted G L
  have key : ∀ (l : List It) (p : It → Bool) (i : Nat) (h : i < (l.takeWhile p).length), (l.takeWhile p)[i] = l[i]'(Nat.lt_of_lt_of_le h (List.takeWhile_prefix p).length_le) := fun l p i h => by
    have := List.takeWhile_prefix (l := l) p
    exact this.getElem h
  unfold due at h ⊢
  simp only [U12.due_take hs] at h ⊢
  rw [List.length_map] at h
  simp only [List.getElem_map, key (dqs G L) _ i h]
theorem dl_le {L : List Pn} (hok : ∀ x ∈ L, Okx x) (t : Nat) : mx (trace L t) ≤ MT := by
  by_cases e : trace L t = []
  · rw [e]; exact Nat.zero_le _
  · obtain ⟨x, h1, h2⟩ := mx_in e
    rw [← h2]
    exact (hok x (mem_trace.1 h1).1).en.2
/-- the spans of a trace: their IDs rise -/
theorem trace_ids {L : List Pn} (h : So L) (hok : ∀ x ∈ L, Okx x) (t : Nat) {i j : Nat} (hij : i < j) (hj : j < (trace L t).length) : idn ((trace L t)[i]'(by omega)) < idn (trace L t)[j] := by
  have h1 := List.pairwise_iff_getElem.1 (trace_so h t) i j (by omega) hj hij
  have a := mem_trace.1 (List.getElem_mem (show i < (trace L t).length by omega))
  have b := mem_trace.1 (List.getElem_mem hj)
  have ka := (hok _ a.1).tn.1
  have kb := (hok _ b.1).tn.1
  have ia := (hok _ a.1).idn.1
  have ib := (hok _ b.1).idn.1
  rw [a.2] at ka
  rw [b.2] at kb
  unfold Kl at h1
  omega
theorem mx_take {X : List Pn} {k : Nat} (h : k < X.length) : mx (X.take (k + 1)) = max (mx (X.take k)) (en X[k]) := by
  rw [List.take_succ_eq_append_getElem h, mx_app]
  simp [mx]
end Go.Proofs.YtdmibolbpgondaaGreat.X15
end

section
set_option linter.unusedSimpArgs false
set_option linter.unusedVariables false
namespace Go.Proofs.YtdmibolbpgondaaGreat.X15
open Go.RowKit Go.Lib Go.Maps Go.Proofs.YtdmibolbpgondaaGreat.Wd Go.Proofs.YtdmibolbpgondaaGreat.P06
open Go.Proofs.YtdmibolbpgondaaGreat.B07 (Pn OkN OkA OkP Spn Sps pns tenA ten)
open Go.Proofs.YtdmibolbpgondaaGreat.D09 (TenW)
section
variable {w0 w w' W W' w1 w2 w3 w4 : World} {ca ca' cb cb' cc p q r : Nat → Nat} {sa sb sc : Nat} {pa pa' pb pc : Pr} {La La' Lb Lc L : List Pn} {U : List Nat}
theorem asd3_1 {x : Nat} (h : Pp (asd (asd p q) r x)) : asd (asd q r) p x = 5 := asd_in (asd_pp (asd_pp h).2).2
theorem asd3_2 {x : Nat} (h : Pp (asd (asd p q) r x)) : asd (asd r p) q x = 5 := by
  obtain ⟨_, h2⟩ := asd_pp h
  obtain ⟨h3, h4⟩ := asd_pp h2
  rw [asd_out h3]
  exact asd_in h4
theorem asd3_0 {x : Nat} (h1 : p x = 0) (h2 : q x = 0) (h3 : r x = 0) : asd (asd p q) r x = 0 := by
  rw [asd_out (not_pp0 h3), asd_out (not_pp0 h2), h1]
theorem Lw.wear2 (h : Lw w0 ca sa pa [] w) (hb : ∀ x, cb x ≠ 0 → ca x = 0 ∧ x < w.heap.size) (hc : ∀ x, cc x ≠ 0 → ca x = 0 ∧ x < w.heap.size) (kb : cb sa = 0) (kc : cc sa = 0) : Lw w0 (asd (asd ca cb) cc) sa pa [] w :=
  (h.wear (fun x hx => .inl (hb x hx.1).1) (fun x hx => (hb x hx.1).2) kb).wear (fun x hx => by
    by_cases e : Pp (cb x)
    · exact .inr (asd_in e)
    · exact .inl (by rw [asd_out e]; exact (hc x hx.1).1)) (fun x hx => (hc x hx.1).2) kc
variable {ka kb kc : Nat × Nat × Nat}
/-- three that were made one behind the other -/
theorem Th.start (b1 : Below w0.heap.size w0 w1) (A : Sd w2 ca sa pa []) (na : ∀ x, ca x ≠ 0 → w1.heap.size ≤ x) (bA : Below w1.heap.size w1 w2) (B : Sd w3 cb sb pb []) (nb : ∀ x, cb x ≠ 0 → w2.heap.size ≤ x) (lb : w2.heap.size ≤ sb) (bB : Below w2.heap.size w2 w3)
    (C : Sd w4 cc sc pc []) (nc : ∀ x, cc x ≠ 0 → w3.heap.size ≤ x) (lc : w3.heap.size ≤ sc) (bC : Below w3.heap.size w3 w4) (n1 : Nu pa ka) (n2 : Nu pb kb) (n3 : Nu pc kc) : Th w0 sa sb sc ka kb kc [] [] [] [] w4 := by
  have h12 := bA.size
  have h23 := bB.size
  have h34 := bC.size
  have h01 := b1.size
  have bel2 := b1.trans (bA.mono h01)
  have bel3 := bel2.trans (bB.mono bel2.size)
  have bel4 := bel3.trans (bC.mono bel3.size)
  have ra := A.rm.rx.lt
  have rb := B.rm.rx.lt
  have rc := C.rm.rx.lt
  have la : sa < w2.heap.size := World.block_lt_of_cell? _ _ A.c
  have lb' : sb < w3.heap.size := World.block_lt_of_cell? _ _ B.c
  have z : ∀ {c : Nat → Nat} {x : Nat}, (c x ≠ 0 → False) → c x = 0 := fun h => Classical.byContradiction h
  have A4 : Lw w0 ca sa pa [] w4 := ⟨(A.below bB).below bC, big_nil _ _, bel4, fun x hx _ => by have := na x hx; omega⟩
  have B4 : Lw w0 cb sb pb [] w4 := ⟨B.below bC, big_nil _ _, bel4, fun x hx _ => by have := nb x hx; omega⟩
  have C4 : Lw w0 cc sc pc [] w4 := ⟨C, big_nil _ _, bel4, fun x hx _ => by have := nc x hx; omega⟩
  have ab : ∀ x, cb x ≠ 0 → ca x = 0 ∧ x < w4.heap.size := fun x hx => ⟨z fun h => by have := nb x hx; have := ra x h; omega, by have := rb x hx; omega⟩
  have ac : ∀ x, cc x ≠ 0 → ca x = 0 ∧ x < w4.heap.size := fun x hx => ⟨z fun h => by have := nc x hx; have := ra x h; omega, rc x hx⟩
  have ba : ∀ x, ca x ≠ 0 → cb x = 0 ∧ x < w4.heap.size := fun x hx => ⟨z fun h => by have := nb x h; have := ra x hx; omega, by have := ra x hx; omega⟩
  have bc : ∀ x, cc x ≠ 0 → cb x = 0 ∧ x < w4.heap.size := fun x hx => ⟨z fun h => by have := nc x hx; have := rb x h; omega, rc x hx⟩
  have xa : ∀ x, ca x ≠ 0 → cc x = 0 ∧ x < w4.heap.size := fun x hx => ⟨z fun h => by have := nc x h; have := ra x hx; omega, by have := ra x hx; omega⟩
  have xb : ∀ x, cb x ≠ 0 → cc x = 0 ∧ x < w4.heap.size := fun x hx => ⟨z fun h => by have := nc x h; have := rb x hx; omega, by have := rb x hx; omega⟩
  have ka_b : ca sb = 0 := z fun h => by have := ra _ h; omega
  have ka_c : ca sc = 0 := z fun h => by have := ra _ h; omega
  have kb_a : cb sa = 0 := z fun h => by have := nb _ h; omega
  have kb_c : cb sc = 0 := z fun h => by have := rb _ h; omega
  have kc_a : cc sa = 0 := z fun h => by have := nc _ h; omega
  have kc_b : cc sb = 0 := z fun h => by have := nc _ h; omega
  exact ⟨asd (asd ca cb) cc, asd (asd cb cc) ca, asd (asd cc ca) cb, pa, pb, pc,
    ⟨A4.wear2 ab ac kb_a kc_a, B4.wear2 bc ba kc_b ka_b, C4.wear2 xa xb ka_c kb_c, fun x => asd3_1, fun x => asd3_2, fun x => asd3_2, fun x => asd3_1, fun x => asd3_1, fun x => asd3_2,
      asd3_0 ka_b B.k kc_b, asd3_0 ka_c kb_c C.k, asd3_0 kb_a kc_a A.k, asd3_0 kb_c C.k ka_c, asd3_0 kc_a A.k kb_a, asd3_0 kc_b ka_b B.k, fun x hx => (by cases hx)⟩, n1, n2, n3⟩
/-- a slice told, whose block is new -/
theorem Th.tolds (h : Th w0 sa sb sc ka kb kc La Lb Lc U W) (hb : Below W.heap.size W W') {V : Option Addr} (hV : ∀ a, V = some a → W.heap.size ≤ a.block ∧ a.block < W'.heap.size) : Th w0 sa sb sc ka kb kc La Lb Lc (V.toList.map (·.block) ++ U) W' := by
  cases V with
  | none => exact h.below hb
  | some a => exact h.push hb (hV a rfl).1 (hV a rfl).2
theorem us_tolds {V : Option Addr} {d : Nat} {l : List Nat} (h : Us W V d l) (k : ∀ x ∈ V.toList.map (·.block), W'.heap[x]? = W.heap[x]?) : Us W' V d l :=
  ⟨rd_block h.1 fun a ha => k _ (by subst ha; simp), h.2⟩
theorem us_at3 {d j t : Nat} {ad : Addr} {l : List Nat} (h : Us W' (some ad) d l) (hj : j < l.length) (c : W.cell? (ad.add j) = some (.int .u64 (t : Int))) (h' : Us W (some ad) d l) : W'.cell? (ad.add j) = some (.int .u64 (t : Int)) := by
  obtain ⟨a1, e1, c1, _⟩ := h.get hj
  obtain ⟨a2, e2, c2, _⟩ := h'.get hj
  cases e1
  cases e2
  rw [c2] at c
  rw [c1, c]
/-- what may be is no more than is looked at -/
theorem may_nr {x : Pn} (h : May x) : Nr x := by
  cases hf : far x.1 x.2 with
  | false => exact nr_of hf
  | true => exact absurd h (far_may hf)
theorem ad_keps {G S B : Nat} {L L' T g xs : List Pn} {x : Pn} {k : Int} (h : Ad G S B L x k L' T g) (hk : Kep xs L) (ho : ∀ y ∈ L, Okx y) (hl : L.length ≤ 50) (hS : 100 ≤ S) (hB : 100000000 ≤ B) : Kep (xs ++ [x]) L' ∧ g = [] := by
  by_cases hm : May x
  · exact ad_kep h hk (fun y hy => (ho y hy).r) (may_nr hm) hl hS hB
  · rcases h with ⟨_, h, _⟩ | ⟨_, _, rfl, rfl, rfl⟩
    · exact absurd h hm
    · exact ⟨hk.no hm, rfl⟩
theorem ad_same {G S B G' S' B' : Nat} {L L' T g M M' T' g' : List Pn} {x : Pn} {k k' : Int} (h : Ad G S B L x k L' T g) (h' : Ad G' S' B' M x k' M' T' g') : k' = k := by
  rcases h with ⟨h1, h2, _⟩ | ⟨h1, h2, _⟩ <;> rcases h' with ⟨h3, h4, _⟩ | ⟨h3, h4, _⟩
  · omega
  · exact absurd h2 h4
  · exact absurd h4 h2
  · omega
theorem ofw_at (s : Sp) (A : Option Addr) (c n : Nat) (l : List At) (w : World) (h : Ats w A c l) (hn : l.length = n) (hm : n * 48 ≤ 140737488355328) : Calls Tryz.prog 11 #[spv s (.slice A n c)] w (OfOut w s n l) := by
  subst hn
  exact ofw_any s A c l w h hm
/-- the k-th span of a list that came in, as it lies in memory -/
theorem sps_wide {w : World} {A : Option Addr} {c n k : Nat} {M : List Spn} (h : Sps w A c M) (hok : ∀ x ∈ pns M, OkP x) (hw : ∀ x ∈ M, x.l.length * 48 ≤ 140737488355328) (hn : M.length = n) (hk : k < n) :
    ∃ ad pp s A1 c1 l m, A = some ad ∧ ad.add (k * 10) = pp ∧ TenW w pp s (.slice A1 m c1) ∧ Ats w A1 c1 l ∧ OkN s ∧ l.length = m ∧ m * 48 ≤ 140737488355328 ∧ (pns M)[k]? = some (s, l) := by
  have hkl : k < M.length := by rw [hn]; exact hk
  obtain ⟨ad, pp, hA, hpp, F⟩ := h.get hkl
  have hT := h.ats _ (List.getElem_mem hkl)
  have hN : OkN M[k].s := (hok M[k].pn (List.mem_map.2 ⟨_, List.getElem_mem hkl, rfl⟩)).1
  have hp : (pns M)[k]? = some (M[k].s, M[k].l) := by rw [List.getElem?_eq_getElem (by simpa [pns] using hkl)]; exact congrArg some (B07.pns_get M hkl)
  have h48 := hw _ (List.getElem_mem hkl)
  generalize M[k] = x at *
  obtain ⟨s, A1, c1, l⟩ := x
  exact ⟨ad, pp, s, A1, c1, l, l.length, hA, hpp, TenW.of F rfl, hT, hN, rfl, h48, hp⟩
/-- what the first loop keeps -/
structure Od (w : World) (sa sb sc y z : Nat) (P : List Pn) (k cm td : Nat) (La Lb Lc : List Pn) (U : List Nat) (W : World) : Prop where
  th : Th w sa sb sc (3, 100, 1099511627776) (3, 100, 1099511627776) (3, 1 + z, 1099511627776) La Lb Lc U W
  ka : Kep (P.take k) La
  kb : Kep (oths P y k) Lb
  ct : Lc.length + td = cm
  cm : cm ≤ k
  la : La.length ≤ k
  lb : Lb.length ≤ k
theorem ad_len2 {G S B : Nat} {L L' T g : List Pn} {x : Pn} {k : Int} (h : Ad G S B L x k L' T g) (hs : So L) : L'.length + T.length + g.length ≤ L.length + 1 := by
  rcases ad_count h hs with h | h <;> omega
theorem take_snoc {P : List Pn} {k : Nat} {x : Pn} (h : P[k]? = some x) : P.take (k + 1) = P.take k ++ [x] := by
  obtain ⟨hk, he⟩ := List.getElem?_eq_some_iff.1 h
  rw [List.take_succ_eq_append_getElem hk, he]
theorem oths_snoc {P : List Pn} {y k j : Nat} {x : Pn} (hj : oth P.length y k = j) (h : P[j]? = some x) : oths P y (k + 1) = oths P y k ++ [x] := by
  subst hj
  obtain ⟨hk, he⟩ := List.getElem?_eq_some_iff.1 h
  rw [oths_step hk, he]
end
end Go.Proofs.YtdmibolbpgondaaGreat.X15
end
