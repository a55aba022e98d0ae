/-
  There and back in plain lists: what is put is got; what is got is put as the same bytes.
-/
import Derived.Test.YtndcdidepdcmnaaKB7Get
set_option linter.unusedSimpArgs false
set_option linter.unusedVariables false
namespace Go.Proofs.Ytndcdidepdcmnaa.B07
open Go.Proofs.Ytndcdidepdcmnaa.V01 Go.Proofs.Ytndcdidepdcmnaa.Wd Go.Proofs.Ytndcdidepdcmnaa.V04 Go.Proofs.Ytndcdidepdcmnaa.P06
open Go.Proofs.Ytndcdidepdcmnaa.S05 (ix ix_lt ix_get ix_of nd_inj tb tx one readF rdF rtF read_back)

/-! ### what is put is got -/
theorem num_vby {n : Nat} (h : n ≤ 18446744073709551615) (r : List UInt8) (ms : Nat × Bool) : num (vby n ++ r, ms) = .ok (n, (r, ms)) := by
  have hg := get_put h r
  simp [num, hg]
theorem cnt_vby {n most : Nat} (hm : n ≤ most) (hb : most ≤ 1000000) (r : List UInt8) (ms : Nat × Bool) : cnt most (vby n ++ r, ms) = .ok (n, (r, ms)) := by
  unfold cnt bnd
  rw [num_vby (by omega) r ms]
  simp only
  rw [if_neg (by omega)]
  rfl
theorem txt_vby {t : List ByteArray} {s : ByteArray} (h : s ∈ t) (ht : t.length ≤ 4096) (r : List UInt8) (ms : Nat × Bool) : txt t (vby (ix t s) ++ r, ms) = .ok (s, (r, meet ms (ix t s))) := by
  have hl := ix_lt h
  have hs : t[ix t s]? = some s := by rw [List.getElem?_eq_getElem hl, ix_get h]
  unfold txt bnd
  rw [num_vby (by omega) r ms]
  simp only
  rw [txtK_some hs]
  rfl
theorem oct_byte {z : Int} (h : inB z = true) (r : List UInt8) (ms : Nat × Bool) : oct (byte z :: r, ms) = .ok (z.toNat, (r, ms)) := by
  have hz : 0 ≤ z ∧ z ≤ 255 := by simpa [inB] using h
  have e : (byte z).toNat = z.toNat := by
    unfold byte
    rw [UInt8.toNat_ofNat_of_lt' (by show _ < 256; omega)]
  simp [oct, e]
/-- the number of an attribute is within its type -/
def okA (a : At) : Prop := -9223372036854775808 ≤ a.N ∧ a.N ≤ 9223372036854775807
theorem val_vbs {a : At} (hr : rightA a = true) (hk : okA a) (r : List UInt8) (ms : Nat × Bool) : val (vbs a.K a.N a.S ++ r, ms) = .ok (⟨a.K, a.N, a.S⟩, (r, ms)) := by
  have hb := back (K := a.K) (N := a.N) (S := a.S) hr hk.1 hk.2 r
  simp [val, hb]
/-- texts that come up -/
def meets (t : List ByteArray) (ms : Nat × Bool) (ss : List ByteArray) : Nat × Bool := ss.foldl (fun m s => meet m (ix t s)) ms
theorem meets_app (t : List ByteArray) (ms : Nat × Bool) (a b : List ByteArray) : meets t ms (a ++ b) = meets t (meets t ms a) b := by simp [meets]
theorem meets_cons (t : List ByteArray) (ms : Nat × Bool) (s : ByteArray) (b : List ByteArray) : meets t ms (s :: b) = meets t (meet ms (ix t s)) b := rfl
theorem atsK_put {t : List ByteArray} (ht : t.length ≤ 4096) (r : List UInt8) : ∀ (l acc : List At) (ms : Nat × Bool), (∀ a ∈ l, rightA a = true ∧ okA a ∧ a.key ∈ t) →
    atsK t l.length acc (l.flatMap (atB t) ++ r, ms) = .ok (acc ++ l, (r, meets t ms (l.map At.key)))
  | [], acc, ms, _ => by simp [atsK, ret, meets]
  | a :: l, acc, ms, h => by
    obtain ⟨h1, h2, h3⟩ := h a (by simp)
    have ih := atsK_put ht r l (acc ++ [a]) (meet ms (ix t a.key)) fun b hb => h b (by simp [hb])
    simp only [List.length_cons, atsK, List.flatMap_cons, atB, List.append_assoc]
    unfold bnd
    rw [txt_vby h3 ht]
    simp only
    rw [val_vbs h1 h2]
    simp only
    have e : (⟨a.key, a.K, a.N, a.S⟩ : At) = a := rfl
    rw [e]
    rw [ih, List.map_cons, meets_cons]
    simp
/-- the numbers of a span are within their types -/
structure okN (s : Sp) : Prop where
  a0 : 0 ≤ s.T
  a1 : s.T ≤ 18446744073709551615
  b0 : 0 ≤ s.I
  b1 : s.I ≤ 18446744073709551615
  c0 : 0 ≤ s.P
  c1 : s.P ≤ 18446744073709551615
  d0 : 0 ≤ s.t0
  d1 : s.t0 ≤ 18446744073709551615
  e0 : 0 ≤ s.t1
  e1 : s.t1 ≤ 18446744073709551615
/-- a span that can be put, by a table that has its texts -/
structure Fit7 (t : List ByteArray) (x : Pn) : Prop where
  n : okN x.1
  kd : inB x.1.kd = true
  st : inB x.1.st = true
  at_ : ∀ a ∈ x.2, rightA a = true ∧ okA a
  len : x.2.length ≤ 16
  tx : ∀ s ∈ tex x, s ∈ t
theorem spn_put {t : List ByteArray} (ht : t.length ≤ 4096) {x : Pn} (h : Fit7 t x) (r : List UInt8) (ms : Nat × Bool) : spn t (spB t x ++ r, ms) = .ok (x, (r, meets t ms (tex x))) := by
  obtain ⟨s, l⟩ := x
  have hn := h.n
  have h1 : s.sv ∈ t := h.tx _ (by simp [tex])
  have h2 : s.nm ∈ t := h.tx _ (by simp [tex])
  have h3 : ∀ a ∈ l, rightA a = true ∧ okA a ∧ a.key ∈ t := fun a ha => ⟨(h.at_ a ha).1, (h.at_ a ha).2, h.tx _ (by simp only [tex, List.mem_cons, List.mem_map]; exact .inr (.inr ⟨a, ha, rfl⟩))⟩
  have hlen : l.length ≤ 16 := h.len
  have hkd : 0 ≤ s.kd ∧ s.kd ≤ 255 := by simpa [inB] using h.kd
  have hst : 0 ≤ s.st ∧ s.st ≤ 255 := by simpa [inB] using h.st
  dsimp only at hn
  have a0 := hn.a0
  have a1 := hn.a1
  have b0 := hn.b0
  have b1 := hn.b1
  have c0 := hn.c0
  have c1 := hn.c1
  have d0 := hn.d0
  have d1 := hn.d1
  have e0 := hn.e0
  have e1 := hn.e1
  unfold spn spB headB twoB midB
  simp only [List.append_assoc]
  simp only [bnd]
  rw [num_vby (by omega)]
  simp only
  rw [num_vby (by omega)]
  simp only
  rw [num_vby (by omega)]
  simp only
  rw [txt_vby h1 ht]
  simp only
  rw [txt_vby h2 ht]
  simp only [List.cons_append, List.nil_append]
  rw [oct_byte h.kd]
  simp only
  rw [oct_byte h.st]
  simp only
  rw [num_vby (by omega)]
  simp only
  rw [num_vby (by omega)]
  simp only [ats, bnd]
  rw [cnt_vby (most := 16) hlen (by omega)]
  simp only
  rw [atsK_put ht r l [] _ h3]
  simp only [ret, List.nil_append, Int.toNat_of_nonneg a0, Int.toNat_of_nonneg b0, Int.toNat_of_nonneg c0, Int.toNat_of_nonneg d0, Int.toNat_of_nonneg e0, Int.toNat_of_nonneg hkd.1, Int.toNat_of_nonneg hst.1]
  rw [tex, meets_cons, meets_cons]
theorem spsK_put {t : List ByteArray} (ht : t.length ≤ 4096) (r : List UInt8) : ∀ (L acc : List Pn) (ms : Nat × Bool), (∀ x ∈ L, Fit7 t x) → spsK t L.length acc (L.flatMap (spB t) ++ r, ms) = .ok (acc ++ L, (r, meets t ms (L.flatMap tex)))
  | [], acc, ms, _ => by simp [spsK, ret, meets]
  | x :: L, acc, ms, h => by
    have ih := spsK_put ht r L (acc ++ [x]) (meets t ms (tex x)) fun y hy => h y (by simp [hy])
    simp only [List.length_cons, spsK, List.flatMap_cons, List.append_assoc, bnd]
    rw [spn_put ht (h x (by simp))]
    simp only
    rw [ih, meets_app]
    simp
/-- texts in their own table's order: none is skipped -/
theorem meets_own (U : List ByteArray) : ∀ (ss T t : List ByteArray), t = adds T ss ++ U → meets t (T.length, false) ss = ((adds T ss).length, false)
  | [], T, t, _ => rfl
  | s :: ss, T, t, h => by
    rw [adds_cons] at h ⊢
    rw [meets_cons]
    have ih := meets_own U ss (add T s) t h
    obtain ⟨V, hV⟩ := adds_pre ss (add T s)
    by_cases hs : s ∈ T
    · rw [add_in hs] at ih hV ⊢
      have e : ix t s = ix T s := by rw [h, add_in hs, hV, List.append_assoc, ix_app _ hs]
      have hl := ix_lt hs
      have : meet (T.length, false) (ix t s) = (T.length, false) := by
        unfold meet
        rw [e, if_neg (by show ¬ ix T s = T.length; omega), if_neg (by show ¬ T.length < ix T s; omega)]
      rw [this]
      exact ih
    · rw [add_not hs] at ih hV ⊢
      have e : ix t s = T.length := by rw [h, add_not hs, hV, List.append_assoc, ix_app (T := T ++ [s]) _ (by simp), ix_new hs]
      have : meet (T.length, false) (ix t s) = (T.length + 1, false) := by
        unfold meet
        rw [e, if_pos rfl]
      rw [this]
      simpa using ih
theorem ck_fit {x : Pn} {t : List ByteArray} (h : ck x = 0) (hn : okN x.1) (ha : ∀ a ∈ x.2, okA a) (ht : ∀ s ∈ tex x, s ∈ t) : Fit7 t x := by
  obtain ⟨hb, hl⟩ := ck_ok h
  simp only [bad, Bool.or_eq_false_iff, Bool.not_eq_false'] at hb
  simp only [lng, Bool.or_eq_false_iff, decide_eq_false_iff_not] at hl
  exact ⟨hn, hb.1.1, hb.1.2, fun a h => ⟨List.all_eq_true.1 hb.2 a h, ha a h⟩, by omega, ht⟩
theorem ck_size {x : Pn} (h : ck x = 0) : ∀ s ∈ tex x, s.size ≤ 4096 := by
  obtain ⟨_, hl⟩ := ck_ok h
  simp only [lng, Bool.or_eq_false_iff, decide_eq_false_iff_not, List.any_eq_false, decide_eq_true_eq] at hl
  intro s hs
  simp only [tex, List.mem_cons, List.mem_map] at hs
  rcases hs with rfl | rfl | ⟨a, ha, rfl⟩
  · omega
  · omega
  · have := hl.2 a ha; omega
/-- the bytes of L, and what is behind them, read as L -/
theorem read_put {L : List Pn} (hck : ∀ x ∈ L, ck x = 0) (hn : ∀ x ∈ L, okN x.1 ∧ ∀ a ∈ x.2, okA a) (ht : (texts L).length ≤ 4096) (hm : L.length ≤ 1024) (r : List UInt8) :
    readF (okB L ++ r) = (texts L, (tb (texts L)).length, 0) ∧ sps (texts L) ((okB L ++ r).drop (tb (texts L)).length, 0, false) = .ok (L, (r, ((texts L).length, false))) := by
  have hz : ∀ s ∈ texts L, s.size ≤ 4096 := fun s hs => by
    obtain ⟨x, hx, h⟩ := texts_of hs
    exact ck_size (hck x hx) s h
  have e : okB L ++ r = tb (texts L) ++ (vby L.length ++ (L.flatMap (spB (texts L)) ++ r)) := by simp [okB]
  refine ⟨by rw [e]; exact read_back _ _ (texts_nodup L) ht hz, ?_⟩
  rw [e, List.drop_left]
  unfold sps
  simp only [bnd]
  rw [cnt_vby (most := 1024) hm (by omega)]
  simp only
  rw [spsK_put ht r L [] _ fun x hx => ck_fit (hck x hx) (hn x hx).1 (hn x hx).2 (texts_mem hx)]
  have := meets_own [] (L.flatMap tex) [] (texts L) (by simp [texts])
  simp only [List.length_nil] at this
  rw [this, List.nil_append]
  rfl
/-- what is put is got -/
theorem get_put_b {L : List Pn} (hn : ∀ x ∈ L, okN x.1 ∧ ∀ a ∈ x.2, okA a) (ht : (texts L).length ≤ 4096) {b : List UInt8} (h : putF L = (b, 0)) : getB b = .ok L ∧ b = okB L ∧ L.length ≤ 1024 ∧ (∀ x ∈ L, ck x = 0) ∧ b.length ≤ 65536 := by
  unfold putF at h
  split at h
  · cases h
  · rename_i h1
    split at h
    · rename_i h2
      injection h with _ h
      exact absurd h h2
    · rename_i h2
      split at h
      · cases h
      · rename_i h3
        injection h with h _
        subst h
        have hck := cks_zero.1 (Classical.not_not.1 h2)
        have hr := read_put hck hn ht (by omega) []
        rw [List.append_nil] at hr
        refine ⟨?_, rfl, by omega, hck, by omega⟩
        unfold getB
        rw [if_neg h3, hr.1]
        simp only [ne_eq, not_true_eq_false, if_false]
        rw [hr.2]
        simp [fin]
/-- one byte more: it is not got -/
theorem get_more {L : List Pn} (hn : ∀ x ∈ L, okN x.1 ∧ ∀ a ∈ x.2, okA a) (ht : (texts L).length ≤ 4096) (hck : ∀ x ∈ L, ck x = 0) (hm : L.length ≤ 1024) (y : UInt8) : ∃ e, getB (okB L ++ [y]) = .error e ∧ e ≠ 0 := by
  have hr := read_put hck hn ht hm [y]
  unfold getB
  split
  · exact ⟨2, rfl, by omega⟩
  · rw [hr.1]
    simp only [ne_eq, not_true_eq_false, if_false]
    rw [hr.2]
    exact ⟨11, by simp [fin], by omega⟩

/-! ### what is got is put as the same bytes -/
theorem getF_canon : ∀ (l : List Nat) (i acc n k : Nat), (∀ c ∈ l, c < 256) → i ≤ 9 → getF i acc l = (n, k, 0) →
    ∃ m, n = acc + m * 2 ^ (7 * i) ∧ i < k ∧ k ≤ i + l.length ∧ (0 < i → 0 < m) ∧ ∀ f, 9 ≤ f + i → l.take (k - i) = vb f m
  | [], i, acc, n, k, _, _, h => by simp [getF] at h
  | c :: r, i, acc, n, k, hc, hi, h => by
    rw [getF] at h
    split at h
    · simp at h
    · rename_i h9
      split at h
      · rename_i h1
        by_cases hi9 : i = 9
        · subst hi9
          -- a tenth byte that announces another: the eleventh is too many
          cases r with
          | nil => simp [getF] at h
          | cons d r =>
            rw [getF] at h
            simp at h
        · obtain ⟨m, hn, hk, hkl, hm, hv⟩ := getF_canon r (i + 1) (acc + c % 128 * 2 ^ (7 * i)) n k (fun d hd => hc d (by simp [hd])) (by omega) h
          have hm0 := hm (by omega)
          have hcc := hc c (by simp)
          refine ⟨c % 128 + 128 * m, ?_, by omega, by simp only [List.length_cons]; omega, fun _ => by omega, fun f hf => ?_⟩
          · have h4 : 2 ^ (7 * (i + 1)) = 128 * 2 ^ (7 * i) := by rw [Nat.mul_add, Nat.pow_add]; omega
            rw [hn, h4, Nat.add_mul, Nat.add_assoc]
            congr 2
            rw [Nat.mul_comm 128 m, Nat.mul_assoc]
          · obtain ⟨f', rfl⟩ : ∃ f', f = f' + 1 := ⟨f - 1, by omega⟩
            have e1 : k - i = k - (i + 1) + 1 := by omega
            rw [e1, List.take_succ_cons, hv f' (by omega)]
            have e2 : (c % 128 + 128 * m) % 128 + 128 = c := by omega
            have e3 : (c % 128 + 128 * m) / 128 = m := by omega
            rw [vb, if_neg (by omega), e2, e3]
      · rename_i h1
        split at h
        · simp at h
        · rename_i h2
          injection h with hn h
          injection h with hk _
          subst hk
          have e : c % 128 = c := by omega
          refine ⟨c, by rw [← hn, e], by omega, by simp, fun hi0 => ?_, fun f _ => ?_⟩
          · rcases Nat.eq_zero_or_pos c with h0 | h0
            · exact absurd ⟨h0, hi0⟩ h2
            · exact h0
          · rw [show i + 1 - i = 1 by omega, vb_small f c (by omega)]
            rfl
theorem b8_nat8 (l : List UInt8) : b8 (nat8 l) = l := by
  unfold b8 nat8
  rw [List.map_map]
  induction l with
  | nil => rfl
  | cons x l ih => rw [List.map_cons, ih]; simp
theorem canon {l : List UInt8} {n k : Nat} (h : getF 0 0 (nat8 l) = (n, k, 0)) : l = vby n ++ l.drop k ∧ n ≤ 18446744073709551615 := by
  have hle := getF_le l
  rw [h] at hle
  obtain ⟨m, hn, _, _, _, hv⟩ := getF_canon (nat8 l) 0 0 n k (fun c hc => by
    obtain ⟨x, _, rfl⟩ := List.mem_map.1 hc
    exact x.toNat_lt) (by omega) h
  have hm : m = n := by simpa using hn.symm
  subst hm
  have e := hv 9 (by omega)
  rw [Nat.sub_zero, ← nat8_take] at e
  have e2 : l.take k = vby m := by rw [← b8_nat8 (l.take k), e]; rfl
  exact ⟨by rw [← e2, List.take_append_drop], hle.1⟩
theorem num_inv {l r : List UInt8} {ms ms' : Nat × Bool} {n : Nat} (h : num (l, ms) = .ok (n, (r, ms'))) : l = vby n ++ r ∧ n ≤ 18446744073709551615 ∧ ms' = ms := by
  unfold num at h
  split at h
  · cases h
  · rename_i he
    injection h with h
    injection h with h1 h2
    injection h2 with h2 h3
    have hg : getF 0 0 (nat8 l) = (n, (getF 0 0 (nat8 l)).2.1, 0) := by
      have he' : (getF 0 0 (nat8 l)).2.2 = 0 := Classical.not_not.1 he
      exact Prod.ext h1 (Prod.ext rfl he')
    obtain ⟨c1, c2⟩ := canon hg
    exact ⟨by rw [← h2]; exact c1, c2, h3.symm⟩
theorem bnd_inv {α β : Type} {p : R7 α} {k : α → R7 β} {s s' : S7} {b : β} (h : bnd p k s = .ok (b, s')) : ∃ a s1, p s = .ok (a, s1) ∧ k a s1 = .ok (b, s') := by
  unfold bnd at h
  cases hp : p s with
  | error e => rw [hp] at h; cases h
  | ok x =>
    obtain ⟨a, s1⟩ := x
    rw [hp] at h
    exact ⟨a, s1, rfl, h⟩
theorem cnt_inv {most : Nat} {l r : List UInt8} {ms ms' : Nat × Bool} {n : Nat} (h : cnt most (l, ms) = .ok (n, (r, ms'))) : l = vby n ++ r ∧ n ≤ most ∧ ms' = ms := by
  obtain ⟨a, ⟨l1, ms1⟩, h1, h2⟩ := bnd_inv h
  obtain ⟨k1, _, k3⟩ := num_inv h1
  split at h2
  · cases h2
  · rename_i hm
    injection h2 with h2
    injection h2 with e1 h2
    injection h2 with e2 e3
    subst e1 e2 e3
    exact ⟨k1, by omega, k3⟩
theorem oct_inv {l r : List UInt8} {ms ms' : Nat × Bool} {n : Nat} (h : oct (l, ms) = .ok (n, (r, ms'))) : l = byte n :: r ∧ n ≤ 255 ∧ ms' = ms := by
  cases l with
  | nil => cases h
  | cons x l =>
    injection h with h
    injection h with e1 h
    injection h with e2 e3
    subst e1 e2
    have := x.toNat_lt
    refine ⟨?_, by omega, e3.symm⟩
    unfold byte
    simp
theorem txt_inv {t : List ByteArray} (hn : t.Nodup) {l r : List UInt8} {ms ms' : Nat × Bool} {s : ByteArray} (h : txt t (l, ms) = .ok (s, (r, ms'))) : l = vby (ix t s) ++ r ∧ s ∈ t ∧ ms' = meet ms (ix t s) := by
  obtain ⟨n, ⟨l1, ms1⟩, h1, h2⟩ := bnd_inv h
  obtain ⟨k1, _, k3⟩ := num_inv h1
  cases ht : t[n]? with
  | none => rw [txtK_none ht] at h2; cases h2
  | some s' =>
    rw [txtK_some ht] at h2
    injection h2 with h2
    injection h2 with e1 h2
    injection h2 with e2 e3
    subst e1 e2
    obtain ⟨hl, hs⟩ := List.getElem?_eq_some_iff.1 ht
    have e : ix t s' = n := by rw [← hs]; exact ix_of hn hl
    subst k3
    rw [e]
    exact ⟨k1, by rw [← hs]; exact List.getElem_mem hl, e3.symm⟩
theorem zag_zig_nat {n : Nat} (h : n ≤ 18446744073709551615) : (zig (zag (n : Int))).toNat = n ∧ -9223372036854775808 ≤ zag (n : Int) ∧ zag (n : Int) ≤ 9223372036854775807 := by
  have h1 := zag_bd (n : Int) (by omega) (by omega)
  have h2 := zig_zag (n : Int) (by omega)
  exact ⟨by rw [h2]; simp, h1.1, h1.2⟩
theorem val_inv {l r : List UInt8} {ms ms' : Nat × Bool} {v : V3} (h : val (l, ms) = .ok (v, (r, ms'))) : l = vbs v.K v.N v.S ++ r ∧ right v.K v.N v.S = true ∧ (-9223372036854775808 ≤ v.N ∧ v.N ≤ 9223372036854775807) ∧ ms' = ms := by
  unfold val at h
  split at h
  · cases h
  · rename_i he
    have he : (getV l).e = 0 := Classical.not_not.1 he
    injection h with h
    injection h with hv h
    injection h with hr hms
    dsimp only at hr hms hv
    subst hv
    subst hms
    dsimp only
    cases l with
    | nil => simp [getV, none_] at he
    | cons x q =>
      have hc : getV (x :: q) = finV (readR x.toNat q) := rfl
      rw [hc] at he hr ⊢
      have hre : (readR x.toNat q).e = 0 := by
        unfold finV at he
        split at he
        · rename_i h1; exact absurd he h1
        · rename_i h1; exact Classical.not_not.1 h1
      have hfin : finV (readR x.toNat q) = ⟨(readR x.toNat q).K, (readR x.toNat q).N, (readR x.toNat q).S, 1 + (readR x.toNat q).k, 0⟩ := if_neg (by simpa using hre)
      rw [hfin] at hr ⊢
      dsimp only at hr ⊢
      rw [Nat.add_comm 1, List.drop_succ_cons] at hr
      clear he hfin hc
      by_cases h1 : x.toNat = 1
      · have e : readR x.toNat q = intR q := if_pos h1
        rw [e] at hre hr ⊢
        unfold intR at hre hr ⊢
        dsimp only at hre hr ⊢
        have hg : getF 0 0 (nat8 q) = ((getF 0 0 (nat8 q)).1, (getF 0 0 (nat8 q)).2.1, 0) := Prod.ext rfl (Prod.ext rfl hre)
        obtain ⟨c1, c2⟩ := canon hg
        obtain ⟨z1, z2, z3⟩ := zag_zig_nat c2
        have hR : right 1 (zag ((getF 0 0 (nat8 q)).1 : Int)) emp = true := by unfold right; exact decide_eq_true (.inl ⟨rfl, rfl⟩)
        refine ⟨?_, hR, ⟨z2, z3⟩, rfl⟩
        unfold vbs
        rw [hR, if_pos rfl, if_pos rfl, z1, ← hr, List.cons_append, ← c1]
        congr 1
        exact UInt8.toNat_inj.1 h1
      · by_cases h2 : x.toNat = 2
        · have e : readR x.toNat q = boolR q := by unfold readR; rw [if_neg h1, if_pos h2]
          rw [e] at hre hr ⊢
          cases q with
          | nil => simp [boolR, none_] at hre
          | cons y q =>
            by_cases hy : 1 < y.toNat
            · have : boolR (y :: q) = none_ 11 := if_pos hy
              rw [this] at hre
              cases hre
            · have hb : boolR (y :: q) = ⟨2, y.toNat, emp, 1, 0⟩ := if_neg hy
              rw [hb] at hr ⊢
              dsimp only at hr ⊢
              have hR : right 2 (y.toNat : Int) emp = true := by
                have : (y.toNat : Int) = 0 ∨ (y.toNat : Int) = 1 := by omega
                unfold right
                exact decide_eq_true (.inr (.inl ⟨rfl, rfl, this⟩))
              refine ⟨?_, hR, by omega, rfl⟩
              unfold vbs
              rw [hR, if_pos rfl, if_neg (by decide), if_pos rfl, ← hr]
              simp only [List.drop_succ_cons, List.drop_zero, List.cons_append, List.nil_append, Int.toNat_natCast]
              rw [show x = 2 from UInt8.toNat_inj.1 h2]
              simp
        · by_cases h3 : x.toNat = 3
          · have e : readR x.toNat q = textR q := by unfold readR; rw [if_neg h1, if_neg h2, if_pos h3]
            rw [e] at hre hr ⊢
            unfold textR at hre hr ⊢
            split at hre
            · rename_i hx; exact absurd hre hx
            · rename_i hx
              rw [if_neg hx] at hr ⊢
              split at hre
              · cases hre
              · rename_i hx2
                rw [if_neg hx2] at hr ⊢
                split at hre
                · cases hre
                · rename_i hx3
                  rw [if_neg hx3] at hr ⊢
                  dsimp only at hr ⊢
                  have hg : getF 0 0 (nat8 q) = ((getF 0 0 (nat8 q)).1, (getF 0 0 (nat8 q)).2.1, 0) := Prod.ext rfl (Prod.ext rfl (Classical.not_not.1 hx))
                  obtain ⟨c1, c2⟩ := canon hg
                  generalize (getF 0 0 (nat8 q)).1 = n at *
                  generalize (getF 0 0 (nat8 q)).2.1 = k at *
                  have hsz : (⟨((q.drop k).take n).toArray⟩ : ByteArray).size = n := by
                    show ((q.drop k).take n).toArray.size = n
                    simp
                    omega
                  have hR : right 3 0 ⟨((q.drop k).take n).toArray⟩ = true := by
                    unfold right
                    exact decide_eq_true (.inr (.inr ⟨rfl, rfl, by rw [hsz]; omega⟩))
                  refine ⟨?_, hR, by omega, rfl⟩
                  unfold vbs
                  rw [hR, if_pos rfl, if_neg (by decide), if_neg (by decide), hsz, ← hr]
                  simp only [List.cons_append, List.append_assoc]
                  rw [show x = 3 from UInt8.toNat_inj.1 h3, ← List.drop_drop, List.take_append_drop]
                  congr 1
          · have e : readR x.toNat q = none_ 11 := by unfold readR; rw [if_neg h1, if_neg h2, if_neg h3]
            rw [e] at hre
            cases hre
theorem atsK_inv {t : List ByteArray} (hn : t.Nodup) : ∀ (k : Nat) (acc l : List At) (b r : List UInt8) (ms ms' : Nat × Bool), atsK t k acc (b, ms) = .ok (l, (r, ms')) →
    ∃ m, l = acc ++ m ∧ m.length = k ∧ b = m.flatMap (atB t) ++ r ∧ (∀ a ∈ m, rightA a = true ∧ okA a ∧ a.key ∈ t) ∧ ms' = meets t ms (m.map At.key)
  | 0, acc, l, b, r, ms, ms', h => by
    injection h with h
    injection h with e1 h
    injection h with e2 e3
    subst e1 e2 e3
    exact ⟨[], by simp, rfl, by simp, (fun _ h => by cases h), rfl⟩
  | k + 1, acc, l, b, r, ms, ms', h => by
    obtain ⟨key, ⟨b1, ms1⟩, h1, h2⟩ := bnd_inv h
    obtain ⟨v, ⟨b2, ms2⟩, h3, h4⟩ := bnd_inv h2
    obtain ⟨k1, k2, k3⟩ := txt_inv hn h1
    obtain ⟨v1, v2, v3, v4⟩ := val_inv h3
    obtain ⟨m, m1, m2, m3, m4, m5⟩ := atsK_inv hn k _ l b2 r ms2 ms' h4
    refine ⟨⟨key, v.K, v.N, v.S⟩ :: m, by rw [m1]; simp, by simp [m2], ?_, fun a ha => ?_, ?_⟩
    · rw [k1, v1, m3]
      simp [atB]
    · rcases List.mem_cons.1 ha with rfl | ha
      · exact ⟨v2, v3, k2⟩
      · exact m4 a ha
    · rw [m5, v4, k3, List.map_cons, meets_cons]
theorem tex_in {t : List ByteArray} {s : Sp} {l : List At} (h1 : s.sv ∈ t) (h2 : s.nm ∈ t) (h3 : ∀ a ∈ l, a.key ∈ t) : ∀ q ∈ tex (s, l), q ∈ t := fun q hq => by
  simp only [tex, List.mem_cons, List.mem_map] at hq
  rcases hq with rfl | rfl | ⟨a, ha, rfl⟩
  · exact h1
  · exact h2
  · exact h3 a ha
theorem inB_nat {n : Nat} (h : n ≤ 255) : inB (n : Int) = true := by simp [inB]; omega
theorem spn_inv {t : List ByteArray} (hn : t.Nodup) {x : Pn} {b r : List UInt8} {ms ms' : Nat × Bool} (h : spn t (b, ms) = .ok (x, (r, ms'))) : b = spB t x ++ r ∧ Fit7 t x ∧ ms' = meets t ms (tex x) := by
  unfold spn at h
  obtain ⟨T, ⟨b0, m0⟩, h0, h⟩ := bnd_inv h
  obtain ⟨I, ⟨b1, m1⟩, h1, h⟩ := bnd_inv h
  obtain ⟨P, ⟨b2, m2⟩, h2, h⟩ := bnd_inv h
  obtain ⟨sv, ⟨b3, m3⟩, h3, h⟩ := bnd_inv h
  obtain ⟨nm, ⟨b4, m4⟩, h4, h⟩ := bnd_inv h
  obtain ⟨kd, ⟨b5, m5⟩, h5, h⟩ := bnd_inv h
  obtain ⟨st, ⟨b6, m6⟩, h6, h⟩ := bnd_inv h
  obtain ⟨t0, ⟨b7, m7⟩, h7, h⟩ := bnd_inv h
  obtain ⟨t1, ⟨b8, m8⟩, h8, h⟩ := bnd_inv h
  obtain ⟨l, ⟨b9, m9⟩, h9, h⟩ := bnd_inv h
  obtain ⟨k, ⟨b10, m10⟩, h10, h11⟩ := bnd_inv h9
  injection h with h
  injection h with e1 h
  injection h with e2 e3
  subst e1 e2 e3
  obtain ⟨c0, d0, q0⟩ := num_inv h0
  obtain ⟨c1, d1, q1⟩ := num_inv h1
  obtain ⟨c2, d2, q2⟩ := num_inv h2
  obtain ⟨c3, d3, q3⟩ := txt_inv hn h3
  obtain ⟨c4, d4, q4⟩ := txt_inv hn h4
  obtain ⟨c5, d5, q5⟩ := oct_inv h5
  obtain ⟨c6, d6, q6⟩ := oct_inv h6
  obtain ⟨c7, d7, q7⟩ := num_inv h7
  obtain ⟨c8, d8, q8⟩ := num_inv h8
  obtain ⟨c10, d10, q10⟩ := cnt_inv h10
  obtain ⟨m, g1, g2, g3, g4, g5⟩ := atsK_inv hn k [] l b10 b9 m10 m9 h11
  simp only [List.nil_append] at g1
  subst g1
  subst g2
  refine ⟨?_, ⟨⟨?_, ?_, ?_, ?_, ?_, ?_, ?_, ?_, ?_, ?_⟩, inB_nat d5, inB_nat d6, fun a ha => ⟨(g4 a ha).1, (g4 a ha).2.1⟩, d10, tex_in d3 d4 fun a ha => (g4 a ha).2.2⟩, ?_⟩
  · rw [c0, c1, c2, c3, c4, c5, c6, c7, c8, c10, g3]
    simp [spB, headB, twoB, midB]
  all_goals first | (dsimp only; omega) | skip
  rw [g5, q10, q8, q7, q6, q5, q4, q3, q2, q1, q0]
  rfl
theorem spsK_inv {t : List ByteArray} (hn : t.Nodup) : ∀ (k : Nat) (acc L : List Pn) (b r : List UInt8) (ms ms' : Nat × Bool), spsK t k acc (b, ms) = .ok (L, (r, ms')) →
    ∃ M, L = acc ++ M ∧ M.length = k ∧ b = M.flatMap (spB t) ++ r ∧ (∀ x ∈ M, Fit7 t x) ∧ ms' = meets t ms (M.flatMap tex)
  | 0, acc, l, b, r, ms, ms', h => by
    injection h with h
    injection h with e1 h
    injection h with e2 e3
    subst e1 e2 e3
    exact ⟨[], by simp, rfl, by simp, (fun _ h => by cases h), rfl⟩
  | k + 1, acc, l, b, r, ms, ms', h => by
    obtain ⟨x, ⟨b1, ms1⟩, h1, h2⟩ := bnd_inv h
    obtain ⟨k1, k2, k3⟩ := spn_inv hn h1
    obtain ⟨M, m1, m2, m3, m4, m5⟩ := spsK_inv hn k _ l b1 r ms1 ms' h2
    refine ⟨x :: M, by rw [m1]; simp, by simp [m2], by rw [k1, m3]; simp, fun y hy => ?_, by rw [m5, k3, List.flatMap_cons, meets_app]⟩
    rcases List.mem_cons.1 hy with rfl | hy
    · exact k2
    · exact m4 y hy
/-- all texts in the table's order: the table is just theirs -/
theorem meets_inv (t : List ByteArray) (hn : t.Nodup) : ∀ (ss : List ByteArray) (T : List ByteArray) (m : Nat), (∀ s ∈ ss, s ∈ t) → T = t.take m → m ≤ t.length → (meets t (m, false) ss).2 = false →
    adds T ss = t.take (meets t (m, false) ss).1 ∧ (meets t (m, false) ss).1 ≤ t.length
  | [], T, m, _, hT, hm, _ => ⟨hT, hm⟩
  | s :: ss, T, m, hs, hT, hm, h => by
    have hst := hs s (by simp)
    have hl := ix_lt hst
    have hg := ix_get hst
    rw [meets_cons] at h ⊢
    rw [adds_cons]
    rcases Nat.lt_trichotomy (ix t s) m with h1 | h1 | h1
    · have e : meet (m, false) (ix t s) = (m, false) := by
        unfold meet
        rw [if_neg (by show ¬ ix t s = m; omega), if_neg (by show ¬ m < ix t s; omega)]
      have hin : s ∈ T := by
        rw [hT, ← hg]
        exact List.mem_take_iff_getElem.2 ⟨ix t s, by omega, rfl⟩
      rw [e] at h ⊢
      rw [add_in hin]
      exact meets_inv t hn ss T m (fun q hq => hs q (by simp [hq])) hT hm h
    · have e : meet (m, false) (ix t s) = (m + 1, false) := by
        unfold meet
        rw [if_pos h1]
      have hin : s ∉ T := fun hi => by
        rw [hT] at hi
        obtain ⟨i, hi1, hi2⟩ := List.mem_take_iff_getElem.1 hi
        have := nd_inj hn (i := i) (j := ix t s) (by omega) hl (by rw [hi2, hg])
        omega
      rw [e] at h ⊢
      rw [add_not hin]
      refine meets_inv t hn ss (T ++ [s]) (m + 1) (fun q hq => hs q (by simp [hq])) ?_ (by omega) h
      rw [hT, ← List.take_append_getElem (by omega : m < t.length)]
      congr 2
      have h3 := hg
      simp only [h1] at h3
      exact h3.symm
    · exfalso
      have e : meet (m, false) (ix t s) = (m, true) := by
        unfold meet
        rw [if_neg (by show ¬ ix t s = m; omega), if_pos h1]
      rw [e] at h
      have : ∀ (ss : List ByteArray) (m : Nat), (meets t (m, true) ss).2 = true := fun ss => by
        induction ss with
        | nil => intro m; rfl
        | cons q ss ih =>
          intro m
          rw [meets_cons]
          have : ∃ m', meet (m, true) (ix t q) = (m', true) := by
            unfold meet
            split
            · exact ⟨_, rfl⟩
            · split <;> exact ⟨_, rfl⟩
          obtain ⟨m', hm'⟩ := this
          rw [hm']
          exact ih m'
      rw [this] at h
      cases h

theorem meets_eq {t : List ByteArray} (hn : t.Nodup) {L : List Pn} (h : ∀ x ∈ L, Fit7 t x) : texts L = t ↔ (meets t (0, false) (L.flatMap tex)).2 = false ∧ ¬ (meets t (0, false) (L.flatMap tex)).1 < t.length := by
  constructor
  · intro e
    have := meets_own [] (L.flatMap tex) [] t (by rw [← e]; simp [texts])
    simp only [List.length_nil] at this
    rw [this]
    have e2 : adds [] (L.flatMap tex) = t := e
    rw [e2]
    simp
  · rintro ⟨h1, h2⟩
    have := meets_inv t hn (L.flatMap tex) [] 0 (fun s hs => by
      obtain ⟨x, hx, hs⟩ := List.mem_flatMap.1 hs
      exact (h x hx).tx s hs) (by simp) (Nat.zero_le _) h1
    unfold texts
    rw [this.1, List.take_of_length_le (by omega)]
theorem rd_inv (b : List UInt8) : ∀ (n : Nat) (L : List ByteArray) (u : Nat) (t : List ByteArray) (k : Nat), L.Nodup → (∀ s ∈ L, s.size ≤ 4096) → rdF n L b u = (t, k, 0) → ∃ M, t = L ++ M ∧ M.length = n ∧ t.Nodup ∧ (∀ s ∈ t, s.size ≤ 4096) ∧ b.drop u = tx M ++ b.drop k
  | 0, L, u, t, k, hn, hz, h => by
    injection h with e1 h
    injection h with e2 _
    subst e1 e2
    exact ⟨[], by simp, rfl, hn, hz, by simp [tx]⟩
  | n + 1, L, u, t, k, hn, hz, h => by
    obtain ⟨⟨j, e, s⟩, hr⟩ : ∃ r, rtF L (b.drop u) = r := ⟨_, rfl⟩
    unfold rdF at h
    rw [hr] at h
    dsimp only at h
    split at h
    · rename_i he
      injection h with _ h
      injection h with _ h
      exact absurd h he
    · rename_i he
      have he : e = 0 := Classical.not_not.1 he
      subst he
      have hb := S05.rt_bd hr
      obtain ⟨hs, hsz⟩ := hb.2.2 rfl
      -- the text's own bytes
      have hone : b.drop u = one s ++ b.drop (u + j) := by
        obtain ⟨⟨m, q, e1⟩, hg⟩ : ∃ r, getF 0 0 (nat8 (b.drop u)) = r := ⟨_, rfl⟩
        unfold rtF at hr
        rw [hg] at hr
        dsimp only at hr
        split at hr
        · rename_i hx
          injection hr with _ hr
          injection hr with hr _
          exact absurd hr hx
        · rename_i hx
          have hx : e1 = 0 := Classical.not_not.1 hx
          subst hx
          split at hr
          · injection hr with _ hr; injection hr with hr _; cases hr
          · split at hr
            · injection hr with _ hr; injection hr with hr _; cases hr
            · rename_i hlen
              split at hr
              · injection hr with _ hr; injection hr with hr _; cases hr
              · injection hr with hj hr
                injection hr with _ hss
                subst hj hss
                obtain ⟨c1, _⟩ := canon hg
                have hz : (str (((b.drop u).drop q).take m)).size = m := by rw [str_size]; simp at hlen ⊢; omega
                have hbs : bs (str (((b.drop u).drop q).take m)) = ((b.drop u).drop q).take m := by simp [bs, str]
                unfold one
                rw [hz, hbs, ← List.drop_drop, ← List.drop_drop, List.append_assoc, List.take_append_drop]
                exact c1
      obtain ⟨M, m1, m2, m3, m4, m5⟩ := rd_inv b n (L ++ [s]) (u + j) t k (by
        rw [List.nodup_append]
        exact ⟨hn, by simp, fun a ha b hb e => by simp at hb; subst hb; subst e; exact hs ha⟩) (fun q hq => by
        rcases List.mem_append.1 hq with hq | hq
        · exact hz q hq
        · simp at hq; subst hq; exact hsz) h
      exact ⟨s :: M, by rw [m1]; simp, by simp [m2], m3, m4, by rw [hone, m5]; simp [tx]⟩
theorem read_inv {b : List UInt8} {t : List ByteArray} {k : Nat} (h : readF b = (t, k, 0)) : b = tb t ++ b.drop k ∧ t.Nodup ∧ t.length ≤ 4096 ∧ ∀ s ∈ t, s.size ≤ 4096 := by
  unfold readF at h
  obtain ⟨⟨n, q, e⟩, hg⟩ : ∃ r, getF 0 0 (nat8 b) = r := ⟨_, rfl⟩
  rw [hg] at h
  dsimp only at h
  split at h
  · rename_i he
    injection h with _ h
    injection h with _ h
    exact absurd h he
  · rename_i he
    have he : e = 0 := Classical.not_not.1 he
    subst he
    split at h
    · injection h with _ h; injection h with _ h; cases h
    · rename_i h4
      obtain ⟨c1, _⟩ := canon hg
      obtain ⟨M, m1, m2, m3, m4, m5⟩ := rd_inv b n [] q t k List.nodup_nil (fun _ h => by cases h) h
      simp only [List.nil_append] at m1
      subst m1
      refine ⟨?_, m3, by omega, m4⟩
      unfold tb
      rw [m2, List.append_assoc, ← m5]
      exact c1
theorem fit_ck {t : List ByteArray} {x : Pn} (h : Fit7 t x) (hz : ∀ s ∈ t, s.size ≤ 4096) : ck x = 0 := by
  have hb : bad x = false := by
    have : x.2.all rightA = true := List.all_eq_true.2 fun a ha => (h.at_ a ha).1
    simp [bad, h.kd, h.st, this]
  have h1 := hz _ (h.tx x.1.sv (by simp [tex]))
  have h2 := hz _ (h.tx x.1.nm (by simp [tex]))
  have h3 : ∀ a ∈ x.2, a.key.size ≤ 4096 := fun a ha => hz _ (h.tx _ (by simp only [tex, List.mem_cons, List.mem_map]; exact .inr (.inr ⟨a, ha, rfl⟩)))
  have h4 := h.len
  have hl : lng x = false := by
    simp only [lng, Bool.or_eq_false_iff, decide_eq_false_iff_not, List.any_eq_false, decide_eq_true_eq]
    exact ⟨⟨⟨by omega, by omega⟩, by omega⟩, fun a ha => by have := h3 a ha; omega⟩
  simp [ck, hb, hl]
/-- what is got: its bytes -/
theorem get_inv {b : List UInt8} {L : List Pn} (h : getB b = .ok L) : b = okB L ∧ (∀ x ∈ L, Fit7 (texts L) x ∧ ck x = 0) ∧ L.length ≤ 1024 ∧ (texts L).length ≤ 4096 ∧ b.length ≤ 65536 ∧ putF L = (b, 0) := by
  unfold getB at h
  split at h
  · cases h
  · rename_i hl
    split at h
    · cases h
    · rename_i he
      obtain ⟨⟨t, k, e⟩, hr⟩ : ∃ r, readF b = r := ⟨_, rfl⟩
      rw [hr] at h he
      have he : e = 0 := Classical.not_not.1 he
      subst he
      dsimp only at h
      obtain ⟨r1, r2, r3, r4⟩ := read_inv hr
      cases hs : sps t (b.drop k, 0, false) with
      | error f => rw [hs] at h; cases h
      | ok z =>
        obtain ⟨L', l, m, sk⟩ := z
        rw [hs] at h
        simp only [fin] at h
        split at h
        · cases h
        · rename_i hend
          injection h with h
          subst h
          obtain ⟨n, ⟨b1, ms1⟩, h1, h2⟩ := bnd_inv hs
          obtain ⟨c1, c2, c3⟩ := cnt_inv h1
          obtain ⟨M, m1, m2, m3, m4, m5⟩ := spsK_inv r2 n [] L' b1 l ms1 (m, sk) h2
          simp only [List.nil_append] at m1
          subst m1
          have hl0 : l = [] := Classical.byContradiction fun hne => hend (.inl hne)
          have hsk : sk = false := by cases sk <;> simp at hend ⊢
          have hmt : ¬ m < t.length := fun hh => hend (.inr (.inr hh))
          subst hl0
          rw [c3] at m5
          have htx : texts L' = t := (meets_eq r2 m4).2 (by rw [← m5]; exact ⟨hsk, hmt⟩)
          have hb : b = okB L' := by
            unfold okB
            rw [htx, m2]
            conv => lhs; rw [r1, c1, m3]
            simp
          have hck : ∀ x ∈ L', ck x = 0 := fun x hx => fit_ck (m4 x hx) r4
          refine ⟨hb, fun x hx => ⟨by rw [htx]; exact m4 x hx, hck x hx⟩, by omega, by rw [htx]; exact r3, by omega, ?_⟩
          unfold putF
          rw [if_neg (by omega), cks_zero.2 hck, if_neg (by simp), ← hb, if_neg hl]
end Go.Proofs.Ytndcdidepdcmnaa.B07
