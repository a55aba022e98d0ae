/-
  Rows as arrays and as lists: an exchange of two; the insertion sort of a part.
  An attribute: a key and a value, as four cells; the order of keys.
  Slices of attributes: what comes in (Ats), and rows of the program's own (Hd).
-/
import Derived.Sort.Defs
import Derived.Test.YtdmibolbpgondaaGreatKP06Pure
import Derived.Test.YtdmibolbpgondaaGreatKV04Right
import Derived.Shelf.SlSortCmp.KitK
import Derived.Test.YtdmibolbpgondaaGreatRows
import Derived.WalkKit
import Derived.WalkSpells
import Derived.Deep.LoopGhost
section
namespace Go.Proofs.YtdmibolbpgondaaGreat.P06
open Go.Sort
section
variable {α : Type} [Inhabited α]

theorem at_mid (X Z : List α) (u : α) : (X ++ u :: Z).toArray[X.length]! = u := by
  rw [getElem!_pos _ _ (by simp)]
  simp
theorem at_mid' (X Z : List α) (u : α) (i : Nat) (hi : i = X.length) : (X ++ u :: Z).toArray[i]! = u := by rw [hi]; exact at_mid X Z u
theorem swp_mid (X M Z : List α) (u v : α) (i j : Nat) (hi : i = X.length) (hj : j = X.length + 1 + M.length) :
    swp (X ++ u :: (M ++ v :: Z)).toArray i j = (X ++ v :: (M ++ u :: Z)).toArray := by
  unfold swp
  have e1 : (X ++ u :: (M ++ v :: Z)).toArray[i]! = u := at_mid' _ _ _ _ hi
  have e2 : (X ++ u :: (M ++ v :: Z)).toArray[j]! = v := by
    have := at_mid' (X ++ u :: M) Z v j (by simp; omega)
    simpa using this
  rw [e1, e2]
  subst hi hj
  apply Array.ext'
  simp only [List.setIfInBounds_toArray]
  rw [List.set_append_right _ _ (by omega), Nat.sub_self, List.set_cons_zero, List.set_append_right _ _ (by omega)]
  rw [show X.length + 1 + M.length - X.length = M.length + 1 by omega, List.set_cons_succ, List.set_append_right _ _ (by omega), Nat.sub_self, List.set_cons_zero]
theorem swp_mid' (X M Z : List α) (u v : α) (i j : Nat) (hi : i = X.length) (hj : j = X.length + 1 + M.length) :
    swp (X ++ u :: (M ++ v :: Z)).toArray j i = (X ++ v :: (M ++ u :: Z)).toArray := by
  unfold swp
  have e1 : (X ++ u :: (M ++ v :: Z)).toArray[i]! = u := at_mid' _ _ _ _ hi
  have e2 : (X ++ u :: (M ++ v :: Z)).toArray[j]! = v := by
    have := at_mid' (X ++ u :: M) Z v j (by simp; omega)
    simpa using this
  rw [e1, e2]
  subst hi hj
  apply Array.ext'
  simp only [List.setIfInBounds_toArray]
  rw [List.set_append_right _ _ (by omega), show X.length + 1 + M.length - X.length = M.length + 1 by omega, List.set_cons_succ, List.set_append_right _ _ (by omega), Nat.sub_self, List.set_cons_zero, List.set_append_right _ _ (by omega), Nat.sub_self, List.set_cons_zero]
end

variable {α β : Type} [Inhabited α] [DecidableEq β] {le : β → β → Prop} {key : α → β} {lt : α → α → Bool}

theorem inner_stop (a : Nat) (d : Array α) : insInner lt a a d = d := by
  cases a with
  | zero => rfl
  | succ n => rw [insInner]; simp
omit [DecidableEq β] in
theorem inner_at (hlt : ∀ x y, lt x y = true ↔ ¬ le (key y) (key x)) (X : List α) (x : α) : ∀ (n : Nat) (p Q : List α), p.length = n → ∃ p1 p2, p = p1 ++ p2 ∧ (∀ y ∈ p2, ¬ le (key y) (key x)) ∧ (∀ q y, p1 = q ++ [y] → le (key y) (key x)) ∧
    insInner lt X.length (X.length + n) (X ++ p ++ x :: Q).toArray = (X ++ p1 ++ x :: (p2 ++ Q)).toArray
  | 0, p, Q, hp => by
    have : p = [] := List.eq_nil_of_length_eq_zero hp
    subst this
    exact ⟨[], [], rfl, by simp, by simp, by simp [inner_stop]⟩
  | n + 1, p, Q, hp => by
    obtain ⟨q, y, rfl⟩ : ∃ q y, p = q ++ [y] := by
      rcases List.eq_nil_or_concat p with h | ⟨q, y, h⟩
      · subst h; simp at hp
      · exact ⟨q, y, by simpa using h⟩
    have hq : q.length = n := by simpa using hp
    have e1 : (X ++ (q ++ [y]) ++ x :: Q).toArray[X.length + n + 1]! = x := at_mid' _ _ _ _ (by simp; omega)
    have e2 : (X ++ (q ++ [y]) ++ x :: Q).toArray[X.length + n]! = y := by
      have := at_mid' (X ++ q) (x :: Q) y (X.length + n) (by simp; omega)
      simpa using this
    rw [← Nat.add_assoc, insInner, e1, e2]
    by_cases h : lt x y = true
    · have hs : swp (X ++ (q ++ [y]) ++ x :: Q).toArray (X.length + n + 1) (X.length + n) = (X ++ q ++ x :: (y :: Q)).toArray := by
        have := swp_mid' (X ++ q) [] Q y x (X.length + n) (X.length + n + 1) (by simp; omega) (by simp; omega)
        simpa using this
      rw [hs, if_pos (by simp [h]; omega)]
      obtain ⟨p1, p2, rfl, h2, h1, he⟩ := inner_at hlt X x n q (y :: Q) hq
      refine ⟨p1, p2 ++ [y], by simp, ?_, h1, by rw [he]; simp⟩
      intro z hz
      rcases List.mem_append.1 hz with hz | hz
      · exact h2 z hz
      · simp only [List.mem_singleton] at hz
        subst hz
        exact (hlt _ _).1 h
    · rw [if_neg (by simp [h])]
      refine ⟨q ++ [y], [], by simp, by simp, fun q' y' e => ?_, by simp⟩
      have := List.append_inj_right' e (by simp)
      injection this with e
      subst e
      exact Classical.byContradiction fun hc => h ((hlt _ _).2 hc)
/-- the whole part -/
theorem outer_at (O : Ord le) (hlt : ∀ x y, lt x y = true ↔ ¬ le (key y) (key x)) (X Z : List α) : ∀ (n : Nat) (y r : List α), r.length = n → y ≠ [] → Sd le key y →
    ∃ m, m.length = y.length + r.length ∧ Sd le key m ∧ Fe key (y ++ r) m ∧ insOuter lt X.length (X.length + y.length + r.length) (X.length + y.length) (X ++ (y ++ r) ++ Z).toArray = (X ++ m ++ Z).toArray
  | 0, y, r, hr, _, hs => by
    have : r = [] := List.eq_nil_of_length_eq_zero hr
    subst this
    refine ⟨y, by simp, hs, by simpa using Fe.refl y, ?_⟩
    rw [insOuter, if_neg (by simp)]
    simp
  | n + 1, y, r, hr, hy, hs => by
    obtain ⟨x, r, rfl⟩ : ∃ x q, r = x :: q := by
      cases r with
      | nil => simp at hr
      | cons x q => exact ⟨x, q, rfl⟩
    obtain ⟨p1, p2, rfl, h2, h1, he⟩ := inner_at hlt X x y.length y (r ++ Z) rfl
    have hput : Sd le key (p1 ++ x :: p2) ∧ Fe key (p1 ++ p2 ++ [x]) (p1 ++ x :: p2) := by
      refine put_in O hs ?_ h2
      intro z hz
      rcases List.eq_nil_or_concat p1 with e | ⟨q, w, e⟩
      · subst e; cases hz
      · rw [List.concat_eq_append] at e
        have hw := h1 q w e
        subst e
        rcases List.mem_append.1 hz with hz | hz
        · exact O.trans _ _ _ (hs.left.across z hz w (by simp)) hw
        · simp only [List.mem_singleton] at hz
          subst hz
          exact hw
    rw [insOuter, if_pos (by simp)]
    have e0 : (X ++ (p1 ++ p2 ++ x :: r) ++ Z).toArray = (X ++ (p1 ++ p2) ++ x :: (r ++ Z)).toArray := by simp
    rw [e0, he]
    obtain ⟨m, hm, hsm, hfm, hem⟩ := outer_at O hlt X Z n (p1 ++ x :: p2) r (by simpa using hr) (by simp) hput.1
    refine ⟨m, by rw [hm]; simp; omega, hsm, ?_, ?_⟩
    · have := (hput.2.app (Fe.refl (key := key) r)).trans hfm
      simpa using this
    · rw [← hem]
      simp
      congr 1 <;> omega
theorem sort_at (O : Ord le) (hlt : ∀ x y, lt x y = true ↔ ¬ le (key y) (key x)) (X a Z : List α) :
    ∃ m, m.length = a.length ∧ Sd le key m ∧ Fe key a m ∧ insertionSort lt (X ++ a ++ Z).toArray X.length (X.length + a.length) = (X ++ m ++ Z).toArray := by
  unfold insertionSort
  cases a with
  | nil =>
    refine ⟨[], rfl, Sd.nil, Fe.refl _, ?_⟩
    rw [insOuter, if_neg (by simp)]
  | cons x r =>
    obtain ⟨m, hm, hs, hf, he⟩ := outer_at O hlt X Z r.length [x] r rfl (by simp) (Sd.one x)
    refine ⟨m, by rw [hm]; simp; omega, hs, by simpa using hf, ?_⟩
    rw [← he]
    simp
    congr 1; omega
end Go.Proofs.YtdmibolbpgondaaGreat.P06
end

section
namespace Go.Proofs.YtdmibolbpgondaaGreat.P06
open Go.RowKit Go.Lib Go.Sort Go.Proofs.YtdmibolbpgondaaGreat.Wd Go.Proofs.YtdmibolbpgondaaGreat.V04

/-- an attribute -/
structure At where
  key : ByteArray
  K : Int
  N : Int
  S : ByteArray
instance : Inhabited At := ⟨⟨ByteArray.empty, 0, 0, ByteArray.empty⟩⟩
/-- its cells -/
def enc (a : At) : List Value := [.string a.key, .int .i64 a.K, .int .i64 a.N, .string a.S]
/-- its key's bytes -/
def kb (a : At) : List UInt8 := a.key.data.toList
def ble (x y : List UInt8) : Prop := compareBytes x y ≤ 0
def cf (a b : At) : Int := compareBytes (kb a) (kb b)
theorem ord : Ord ble := by
  refine ⟨fun x y => ?_, fun x y z h1 h2 => ?_, fun x y h1 h2 => ?_⟩
  · unfold ble
    have := cb_neg x y
    omega
  · unfold ble at *
    exact (t3_cb x y z h1 h2).1
  · unfold ble at *
    have := cb_neg x y
    exact cb_zero x y (by omega)
theorem cf_lt (a b : At) : ltOf cf a b = true ↔ ¬ ble (kb b) (kb a) := by
  unfold ltOf ble cf
  have := cb_neg (kb a) (kb b)
  simp only [decide_eq_true_eq]
  omega
theorem cf_not (a b : At) (h : ¬ cf a b < 0) : ble (kb b) (kb a) := by
  unfold ble
  unfold cf at h
  have := cb_neg (kb a) (kb b)
  omega
theorem cf_yes (a b : At) (h : cf a b < 0) : ¬ ble (kb b) (kb a) := by
  unfold ble
  unfold cf at h
  have := cb_neg (kb a) (kb b)
  omega
theorem enc_len (a : At) : (enc a).length = 4 := rfl
theorem enc_one (a : At) : ∀ v ∈ enc a, v.oneCell' = true := by
  intro v hv
  simp only [enc, List.mem_cons, List.not_mem_nil, or_false] at hv
  rcases hv with rfl | rfl | rfl | rfl <;> rfl
/-- in order by keys -/
abbrev Srt (l : List At) : Prop := Sd ble kb l
abbrev Keep (l m : List At) : Prop := Fe kb l m
end Go.Proofs.YtdmibolbpgondaaGreat.P06
end

section
set_option linter.unusedSimpArgs false
set_option linter.unusedVariables false
namespace Go.Proofs.YtdmibolbpgondaaGreat.P06
open Go.Shelf Go.RowKit Go.Lib Go.Sort Go.Proofs.YtdmibolbpgondaaGreat.Wd Go.Proofs.YtdmibolbpgondaaGreat.V04

theorem fm_len (l : List At) : (l.flatMap enc).length = l.length * 4 := by
  induction l with
  | nil => rfl
  | cons x l ih => simp [enc_len, ih]; omega
theorem fm_app (l m : List At) : (l ++ m).flatMap enc = l.flatMap enc ++ m.flatMap enc := by simp
theorem fm_one (l : List At) : ∀ u ∈ l.flatMap enc, u.oneCell' = true := by
  intro u hu
  obtain ⟨x, _, hx⟩ := List.mem_flatMap.1 hu
  exact enc_one x u hx
theorem fm_at : ∀ (l : List At) (k : Nat) (h : k < l.length) (j : Nat), j < 4 → (l.flatMap enc)[k * 4 + j]? = (enc l[k])[j]?
  | x :: l, 0, h, j, hj => by
    rw [List.flatMap_cons, List.getElem?_append_left (by rw [enc_len]; omega)]
    simp
  | x :: l, k + 1, h, j, hj => by
    rw [List.flatMap_cons, List.getElem?_append_right (by rw [enc_len]; omega), enc_len, show (k + 1) * 4 + j - 4 = k * 4 + j by omega, fm_at l k (by simpa using h) j hj]
    simp

/-- the four cells of an attribute -/
structure Four (w : World) (p q r s : Addr) (x : At) : Prop where
  c0 : w.cell? p = some (.string x.key)
  c1 : w.cell? q = some (.int .i64 x.K)
  c2 : w.cell? r = some (.int .i64 x.N)
  c3 : w.cell? s = some (.string x.S)

/-- a slice of attributes, nil or not -/
def Ats (w : World) (A : Option Addr) (c : Nat) (l : List At) : Prop := Rd 4 w A l.length c (l.flatMap enc)
variable {w w' : World} {A : Option Addr} {c : Nat} {l : List At}
theorem Ats.nil (w : World) : Ats w none 0 [] := Rd.nil 4 w
theorem Ats.below (h : Ats w A c l) (hb : Below w.heap.size w w') : Ats w' A c l := Rd.below h hb
theorem Ats.drewN (h : Ats w A c l) (k : Nat) : Ats (w.drewN k) A c l := Rd.drewN h k
theorem Ats.get (h : Ats w A c l) {k : Nat} (hk : k < l.length) : ∃ ad p, A = some ad ∧ ad.add (k * 4) = p ∧ Four w p ⟨p.block, p.off + 1, none⟩ ⟨p.block, p.off + 2, none⟩ ⟨p.block, p.off + 3, none⟩ l[k] := by
  cases hA : A with
  | none => have := h.none_ hA; omega
  | some ad =>
    have e : ∀ j, 0 < j → (⟨(ad.add (k * 4)).block, (ad.add (k * 4)).off + j, none⟩ : Addr) = ad.add (k * 4 + j) := by
      intro j hj
      unfold Addr.add
      by_cases h0 : k * 4 = 0
      · simp [h0]; omega
      · simp [h0, Nat.add_assoc]
    refine ⟨ad, _, rfl, rfl, ?_, ?_, ?_, ?_⟩
    · exact h.at_ ad hA (k * 4) _ (by have := fm_at l k hk 0 (by omega); simpa [enc] using this)
    · rw [e 1 (by omega)]; exact h.at_ ad hA (k * 4 + 1) _ (by have := fm_at l k hk 1 (by omega); simpa [enc] using this)
    · rw [e 2 (by omega)]; exact h.at_ ad hA (k * 4 + 2) _ (by have := fm_at l k hk 2 (by omega); simpa [enc] using this)
    · rw [e 3 (by omega)]; exact h.at_ ad hA (k * 4 + 3) _ (by have := fm_at l k hk 3 (by omega); simpa [enc] using this)

/-- a row of the program's own, from block B on; or nil -/
def Hd (B : Nat) (w : World) (A : Option Addr) (c : Nat) (l : List At) : Prop :=
  (A = none ∧ c = 0 ∧ l = []) ∨ ∃ g, A = some ⟨g, 0, none⟩ ∧ B ≤ g ∧ g < w.heap.size ∧ HoldsK enc 4 w g 0 l.toArray ∧ l.length ≤ c ∧ c ≤ maxLen
variable {B : Nat}
theorem Hd.nil (B : Nat) (w : World) : Hd B w none 0 [] := .inl ⟨rfl, rfl, rfl⟩
theorem Hd.four (h : HoldsK enc 4 w B 0 l.toArray) {k : Nat} (hk : k < l.length) : Four w ⟨B, k * 4, none⟩ ⟨B, k * 4 + 1, none⟩ ⟨B, k * 4 + 2, none⟩ ⟨B, k * 4 + 3, none⟩ l[k] := by
  have hd : l.toArray[k]! = l[k] := by rw [getElem!_pos _ _ (by simpa using hk)]; simp
  have := HoldsK.cells h enc_len (i := k) (by simpa using hk)
  rw [hd] at this
  refine ⟨?_, ?_, ?_, ?_⟩
  · have := this 0 _ rfl; simpa [Addr.add] using this
  · have := this 1 _ rfl; simpa [Addr.add] using this
  · have := this 2 _ rfl; simpa [Addr.add] using this
  · have := this 3 _ rfl; simpa [Addr.add] using this
theorem Hd.get (h : Hd B w A c l) {k : Nat} (hk : k < l.length) : ∃ g, A = some ⟨g, 0, none⟩ ∧ B ≤ g ∧ g < w.heap.size ∧ Four w ⟨g, k * 4, none⟩ ⟨g, k * 4 + 1, none⟩ ⟨g, k * 4 + 2, none⟩ ⟨g, k * 4 + 3, none⟩ l[k] := by
  rcases h with ⟨_, _, rfl⟩ | ⟨g, hA, hB, hg, hH, _⟩
  · simp at hk
  · exact ⟨g, hA, hB, hg, Hd.four hH hk⟩
theorem holds_kept {g : Nat} (h : HoldsK enc 4 w g 0 l.toArray) (hg : g < w.heap.size) (hb : Below w.heap.size w w') : HoldsK enc 4 w' g 0 l.toArray := by
  intro j hj
  have h1 := h j hj
  have e := hb.block g hg
  refine ⟨?_, ?_⟩
  · rw [World.cell?_of_block (by exact e)]; exact h1.1
  · have := h1.2
    unfold World.frozen? at this ⊢
    rw [e]
    exact this
theorem Hd.below (h : Hd B w A c l) (hb : Below w.heap.size w w') : Hd B w' A c l := by
  rcases h with h | ⟨g, hA, hB, hg, hH, hr⟩
  · exact .inl h
  · exact .inr ⟨g, hA, hB, Nat.lt_of_lt_of_le hg hb.size, holds_kept hH hg hb, hr⟩
theorem Hd.low {B' : Nat} (h : Hd B w A c l) (hb : B' ≤ B) : Hd B' w A c l := by
  rcases h with h | ⟨g, hA, hB, hr⟩
  · exact .inl h
  · exact .inr ⟨g, hA, Nat.le_trans hb hB, hr⟩
theorem Hd.drewN (h : Hd B w A c l) (k : Nat) : Hd B (w.drewN k) A c l := h.below ⟨rfl, rfl, rfl, Nat.le_refl _, fun _ _ => rfl⟩
theorem Hd.cap (h : Hd B w A c l) : l.length ≤ c := by
  rcases h with ⟨_, rfl, rfl⟩ | ⟨g, _, _, _, _, h, _⟩
  · exact Nat.le_refl _
  · exact h
/-- of a row that an append has made -/
theorem Hd.own {e : TypeId} (h : w.ownsRow B e 4 (.slice A l.length c) l.length (l.flatMap enc)) : Hd B w A c l := by
  rcases h.2 with ⟨hv, hn⟩ | ⟨g, cap, cur, hv, hb, hg, hnc, hm, hcs, ht⟩
  · injection hv with h1 h2 h3
    exact .inl ⟨h1, h3, List.eq_nil_of_length_eq_zero hn⟩
  · injection hv with h1 h2 h3
    subst h3
    refine .inr ⟨g, h1, hb, (Array.getElem?_eq_some_iff.1 hg).1, ?_, hnc, hm⟩
    subst h1
    intro j hj
    simp only [size_flatK, List.size_toArray] at hj
    refine ⟨?_, ?_⟩
    · have := World.ownsRow.cellAt h j (by omega)
      rw [Nat.zero_add, this, get_flatK _ _ _ _ (by simpa using hj)]
      have hk : j / 4 < l.length := by omega
      have e1 := fm_at l (j / 4) hk (j % 4) (by omega)
      rw [show j / 4 * 4 + j % 4 = j by omega] at e1
      have hd : l.toArray[j / 4]! = l[j / 4] := by rw [getElem!_pos _ _ (by simpa using hk)]; simp
      rw [e1, hd, List.getElem?_eq_getElem (by rw [enc_len]; omega), getElem!_pos _ _ (by rw [enc_len]; omega)]
      rfl
    · exact World.ownsRow.frozenAt h _
theorem Hd.ats (h : Hd B w A c l) : Ats w A c l := by
  rcases h with ⟨rfl, rfl, rfl⟩ | ⟨g, rfl, hB, hg, hH, hc, hm⟩
  · exact Ats.nil w
  · refine ⟨fm_len l, fun e => (by cases e), hc, hm, fun ad ha i u hu => ?_⟩
    injection ha with ha
    subst ha
    have hi : i < l.length * 4 := by
      rw [← fm_len]
      exact (List.getElem?_eq_some_iff.1 hu).1
    have hk : i / 4 < l.length := by omega
    have e1 := fm_at l (i / 4) hk (i % 4) (by omega)
    rw [show i / 4 * 4 + i % 4 = i by omega, hu] at e1
    have hd : l.toArray[i / 4]! = l[i / 4] := by rw [getElem!_pos _ _ (by simpa using hk)]; simp
    have := HoldsK.cells hH enc_len (i := i / 4) (by simpa using hk) (i % 4) u (by rw [hd]; exact e1.symm)
    rw [Addr.add_lit] at this
    rw [Addr.add_lit, ← this]
    have e2 : 0 + i = 0 + i / 4 * 4 + i % 4 := by omega
    rw [e2]
end Go.Proofs.YtdmibolbpgondaaGreat.P06
end
