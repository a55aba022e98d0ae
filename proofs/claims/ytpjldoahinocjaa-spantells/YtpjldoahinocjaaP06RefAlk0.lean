/-
  The document's Alike: parts of a slice of attributes; one is put in its place.
-/
import Derived.Test.YtpjldoahinocjaaP06Alike3
import Derived.Test.YtpjldoahinocjaaP06RefLab
set_option linter.unusedSimpArgs false
set_option linter.unusedVariables false
namespace Go.Proofs.Ytpjldoahinocjaa.P06
open Go.Shelf Go.RowKit Go.Lib Go.Sort Go.Proofs.Ytpjldoahinocjaa.Wd Go.Proofs.Ytpjldoahinocjaa.V04

theorem Ats.take {w : World} {A : Option Addr} {c : Nat} {l : List At} (h : Ats w A c l) (k : Nat) (hk : k ≤ l.length) : Rd 4 w A k c ((l.take k).flatMap enc) := by
  have hl : (l.take k).length = k := by simp; omega
  refine ⟨by rw [fm_len, hl], fun ha => ⟨by have := (h.none_ ha).1; omega, (h.none_ ha).2⟩, Nat.le_trans hk h.cap, h.max, fun ad ha i u hu => ?_⟩
  refine h.at_ ad ha i u ?_
  have e : l.flatMap enc = (l.take k).flatMap enc ++ (l.drop k).flatMap enc := by rw [← fm_app, List.take_append_drop]
  rw [e, List.getElem?_append_left (List.getElem?_eq_some_iff.1 hu).1]
  exact hu
/-- where 's[k:]' begins -/
def cut4 (A : Option Addr) (c k : Nat) : Option Addr := if c = k then A else A.map (·.add (k * 4))
theorem Ats.drop {w : World} {A : Option Addr} {c : Nat} {l : List At} (h : Ats w A c l) (k : Nat) (hk : k ≤ l.length) : Rd 4 w (cut4 A c k) (l.length - k) (c - k) ((l.drop k).flatMap enc) := by
  have hc := h.cap
  have hm := h.max
  refine ⟨by rw [fm_len]; simp, fun ha => ?_, by omega, by omega, fun ad ha i u hu => ?_⟩
  · unfold cut4 at ha
    split at ha
    · rename_i hck
      exact ⟨by omega, by omega⟩
    · simp only [Option.map_eq_none_iff] at ha
      have := h.none_ ha
      exact ⟨by omega, by omega⟩
  · have hi := (List.getElem?_eq_some_iff.1 hu).1
    rw [fm_len, List.length_drop] at hi
    unfold cut4 at ha
    rw [if_neg (by omega)] at ha
    cases hA : A with
    | none => rw [hA] at ha; cases ha
    | some a0 =>
      rw [hA] at ha
      simp only [Option.map_some, Option.some.injEq] at ha
      subst ha
      rw [add_add]
      refine h.at_ a0 hA (k * 4 + i) _ ?_
      have e : l.flatMap enc = (l.take k).flatMap enc ++ (l.drop k).flatMap enc := by rw [← fm_app, List.take_append_drop]
      have e2 : ((l.take k).flatMap enc).length = k * 4 := by rw [fm_len]; simp; omega
      rw [e, List.getElem?_append_right (by omega), e2, show k * 4 + i - k * 4 = i by omega]
      exact hu

/-- how far it has come -/
structure AkR (w : World) (s s2 : Sp) (v : Value) (l : List At) (k : Nat) (A2 : Option Addr) (c2 : Nat) (Y : List At) (wr : World) : Prop where
  b1 : Bk wr w.heap.size 25 (spc s v)
  b2 : Bk wr (w.heap.size + 1) 25 zsp
  b3 : Bk wr (w.heap.size + 1 + 1) 25 (spc s2 (.slice A2 k c2))
  own : Hd (w.heap.size + 1 + 1 + 1) wr A2 c2 Y
  len : Y.length = k
  srt : Srt Y
  keep : Keep (l.take k) Y
  bel : Below w.heap.size w wr
  lt : w.heap.size + 1 + 1 + 1 ≤ wr.heap.size
theorem AkR.drewN {w : World} {s s2 : Sp} {v : Value} {l : List At} {k : Nat} {A2 : Option Addr} {c2 : Nat} {Y : List At} {wr : World} (h : AkR w s s2 v l k A2 c2 Y wr) (q : Nat) : AkR w s s2 v l k A2 c2 Y (wr.drewN q) :=
  ⟨h.b1, h.b2, h.b3, h.own.drewN q, h.len, h.srt, h.keep, ⟨h.bel.os, h.bel.tape, h.bel.output, h.bel.size, h.bel.block⟩, h.lt⟩
/-- where it is put -/
def Pos (Y : List At) (x : At) (j : Nat) : Prop := ∀ i (hi : i < Y.length), j ≤ i → ¬ ble (kb Y[i]) (kb x)
theorem gt_key (x y : At) : (!Op.bytesLess y.key.toList x.key.toList && !(y.key.toList == x.key.toList)) = true ↔ ¬ ble (kb y) (kb x) := by
  rw [less_cb]
  have h3 := same_cb y.key x.key
  unfold ble kb
  have h1 := cb_neg y.key.data.toList x.key.data.toList
  have h2 := cb_vals y.key.data.toList x.key.data.toList
  simp only [Bool.and_eq_true, Bool.not_eq_true', decide_eq_false_iff_not, beq_eq_false_iff_ne, ne_eq, h3]
  omega
/-- what stands ahead of it -/
def Pre (Y : List At) (x : At) (j : Nat) : Prop := ∀ h : j - 1 < Y.length, 0 < j → ble (kb Y[j - 1]) (kb x)
/-- one more -/
theorem put_next {l Y : List At} {k j : Nat} (hk : k < l.length) (hl : Y.length = k) (hj : j ≤ k) (hs : Srt Y) (hf : Keep (l.take k) Y) (hp : Pos Y l[k] j) (hq : Pre Y l[k] j) :
    Srt (Y.take j ++ l[k] :: Y.drop j) ∧ Keep (l.take (k + 1)) (Y.take j ++ l[k] :: Y.drop j) ∧ (Y.take j ++ l[k] :: Y.drop j).length = k + 1 := by
  have e := List.take_append_drop j Y
  have h1 := put_in (a := Y.take j) (b := Y.drop j) (x := l[k]) ord (by rw [e]; exact hs) (fun y hy => ?_) (fun y hy => ?_)
  · refine ⟨h1.1, ?_, ?_⟩
    · have e1 : l.take (k + 1) = l.take k ++ [l[k]] := (List.take_append_getElem hk).symm
      rw [e1]
      rw [e] at h1
      exact (Fe.app hf (Fe.refl _)).trans h1.2
    · simp; omega
  · obtain ⟨i, hi, rfl⟩ := List.mem_iff_getElem.1 hy
    simp only [List.length_take] at hi
    rw [List.getElem_take]
    exact ord.trans _ _ _ (Sd.get hs ord (show i ≤ j - 1 by omega) (by omega)) (hq (by omega) (by omega))
  · obtain ⟨i, hi, rfl⟩ := List.mem_iff_getElem.1 hy
    simp only [List.length_drop] at hi
    rw [List.getElem_drop]
    exact hp _ (by omega) (by omega)
/-- what is kept of the world where it is put -/
theorem AkR.next {w : World} {s s2 : Sp} {v : Value} {l : List At} {k : Nat} {A2 : Option Addr} {c2 : Nat} {Y : List At} {wr : World} (h : AkR w s s2 v l k A2 c2 Y wr) {w2 : World} {A3 : Option Addr} {c3 : Nat} {Z : List At} (hZ : Z.length = k + 1) (hs : Srt Z) (hf : Keep (l.take (k + 1)) Z)
    (hb : Below wr.heap.size wr w2) (ho : Hd wr.heap.size w2 A3 c3 Z) : AkR w s s2 v l (k + 1) A3 c3 Z (w2.setCell ⟨w.heap.size + 1 + 1, 9, none⟩ (.slice A3 (k + 1) c3)) := by
  have hlt := h.lt
  refine ⟨(h.b1.below hb).other _ _ _ (by omega), (h.b2.below hb).other _ _ _ (by omega), ?_, ?_, hZ, hs, hf, ?_, ?_⟩
  · have := (h.b3.below hb).set 9 (.slice A3 (k + 1) c3)
    simpa using this
  · exact (ho.heap (fun g h1 h2 => heap_set _ _ _ _ _ (by omega)) (by simp)).low hlt
  · have hbel := h.bel.trans (hb.mono h.bel.size)
    exact hbel.setCell (p := ⟨w.heap.size + 1 + 1, 9, none⟩) (by show w.heap.size ≤ w.heap.size + 1 + 1; omega) _
  · have := hb.size
    simp
    omega
end Go.Proofs.Ytpjldoahinocjaa.P06
