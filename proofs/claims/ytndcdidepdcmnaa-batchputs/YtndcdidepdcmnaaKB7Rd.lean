/-
  The reader in memory; its small methods.
-/
import Derived.Test.YtndcdidepdcmnaaKB7Get
import Derived.Test.YtndcdidepdcmnaaKB7Mem
import Derived.Test.YtndcdidepdcmnaaKS05Read
set_option linter.unusedSimpArgs false
set_option linter.unusedVariables false
namespace Go.Proofs.Ytndcdidepdcmnaa.B07
open Go.RowKit Go.Lib Go.Maps Go.Proofs.Ytndcdidepdcmnaa.Wd Go.Proofs.Ytndcdidepdcmnaa.V01 Go.Proofs.Ytndcdidepdcmnaa.V04 Go.Proofs.Ytndcdidepdcmnaa.P06
open Go.Proofs.Ytndcdidepdcmnaa.S05 (Fr Sub Tab)

abbrev rdc (v : Value) (e : Nat) (p : Option Addr) (m : Nat) (sk : Bool) : Array Value := #[v, .int .i64 (e : Int), .pointer p, .int .i64 (m : Int), .bool sk]
/-- block g is a reader with no error; the blocks that it reads are among Q -/
structure Rok (t : List ByteArray) (w : World) (g : Nat) (Q : List Nat) (s : S7) (A : Option Addr) (c p : Nat) (o : List Nat) : Prop where
  box : Bk w g 82 (rdc (.slice A s.1.length c) 0 (some ⟨p, 0, none⟩) s.2.1 s.2.2)
  bs : Bs w A c s.1
  tab : Tab w p t o
  og : g ∉ o
  ag : ∀ a, A = some a → a.block ≠ g
  gQ : g ∈ Q
  oQ : ∀ x ∈ o, x ∈ Q
  aQ : ∀ a, A = some a → a.block ∈ Q
  lt : ∀ x ∈ Q, x < w.heap.size
  len : s.1.length ≤ 65536
  met : s.2.1 ≤ t.length
/-- .. with the error e -/
structure Rer (w : World) (g : Nat) (Q : List Nat) (e : Nat) : Prop where
  ne : e ≠ 0
  box : ∃ m sk, Bk w g 82 (rdc (.slice none 0 0) e none m sk)
  gQ : g ∈ Q
  lt : ∀ x ∈ Q, x < w.heap.size
def Rs (t : List ByteArray) (w : World) (g : Nat) (Q : List Nat) : Except Nat S7 → Prop
  | .ok s => ∃ A c p o, Rok t w g Q s A c p o
  | .error e => Rer w g Q e
variable {t : List ByteArray} {w w' : World} {g : Nat} {Q : List Nat} {σ : Except Nat S7}
theorem Rs.lt (h : Rs t w g Q σ) : ∀ x ∈ Q, x < w.heap.size := by
  cases σ with
  | ok s => obtain ⟨A, c, p, o, h⟩ := h; exact h.lt
  | error e => exact h.lt
theorem Rs.gQ (h : Rs t w g Q σ) : g ∈ Q := by
  cases σ with
  | ok s => obtain ⟨A, c, p, o, h⟩ := h; exact h.gQ
  | error e => exact h.gQ
theorem Bs.same {A : Option Addr} {c : Nat} {l : List UInt8} (h : Bs w A c l) (hk : ∀ a, A = some a → w'.heap[a.block]? = w.heap[a.block]?) : Bs w' A c l :=
  ⟨h.len, h.none_, h.cap, h.max, fun ad ha i u hu => by
    rw [World.cell?_of_block (w := w) (w' := w') (by rw [add_block]; exact hk ad ha)]
    exact h.at_ ad ha i u hu⟩
theorem Rok.same {s : S7} {A : Option Addr} {c p : Nat} {o : List Nat} (h : Rok t w g Q s A c p o) (hs : w.heap.size ≤ w'.heap.size) (hk : ∀ x ∈ Q, w'.heap[x]? = w.heap[x]?) : Rok t w' g Q s A c p o := by
  refine ⟨?_, B07.Bs.same h.bs fun a e => hk _ (h.aQ a e), ?_, h.og, h.ag, h.gQ, h.oQ, h.aQ, fun x hx => Nat.lt_of_lt_of_le (h.lt x hx) hs, h.len, h.met⟩
  · unfold Bk
    rw [hk g h.gQ]
    exact h.box
  · obtain ⟨A1, c1, M1, T, rfl⟩ := h.tab
    exact ⟨A1, c1, M1, T.same fun x hx => hk x (h.oQ x hx), rfl⟩
theorem Rs.same (h : Rs t w g Q σ) (hs : w.heap.size ≤ w'.heap.size) (hk : ∀ x ∈ Q, w'.heap[x]? = w.heap[x]?) : Rs t w' g Q σ := by
  cases σ with
  | ok s =>
    obtain ⟨A, c, p, o, h⟩ := h
    exact ⟨A, c, p, o, h.same hs hk⟩
  | error e =>
    obtain ⟨m, sk, hb⟩ := h.box
    refine ⟨h.ne, ⟨m, sk, ?_⟩, h.gQ, fun x hx => Nat.lt_of_lt_of_le (h.lt x hx) hs⟩
    unfold Bk
    rw [hk g h.gQ]
    exact hb
theorem Rs.fr {O : List Nat} (h : Rs t w g Q σ) (f : Fr O w w') (hd : ∀ x ∈ Q, x ∉ O) : Rs t w' g Q σ := h.same f.size fun x hx => f.block x (h.lt x hx) (hd x hx)
theorem Rs.below (h : Rs t w g Q σ) (hb : Below w.heap.size w w') : Rs t w' g Q σ := h.same hb.size fun x hx => hb.block x (h.lt x hx)
theorem Rs.drewN (h : Rs t w g Q σ) (k : Nat) : Rs t (w.drewN k) g Q σ := h.below ⟨rfl, rfl, rfl, Nat.le_refl _, fun _ _ => rfl⟩
/-- a reader that fails -/
def failS (e : Nat) : Except Nat S7 → Except Nat S7
  | .ok _ => .error e
  | .error f => .error f
theorem Rok.put {s s' : S7} {A A' : Option Addr} {c c' p : Nat} {o : List Nat} (h : Rok t w g Q s A c p o) (hB : Bk w' g 82 (rdc (.slice A' s'.1.length c') 0 (some ⟨p, 0, none⟩) s'.2.1 s'.2.2)) (f : Fr [g] w w') (hb : Bs w A' c' s'.1) (hA : ∀ a, A' = some a → ∃ a0, A = some a0 ∧ a.block = a0.block) (hl : s'.1.length ≤ 65536) (hm : s'.2.1 ≤ t.length) : Rok t w' g Q s' A' c' p o := by
  have hne : ∀ a, A' = some a → a.block ≠ g ∧ a.block ∈ Q := fun a e => by
    obtain ⟨a0, e0, e1⟩ := hA a e
    rw [e1]
    exact ⟨h.ag a0 e0, h.aQ a0 e0⟩
  refine ⟨hB, B07.Bs.same hb fun a e => f.block _ (h.lt _ (hne a e).2) (by simp; exact (hne a e).1), h.tab.fr f (fun x hx hm => ?_), h.og, fun a e => (hne a e).1, h.gQ, h.oQ, fun a e => (hne a e).2, fun x hx => Nat.lt_of_lt_of_le (h.lt x hx) f.size, hl, hm⟩
  simp at hm
  subst hm
  exact h.og hx
theorem fr_set (w : World) (g j : Nat) (v : Value) : Fr [g] w (w.setCell ⟨g, j, none⟩ v) := Fr.setCell w ⟨g, j, none⟩ v (by simp)
theorem Fr.again {w1 w2 : World} (f : Fr [g] w w1) (k : Fr [g] w1 w2) : Fr [g] w w2 := f.trans k (Sub.refl _ _)

set_option maxRecDepth 20000 in
theorem fail_any (e : Nat) (h : Rs t w g Q σ) (he : e ≠ 0) (hm : e ≤ 1000) :
    Calls Try.prog 54 #[.pointer (some ⟨g, 0, none⟩), .int .i64 (e : Int)] w fun x w' => x = .returned (.tuple #[]) ∧ Rs t w' g Q (failS e σ) ∧ Fr [g] w w' := by
  cases σ with
  | ok s =>
    obtain ⟨A, c, p, o, h⟩ := h
    have hB := h.box
    have gQ := h.gQ
    have lt := h.lt
    obtain ⟨n, hn⟩ : ∃ n, s.1.length = n := ⟨_, rfl⟩
    obtain ⟨m, hm2⟩ : ∃ m, s.2.1 = m := ⟨_, rfl⟩
    obtain ⟨sk, hsk⟩ : ∃ m, s.2.2 = m := ⟨_, rfl⟩
    rw [hn, hm2, hsk] at hB
    clear h hn hm2 hsk
    have c1 : w.cell? ⟨g, 1, none⟩ = some (.int .i64 0) := hB.cell 1
    have c0 : w.cell? ⟨g, 0, none⟩ = some (.slice A n c) := hB.cell 0
    have c2 : w.cell? ⟨g, 2, none⟩ = some (.pointer (some ⟨p, 0, none⟩)) := hB.cell 2
    have f0 := hB.frozen 0
    have f1 := hB.frozen 1
    have f2 := hB.frozen 2
    have hB2 := ((hB.set 1 (.int .i64 (e : Int))).set 0 (.slice none 0 0)).set 2 (.pointer none)
    have hF := Fr.again (Fr.again (fr_set w g 1 (.int .i64 (e : Int))) (fr_set (w.setCell ⟨g, 1, none⟩ (.int .i64 (e : Int))) g 0 (.slice none 0 0))) (fr_set ((w.setCell ⟨g, 1, none⟩ (.int .i64 (e : Int))).setCell ⟨g, 0, none⟩ (.slice none 0 0)) g 2 (.pointer none))
    have hR : Rs t (((w.setCell ⟨g, 1, none⟩ (.int .i64 (e : Int))).setCell ⟨g, 0, none⟩ (.slice none 0 0)).setCell ⟨g, 2, none⟩ (.pointer none)) g Q (failS e (.ok s)) :=
      ⟨he, ⟨m, sk, by simpa using hB2⟩, gQ, fun x hx => Nat.lt_of_lt_of_le (lt x hx) hF.size⟩
    have HR := Lib.hid hR
    have HF := Lib.hid hF
    clear hB hB2 hR hF
    go_enter Try.func54, Try.ntmps54
    go_wp2
    refine bodyPost_end (results_none rfl _ _ _) rfl ?_
    exact ⟨rfl, HR.out, HF.out⟩
  | error f =>
    obtain ⟨m, sk, hB⟩ := h.box
    have hne : ¬ ((f : Int) = 0) := by have := h.ne; omega
    have c1 : w.cell? ⟨g, 1, none⟩ = some (.int .i64 (f : Int)) := hB.cell 1
    have c0 : w.cell? ⟨g, 0, none⟩ = some (.slice none 0 0) := hB.cell 0
    have c2 : w.cell? ⟨g, 2, none⟩ = some (.pointer none) := hB.cell 2
    have f0 := hB.frozen 0
    have f1 := hB.frozen 1
    have f2 := hB.frozen 2
    have hB2 := (hB.set 0 (.slice none 0 0)).set 2 (.pointer none)
    have hF := Fr.again (fr_set w g 0 (.slice none 0 0)) (fr_set (w.setCell ⟨g, 0, none⟩ (.slice none 0 0)) g 2 (.pointer none))
    have hR : Rs t ((w.setCell ⟨g, 0, none⟩ (.slice none 0 0)).setCell ⟨g, 2, none⟩ (.pointer none)) g Q (failS e (.error f)) :=
      ⟨h.ne, ⟨m, sk, by simpa using hB2⟩, h.gQ, fun x hx => Nat.lt_of_lt_of_le (h.lt x hx) hF.size⟩
    have HR := Lib.hid hR
    have HF := Lib.hid hF
    clear hB hB2 hR hF h
    go_enter Try.func54, Try.ntmps54
    go_wp2
    refine bodyPost_end (results_none rfl _ _ _) rfl ?_
    exact ⟨rfl, HR.out, HF.out⟩
end Go.Proofs.Ytndcdidepdcmnaa.B07
