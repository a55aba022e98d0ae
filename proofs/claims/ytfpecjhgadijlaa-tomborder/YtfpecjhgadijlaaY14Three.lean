/-
  Three yards of the call's own, apart from one another.
-/
import Derived.Test.YtfpecjhgadijlaaY14Own
set_option linter.unusedSimpArgs false
set_option linter.unusedVariables false
namespace Go.Proofs.Ytfpecjhgadijlaa.Y14
open Go.RowKit Go.Lib Go.Maps Go.Proofs.Ytfpecjhgadijlaa.Wd Go.Proofs.Ytfpecjhgadijlaa.U12

def Apart (o o' : List Nat) : Prop := ∀ x ∈ o, x ∉ o'
theorem Apart.symm {o o' : List Nat} (h : Apart o o') : Apart o' o := fun x hx hm => h x hm hx
/-- three yards -/
def T3 (w0 w : World) (qa qb qc M N K : Nat) (a b c : List It) : Prop :=
  ∃ oa ob oc, Yd w qa oa M a ∧ Yd w qb ob N b ∧ Yd w qc oc K c ∧ Apart oa ob ∧ Apart oa oc ∧ Apart ob oc ∧ (∀ x ∈ oa, w0.heap.size ≤ x) ∧ (∀ x ∈ ob, w0.heap.size ≤ x) ∧ (∀ x ∈ oc, w0.heap.size ≤ x) ∧ Below w0.heap.size w0 w
section
variable {w0 w w' : World} {qa qb qc M N K : Nat} {a b c : List It}
theorem T3.rot (h : T3 w0 w qa qb qc M N K a b c) : T3 w0 w qb qc qa N K M b c a := by
  obtain ⟨oa, ob, oc, h1, h2, h3, a1, a2, a3, g1, g2, g3, B⟩ := h
  exact ⟨ob, oc, oa, h2, h3, h1, a3, a1.symm, a2.symm, g2, g3, g1, B⟩
theorem T3.bel (h : T3 w0 w qa qb qc M N K a b c) : Below w0.heap.size w0 w := by obtain ⟨oa, ob, oc, h1, h2, h3, a1, a2, a3, g1, g2, g3, B⟩ := h; exact B
theorem T3.yr (h : T3 w0 w qa qb qc M N K a b c) : YR w0 w qa M a := by obtain ⟨oa, ob, oc, h1, h2, h3, a1, a2, a3, g1, g2, g3, B⟩ := h; exact ⟨oa, h1, g1, B⟩
theorem Apart.kept {o o' p : List Nat} (h : Apart p o) (hs : Wd.Sub w o' o) (hp : ∀ x ∈ p, x < w.heap.size) : Apart o' p := fun x hx hm => by
  rcases hs x hx with h1 | h1
  · exact h x hm h1
  · have := hp x hm
    omega
theorem T3.putA (h : T3 w0 w qa qb qc M N K a b c) (x : It) (a' : List It) (hx : (x.1 : Int) ≤ 18446744073709551615 ∧ (x.2 : Int) ≤ 18446744073709551615) (hN : a.length + 1 ≤ 1000) (ha : yput a x M = a') :
    Calls Try.prog 8 #[.pointer (some ⟨qa, 0, none⟩), .int .u64 (x.1 : Int), .int .u64 (x.2 : Int)] w fun e w' => (∃ i r, e = .returned (.tuple #[.int .u64 i, .bool r, .int .i64 0])) ∧ T3 w0 w' qa qb qc M N K a' b c := by
  obtain ⟨oa, ob, oc, h1, h2, h3, a1, a2, a3, g1, g2, g3, B⟩ := h
  subst ha
  exact (yput_at x h1 hx hN).mono fun _ _ ⟨e, o', h4, hF, hS⟩ => ⟨⟨_, _, e⟩, o', ob, oc, h4, h2.fr hF a1.symm, h3.fr hF a2.symm, Apart.kept a1.symm hS h2.qu.lt, Apart.kept a2.symm hS h3.qu.lt, a3, hS.above B.size g1, g2, g3, B.trans (hF.below B.size g1)⟩
theorem T3.putB (h : T3 w0 w qa qb qc M N K a b c) (x : It) (b' : List It) (hx : (x.1 : Int) ≤ 18446744073709551615 ∧ (x.2 : Int) ≤ 18446744073709551615) (hN : b.length + 1 ≤ 1000) (hb : yput b x N = b') :
    Calls Try.prog 8 #[.pointer (some ⟨qb, 0, none⟩), .int .u64 (x.1 : Int), .int .u64 (x.2 : Int)] w fun e w' => (∃ i r, e = .returned (.tuple #[.int .u64 i, .bool r, .int .i64 0])) ∧ T3 w0 w' qa qb qc M N K a b' c :=
  (h.rot.putA x b' hx hN hb).mono fun _ _ ⟨e, h⟩ => ⟨e, h.rot.rot⟩
theorem T3.putC (h : T3 w0 w qa qb qc M N K a b c) (x : It) (c' : List It) (hx : (x.1 : Int) ≤ 18446744073709551615 ∧ (x.2 : Int) ≤ 18446744073709551615) (hN : c.length + 1 ≤ 1000) (hc : yput c x K = c') :
    Calls Try.prog 8 #[.pointer (some ⟨qc, 0, none⟩), .int .u64 (x.1 : Int), .int .u64 (x.2 : Int)] w fun e w' => (∃ i r, e = .returned (.tuple #[.int .u64 i, .bool r, .int .i64 0])) ∧ T3 w0 w' qa qb qc M N K a b c' :=
  (h.rot.rot.putA x c' hx hN hc).mono fun _ _ ⟨e, h⟩ => ⟨e, h.rot⟩
/-- three that are made one behind the other -/
theorem T3.of {w1 w2 w3 w4 : World} {oa ob oc : List Nat} (h1 : Yd w2 qa oa M a) (g1 : ∀ x ∈ oa, w1.heap.size ≤ x) (B0 : Below w0.heap.size w0 w1) (B1 : Below w1.heap.size w1 w2)
    (h2 : Yd w3 qb ob N b) (g2 : ∀ x ∈ ob, w2.heap.size ≤ x) (B2 : Below w2.heap.size w2 w3) (h3 : Yd w4 qc oc K c) (g3 : ∀ x ∈ oc, w3.heap.size ≤ x) (B3 : Below w3.heap.size w3 w4) :
    T3 w0 w4 qa qb qc M N K a b c := by
  have l1 := h1.qu.lt
  have l2 := h2.qu.lt
  have s0 := B0.size
  have s1 := B1.size
  have s2 := B2.size
  refine ⟨oa, ob, oc, (h1.below B2).below B3, h2.below B3, h3, fun x hx hm => ?_, fun x hx hm => ?_, fun x hx hm => ?_, fun x hx => ?_, fun x hx => ?_, fun x hx => ?_, ((B0.trans (B1.mono s0)).trans (B2.mono (by omega))).trans (B3.mono (by omega))⟩
  · have := l1 x hx; have := g2 x hm; omega
  · have := l1 x hx; have := g3 x hm; omega
  · have := l2 x hx; have := g3 x hm; omega
  · have := g1 x hx; omega
  · have := g2 x hx; omega
  · have := g3 x hx; omega
end
theorem keep_few (M : Nat) {l : List It} (h : (l.map (·.1)).Nodup) : (keep M (al l)).length ≤ l.length := by
  rw [keep_len, (al_of h).length_eq]
  omega
/-- what the three remember behind i rounds -/
def O3 (w0 w : World) (qa qb qc M N y i : Nat) (ts : List Nat) : Prop := T3 w0 w qa qb qc M M (M + N) (keep M (al (fA ts i))) (keep M (al (fB ts y i))) (keep (M + N) (al (fA ts i)))
theorem stepA (M : Nat) {ts : List Nat} {i x : Nat} (h : i < ts.length) (hx : ts[i] = x) : yput (keep M (al (fA ts i))) (i, x) M = keep M (al (fA ts (i + 1))) := by
  have hi := fA_ids ts (i + 1)
  rw [fA_step] at hi
  rw [← hx, ← itm_get h, keep_al hi, fA_step]
theorem stepB (M : Nat) {ts : List Nat} {i y z x : Nat} (h : i < ts.length) (hz : way ts.length y i = z) (hzl : z < ts.length) (hx : ts[z] = x) : yput (keep M (al (fB ts y i))) (z, x) M = keep M (al (fB ts y (i + 1))) := by
  have hi := fB_ids ts y (i := i + 1) (by omega)
  rw [fB_step] at hi
  rw [← hx, ← itm_get hzl, ← hz, keep_al hi, fB_step]
theorem fewA (M : Nat) (ts : List Nat) (i : Nat) : (keep M (al (fA ts i))).length ≤ i := by have := keep_few M (fA_ids ts i); simpa [fA] using this
theorem fewB (M : Nat) {ts : List Nat} (y : Nat) {i : Nat} (h : i ≤ ts.length) : (keep M (al (fB ts y i))).length ≤ i := by have := keep_few M (fB_ids ts y h); simpa [fB] using this
end Go.Proofs.Ytfpecjhgadijlaa.Y14
