/-
  The writer in memory: its block, its table, its row of bytes; what keeps it.
-/
import Derived.Test.YtndcdidepdcmnaaKB7Pure
import Derived.Test.YtndcdidepdcmnaaKP06Of
import Derived.Test.YtndcdidepdcmnaaKS05Bytes
set_option linter.unusedSimpArgs false
set_option linter.unusedVariables false
namespace Go.Proofs.Ytndcdidepdcmnaa.B07
open Go.RowKit Go.Lib Go.Maps Go.Proofs.Ytndcdidepdcmnaa.Wd Go.Proofs.Ytndcdidepdcmnaa.V01 Go.Proofs.Ytndcdidepdcmnaa.V04 Go.Proofs.Ytndcdidepdcmnaa.P06
open Go.Proofs.Ytndcdidepdcmnaa.S05 (Fr Sub Tab)

theorem Fr.bk {w w' : World} {O : List Nat} {g : Nat} {t : TypeId} {cs : Array Value} (h : Bk w g t cs) (f : Fr O w w') (hg : g ∉ O) : Bk w' g t cs := by
  unfold Bk
  rw [f.block g h.lt hg]
  exact h
theorem Sub.out {w : World} {O O' : List Nat} {g : Nat} (s : Sub w O' O) (hl : g < w.heap.size) (hg : g ∉ O) : g ∉ O' := fun hm => by
  rcases s g hm with h | h
  · exact hg h
  · omega
theorem own_fr {w w' : World} {O : List Nat} {base : Nat} {e : TypeId} {sz n : Nat} {v : Value} {xs : List Value} (h : w.ownsRow base e sz v n xs) (f : Fr O w w') (ho : ∀ k, v.ownBlock = some k → k ∉ O) : w'.ownsRow base e sz v n xs :=
  ⟨h.1, h.2.elim .inl fun ⟨g, cap, cur, hv, hbg, hg, r⟩ => .inr ⟨g, cap, cur, hv, hbg, by rw [f.block g (Array.getElem?_eq_some_iff.1 hg).1 (ho g (by rw [hv]; rfl))]; exact hg, r⟩⟩

/-- block g is a writer: its table is p with the texts T, its row has the bytes b -/
structure Wrt (w : World) (g p : Nat) (T : List ByteArray) (o : List Nat) (A : Option Addr) (c : Nat) (b : List UInt8) : Prop where
  box : Bk w g 62 #[.pointer (some ⟨p, 0, none⟩), .slice A b.length c]
  tab : Tab w p T o
  row : w.ownsRow 0 5 1 (.slice A b.length c) b.length (Lib.byteCells b)
  og : g ∉ o
  ra : ∀ a, A = some a → a.block ∉ o ∧ a.block ≠ g
def owns (g : Nat) (o : List Nat) (A : Option Addr) : List Nat := g :: (o ++ (A.map (·.block)).toList)
/-- a writer with its blocks O -/
def Wx (w : World) (g : Nat) (T : List ByteArray) (b : List UInt8) (O : List Nat) : Prop := ∃ p o A c, Wrt w g p T o A c b ∧ O = owns g o A
theorem owns_g (g : Nat) (o : List Nat) (A : Option Addr) : g ∈ owns g o A := by simp [owns]
theorem owns_o {g : Nat} {o : List Nat} {A : Option Addr} {x : Nat} (h : x ∈ o) : x ∈ owns g o A := by simp [owns, h]
theorem owns_a {g : Nat} {o : List Nat} {a : Addr} : a.block ∈ owns g o (some a) := by simp [owns]
theorem owns_cases {g : Nat} {o : List Nat} {A : Option Addr} {x : Nat} (h : x ∈ owns g o A) : x = g ∨ x ∈ o ∨ ∃ a, A = some a ∧ x = a.block := by
  simp only [owns, List.mem_cons, List.mem_append, Option.mem_toList, Option.map_eq_some_iff] at h
  rcases h with h | h | ⟨a, h1, h2⟩
  · exact .inl h
  · exact .inr (.inl h)
  · exact .inr (.inr ⟨a, h1, h2.symm⟩)
theorem Wrt.lt {w : World} {g p : Nat} {T : List ByteArray} {o : List Nat} {A : Option Addr} {c : Nat} {b : List UInt8} (h : Wrt w g p T o A c b) : ∀ x ∈ owns g o A, x < w.heap.size := fun x hx => by
  rcases owns_cases hx with rfl | hx | ⟨a, rfl, rfl⟩
  · exact h.box.lt
  · exact h.tab.lt x hx
  · exact (h.row.lt _ rfl).2
theorem Wx.lt {w : World} {g : Nat} {T : List ByteArray} {b : List UInt8} {O : List Nat} (h : Wx w g T b O) : ∀ x ∈ O, x < w.heap.size := by
  obtain ⟨p, o, A, c, h, rfl⟩ := h
  exact h.lt
/-- what leaves its blocks alone leaves it -/
theorem Wrt.same {w w' : World} {g p : Nat} {T : List ByteArray} {o : List Nat} {A : Option Addr} {c : Nat} {b : List UInt8} (h : Wrt w g p T o A c b) (hk : ∀ x ∈ owns g o A, w'.heap[x]? = w.heap[x]?) : Wrt w' g p T o A c b := by
  refine ⟨?_, ?_, ?_, h.og, h.ra⟩
  · unfold Bk
    rw [hk g (owns_g _ _ _)]
    exact h.box
  · obtain ⟨A1, c1, M1, t, rfl⟩ := h.tab
    exact ⟨A1, c1, M1, t.same fun x hx => hk x (owns_o hx), rfl⟩
  · refine S05.row_kept h.row fun k hk' => ?_
    cases A with
    | none => cases hk'
    | some a =>
      injection hk' with e
      subst e
      exact hk _ owns_a
theorem Wx.fr {w w' : World} {g : Nat} {T : List ByteArray} {b : List UInt8} {O O2 : List Nat} (h : Wx w g T b O) (f : Fr O2 w w') (hd : ∀ x ∈ O, x ∉ O2) : Wx w' g T b O := by
  have hl := h.lt
  obtain ⟨p, o, A, c, h, rfl⟩ := h
  exact ⟨p, o, A, c, h.same fun x hx => f.block x (hl x hx) (hd x hx), rfl⟩
theorem Wx.below {w w' : World} {g : Nat} {T : List ByteArray} {b : List UInt8} {O : List Nat} (h : Wx w g T b O) (hb : Below w.heap.size w w') : Wx w' g T b O := h.fr (Fr.of_below [] hb) (fun _ _ hx => by cases hx)
theorem Wx.len {w : World} {g : Nat} {T : List ByteArray} {b : List UInt8} {O : List Nat} (h : Wx w g T b O) : T.length ≤ 4096 := by
  obtain ⟨p, o, A, c, h, rfl⟩ := h
  exact h.tab.len
/-- the row has grown, and the field is set -/
theorem Wrt.grow {w w1 w2 : World} {g p : Nat} {T : List ByteArray} {o : List Nat} {A A' : Option Addr} {c c' : Nat} {b q r : List UInt8} (h : Wrt w g p T o A c b) (hb : Below w.heap.size w w1)
    (hr : b ++ q = r) (hrow : w2.ownsRow 0 5 1 (.slice A' r.length c') r.length (Lib.byteCells r)) (hg : w1.grownBy w2 (Value.slice A b.length c).ownBlock)
    (hat : (Value.slice A' r.length c').ownBlock = (Value.slice A b.length c).ownBlock ∨ (Value.slice A' r.length c').ownBlock = some w1.heap.size) :
    Wrt (w2.setCell ⟨g, 1, none⟩ (.slice A' r.length c')) g p T o A' c' r ∧ Fr (owns g o A) w (w2.setCell ⟨g, 1, none⟩ (.slice A' r.length c')) ∧ Sub w (owns g o A') (owns g o A) := by
  have hlt := h.lt
  have hs1 := hb.size
  have hrow0 : ∀ k, (Value.slice A b.length c).ownBlock = some k → k ∈ owns g o A ∧ k ∉ o ∧ k ≠ g := fun k hk => by
    cases A with
    | none => cases hk
    | some a =>
      injection hk with e
      subst e
      exact ⟨owns_a, (h.ra a rfl).1, (h.ra a rfl).2⟩
  have ha' : ∀ a, A' = some a → (a.block ∈ owns g o A ∨ w.heap.size ≤ a.block) ∧ a.block ∉ o ∧ a.block ≠ g := fun a e => by
    subst e
    rcases hat with h1 | h1
    · obtain ⟨k1, k2, k3⟩ := hrow0 a.block h1.symm
      exact ⟨.inl k1, k2, k3⟩
    · injection h1 with h1
      refine ⟨.inr (by omega), fun hm => ?_, fun e => ?_⟩
      · have := hlt _ (owns_o hm); omega
      · have := hlt _ (owns_g g o A); omega
  have hkeep : ∀ x, x < w.heap.size → (∀ k, (Value.slice A b.length c).ownBlock = some k → x ≠ k) → w2.heap[x]? = w.heap[x]? := fun x hx hne => by
    rw [hg.block x (by omega) (fun e => hne x e.symm rfl), hb.block x hx]
  have hbox : Bk w2 g 62 #[.pointer (some ⟨p, 0, none⟩), .slice A b.length c] := by
    unfold Bk
    rw [hkeep g h.box.lt (fun k hk e => (hrow0 k hk).2.2 e.symm)]
    exact h.box
  refine ⟨⟨?_, ?_, ?_, h.og, fun a e => (ha' a e).2⟩, ?_, fun x hx => ?_⟩
  · simpa using hbox.set 1 (.slice A' r.length c')
  · obtain ⟨A1, c1, M1, t, rfl⟩ := h.tab
    refine ⟨A1, c1, M1, t.same fun x hx => ?_, rfl⟩
    have hgx : g ≠ x := fun e => h.og (by rw [e]; exact hx)
    rw [heap_set _ _ _ _ _ hgx, hkeep x (t.lt x hx) (fun k hk e => (hrow0 k hk).2.1 (e ▸ hx))]
  · refine S05.row_kept hrow fun k hk => heap_set _ _ _ _ _ fun e => ?_
    cases A' with
    | none => cases hk
    | some a =>
      injection hk with e2
      exact (ha' a rfl).2.2 (by omega)
  · refine ⟨?_, ?_, ?_, ?_, fun x hx hn => ?_⟩
    · exact hg.os.trans hb.os
    · exact hg.tape.trans hb.tape
    · exact hg.output.trans hb.output
    · have := hg.size; simp; omega
    · have hgx : g ≠ x := fun e => hn (by rw [← e]; exact owns_g g o A)
      rw [heap_set _ _ _ _ _ hgx, hkeep x hx (fun k hk e => hn (e ▸ (hrow0 k hk).1))]
  · rcases owns_cases hx with rfl | hx | ⟨a, e, rfl⟩
    · exact .inl (owns_g _ _ _)
    · exact .inl (owns_o hx)
    · exact (ha' a e).1
end Go.Proofs.Ytndcdidepdcmnaa.B07
