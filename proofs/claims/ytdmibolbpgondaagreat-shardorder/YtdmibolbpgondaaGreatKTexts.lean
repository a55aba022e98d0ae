/-
  Texts in memory: a slice of texts, texts as bytes, how the walk spells their test and their cut; a slice of texts that came in.
-/
import Derived.Test.YtdmibolbpgondaaGreatRows
import Derived.Test.YtdmibolbpgondaaGreatKWords
import Derived.SliceStrings
import Derived.Lib.AppendStr
import Derived.WalkKit
import Derived.WalkSpells
import Derived.WalkLawsBesides
namespace Go.Proofs.YtdmibolbpgondaaGreat.Wd
open Go.RowKit Go.Lib
variable {w w' : World}
theorem text_info : (Tryz.prog.info? 9).map (fun i => (i.zero, i.size, i.bytes)) = some (some (.string ByteArray.empty), 1, 16) := by kernel_rfl
/-- texts, as cells -/
def sc (L : List ByteArray) : List Value := L.map Value.string
theorem sc_len (L : List ByteArray) : (sc L).length = L.length := by simp [sc]
theorem sc_app (a b : List ByteArray) : sc (a ++ b) = sc a ++ sc b := by simp [sc]
theorem sc_get (L : List ByteArray) (k : Nat) (h : k < L.length) : (sc L)[k]? = some (.string L[k]) := by simp [sc, h]
theorem sc_at (L : List ByteArray) (k : Nat) (u : Value) (h : (sc L)[k]? = some u) : ∃ hk : k < L.length, u = .string L[k] := by
  simp only [sc, List.getElem?_map, Option.map_eq_some_iff] at h
  obtain ⟨x, h1, h2⟩ := h
  obtain ⟨hk, he⟩ := List.getElem?_eq_some_iff.1 h1
  exact ⟨hk, by rw [← h2, he]⟩
theorem sc_one (L : List ByteArray) : ∀ u ∈ sc L, u.oneCell' = true := by
  intro u hu
  simp only [sc, List.mem_map] at hu
  obtain ⟨x, _, rfl⟩ := hu
  rfl
/-- a slice of texts, nil or not -/
def Ss (w : World) (A : Option Addr) (c : Nat) (L : List ByteArray) : Prop := Rd 1 w A L.length c (sc L)
theorem Ss.below {A : Option Addr} {c : Nat} {L : List ByteArray} (h : Ss w A c L) (hb : Below w.heap.size w w') : Ss w' A c L := Rd.below h hb
theorem Ss.get {A : Option Addr} {c : Nat} {L : List ByteArray} (h : Ss w A c L) {k : Nat} (hk : k < L.length) : ∃ ad, A = some ad ∧ w.cell? (ad.add k) = some (.string L[k]) := by
  obtain ⟨ad, u, hA, hu, hc⟩ := Rd.get h hk
  obtain ⟨_, rfl⟩ := sc_at L k u hu
  exact ⟨ad, hA, hc⟩
theorem Ss.own {base : Nat} {e : TypeId} {A : Option Addr} {c : Nat} {L : List ByteArray} (h : w.ownsRow base e 1 (.slice A L.length c) L.length (sc L)) : Ss w A c L := Rd.own h

def bs (s : ByteArray) : List UInt8 := s.data.toList
def str (l : List UInt8) : ByteArray := ⟨l.toArray⟩
theorem bs_len (s : ByteArray) : (bs s).length = s.size := Array.length_toList
theorem str_bs (s : ByteArray) : str (bs s) = s := by simp [str, bs]
theorem str_size (l : List UInt8) : (str l).size = l.length := List.size_toArray
theorem sc_bs (s : ByteArray) : strCells s = byteCells (bs s) := rfl
/-- 'append(own, s...)', s a text -/
theorem wpList_append_text {P : Program} (w : World) {ops : Array Oper} {rest : List Oper} {o : Oper} {a : Act} {Q : Exit → Act → World → Prop} (hgd : o.guard = none) (sl x : Operand) (t u : TypeId)
    (ho : o.op = .call { callee := .builtin .append, args := #[sl, x], argTypes := #[t, u] })
    (base : Nat) (e : TypeId) (i : TypeInfo) (ht : P.underlying t = some (.slice e)) (hu : P.underlying u = some .string) (hi : P.info? e = some i) (hz : i.zero = some (.int .u8 0))
    (hsize : i.size = 1) (hby : i.bytes = 1)
    (v : Value) (n : Nat) (xs : List Value) (hs : a.eval sl = v) (hown : w.ownsRow base e 1 v n xs) (s : ByteArray) (hx : a.eval x = .string s)
    (h63 : n + s.size ≤ maxLen) (hbytes : n + s.size ≤ 140737488355328) (hbase : base ≤ w.heap.size)
    (h : ∀ A' c' w', w'.ownsRow base e 1 (.slice A' (n + s.size) c') (n + s.size) (xs ++ byteCells (bs s)) → w.grownBy w' v.ownBlock → wpList P ops Q rest (a.put o.dst (.slice A' (n + s.size) c')) w') : wpList P ops Q (o :: rest) a w := by
  refine wpList_append_own_string w hgd sl x t u ho base e i ht hu hi hz hsize hby v n xs hs hown s hx h63 hbytes hbase fun v' w' h2 h3 _ => ?_
  obtain ⟨A1, c1, hv⟩ := own_form h2
  subst hv
  exact h A1 c1 w' h2 h3

/-- two texts, as the walk spells their test -/
theorem eq_tl {a b : ByteArray} (h : a = b) : (a.toList == b.toList) = true := by rw [h]; simp
theorem ne_tl {a b : ByteArray} (h : a ≠ b) : (a.toList == b.toList) = false := by
  rw [beq_eq_false_iff_ne]
  intro e
  rw [ByteArray.toList_eq, ByteArray.toList_eq] at e
  exact h (ByteArray.ext (Array.toList_inj.1 e))
/-- an argument of type []string, as the row's reading gives it -/
theorem Ss.of_trod {H : Type} {enc : TypeId × Value → H} {P : Program} {base : Nat} {held : Bool} {t e : TypeId} {fuel : Nat} {x : DataW H × List MemPlace} {a : Option Addr} {len cap : Nat}
    (ht : P.underlying t = some (.slice e)) (he : P.underlying e = some .string) (ce : P.cellsOf e = 1)
    (h : DataW.trod enc P w base (fun _ => true) held fuel t (Value.slice a len cap).cells.toList = some x) : ∃ L : List ByteArray, (Ss w a cap L ∧ ∀ s ∈ L, s.size ≤ maxLen) ∧ L.length = len := by
  rcases ChangeShapes.open_strings ht he ce h with ⟨hcs, _⟩ | ⟨a', len', cap', ss, hcs, _, hl, hm, hz, _, hcell, hsz⟩
  · simp [Value.cells] at hcs
    obtain ⟨rfl, rfl, rfl⟩ := hcs
    exact ⟨[], ⟨Rd.nil 1 w, by simp⟩, rfl⟩
  · simp [Value.cells] at hcs
    obtain ⟨rfl, rfl, rfl⟩ := hcs
    simp only [if_true] at hz
    have hlen : (ss.take len).length = len := by rw [List.length_take]; omega
    refine ⟨ss.take len, ⟨⟨by rw [sc_len, Nat.mul_one], fun e => (by cases e), by rw [hlen]; exact hl, hm, fun ad ha i u hu => ?_⟩, fun s hs => hsz s (List.mem_of_mem_take hs)⟩, hlen⟩
    injection ha with ha
    subst ha
    obtain ⟨hi, rfl⟩ := sc_at _ i u hu
    have hi2 : i < ss.length := by rw [List.length_take] at hi; omega
    rw [hcell i hi2, List.getElem_take]
    simp [List.getD, hi2]
end Go.Proofs.YtdmibolbpgondaaGreat.Wd
