/-
  An attribute: a key and a value, as four cells; the order of keys.
-/
import Derived.Test.YtjbnoioildbahaaP06Row
import Derived.Test.YtjbnoioildbahaaV04Comp
import Derived.Shelf.SlSortCmp.KitK
namespace Go.Proofs.Ytjbnoioildbahaa.P06
open Go.RowKit Go.Lib Go.Sort Go.Proofs.Ytjbnoioildbahaa.Wd Go.Proofs.Ytjbnoioildbahaa.V04

/-- an attribute -/
structure At where
  key : ByteArray
  K : Int
  N : Int
  S : ByteArray
instance : Inhabited At := ⟨⟨ByteArray.empty, 0, 0, ByteArray.empty⟩⟩
/-- its cells -/
def enc (a : At) : List Value := [.string a.key, .int .i64 a.K, .int .i64 a.N, .string a.S]
/-- its key's bytes -/
def kb (a : At) : List UInt8 := a.key.data.toList
def ble (x y : List UInt8) : Prop := compareBytes x y ≤ 0
def cf (a b : At) : Int := compareBytes (kb a) (kb b)
theorem ord : Ord ble := by
  refine ⟨fun x y => ?_, fun x y z h1 h2 => ?_, fun x y h1 h2 => ?_⟩
  · unfold ble
    have := cb_neg x y
    omega
  · unfold ble at *
    exact (t3_cb x y z h1 h2).1
  · unfold ble at *
    have := cb_neg x y
    exact cb_zero x y (by omega)
theorem cf_lt (a b : At) : ltOf cf a b = true ↔ ¬ ble (kb b) (kb a) := by
  unfold ltOf ble cf
  have := cb_neg (kb a) (kb b)
  simp only [decide_eq_true_eq]
  omega
theorem cf_not (a b : At) (h : ¬ cf a b < 0) : ble (kb b) (kb a) := by
  unfold ble
  unfold cf at h
  have := cb_neg (kb a) (kb b)
  omega
theorem cf_yes (a b : At) (h : cf a b < 0) : ¬ ble (kb b) (kb a) := by
  unfold ble
  unfold cf at h
  have := cb_neg (kb a) (kb b)
  omega
theorem enc_len (a : At) : (enc a).length = 4 := rfl
theorem enc_one (a : At) : ∀ v ∈ enc a, v.oneCell' = true := by
  intro v hv
  simp only [enc, List.mem_cons, List.not_mem_nil, or_false] at hv
  rcases hv with rfl | rfl | rfl | rfl <;> rfl
/-- in order by keys -/
abbrev Srt (l : List At) : Prop := Sd ble kb l
abbrev Keep (l m : List At) : Prop := Fe kb l m
end Go.Proofs.Ytjbnoioildbahaa.P06
