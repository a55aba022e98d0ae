/-
  The hash in plain numbers; the eight bytes of a trace.
-/
import Derived.Test.YtjbnoioildbahaaWords
import Derived.Test.YtjbnoioildbahaaTexts
namespace Go.Proofs.Ytjbnoioildbahaa.D09
open Go.RowKit Go.Lib Go.Proofs.Ytjbnoioildbahaa.Wd

theorem u8_lt (c : UInt8) : c.toNat < 256 := c.toNat_lt
theorem ret_int {k : IntKind} {a b : Int} (h : a = b) : Ending.returned (.int k a) = .returned (.int k b) := by rw [h]
theorem ret_bool {a b : Bool} (h : a = b) : Ending.returned (.bool a) = .returned (.bool b) := by rw [h]
/-- a byte put in -/
def mix (h : Int) (c : Nat) : Int := IntKind.u64.wrap (bits .xor .u64 h (c : Int) * 1099511628211)
/-- the hash of bytes, from some on -/
def fnv : Int → List UInt8 → Int
  | h, [] => h
  | h, c :: l => fnv (mix h c.toNat) l
def first : Int := 14695981039346656037
theorem fnv_app (h : Int) (l m : List UInt8) : fnv h (l ++ m) = fnv (fnv h l) m := by
  induction l generalizing h with
  | nil => rfl
  | cons c l ih => exact ih _
theorem mix_in (h : Int) (c : Nat) : 0 ≤ mix h c ∧ mix h c ≤ 18446744073709551615 := by
  unfold mix
  rw [IntKind.wrap_u64]
  omega
/-- a number of 64 bits -/
def In64 (h : Int) : Prop := 0 ≤ h ∧ h ≤ 18446744073709551615
theorem fnv_in (l : List UInt8) : ∀ h, In64 h → In64 (fnv h l) := by
  induction l with
  | nil => exact fun h hh => hh
  | cons c l ih => exact fun h _ => ih _ (mix_in h c.toNat)
theorem first_in : In64 first := by unfold In64 first; omega
/-- where a loop over the bytes is -/
def MoreR (l : List UInt8) (r : Int) (k : Nat) (x : Int) : Prop := fnv x (l.drop k) = r
theorem MoreR.step {l : List UInt8} {r : Int} {k : Nat} {x : Int} (h : MoreR l r k x) (hk : k < l.length) : MoreR l r (k + 1) (mix x l[k].toNat) := by
  unfold MoreR at *
  rw [List.drop_eq_getElem_cons hk] at h
  exact h
theorem MoreR.fin {l : List UInt8} {r : Int} {x : Int} (h : MoreR l r l.length x) : x = r := by
  unfold MoreR at h
  rw [List.drop_length] at h
  exact h

/-- the bytes of texts, a 0 behind each -/
def joined (L : List ByteArray) : List UInt8 := L.flatMap fun s => bs s ++ [0]
theorem joined_take (L : List ByteArray) (k : Nat) (hk : k < L.length) : joined (L.take (k + 1)) = joined (L.take k) ++ (bs L[k] ++ [0]) := by
  unfold joined
  rw [← List.take_append_getElem hk, List.flatMap_append]
  simp
/-- where a loop over the texts is -/
def TextR (L : List ByteArray) (r : Int) (k : Nat) (x : Int) : Prop := fnv x (joined (L.drop k)) = r
theorem TextR.step {L : List ByteArray} {r : Int} {k : Nat} {x : Int} (h : TextR L r k x) (hk : k < L.length) : TextR L r (k + 1) (fnv (fnv x (bs L[k])) [0]) := by
  unfold TextR joined at *
  rw [List.drop_eq_getElem_cons hk, List.flatMap_cons, fnv_app, fnv_app] at h
  exact h
theorem TextR.fin {L : List ByteArray} {r : Int} {x : Int} (h : TextR L r L.length x) : x = r := by
  unfold TextR joined at h
  rw [List.drop_length] at h
  exact h

/-- byte k of a trace, the lowest one first -/
def tbk (t k : Nat) : Nat := t / 256 ^ k % 256
theorem tbk_lt (t k : Nat) : tbk t k < 256 := Nat.mod_lt _ (by decide)
def tb (t : Nat) (n : Nat) : List UInt8 := (List.range n).map fun k => UInt8.ofNat (tbk t k)
theorem tb_len (t n : Nat) : (tb t n).length = n := by simp [tb]
theorem tb_succ (t n : Nat) : tb t (n + 1) = tb t n ++ [UInt8.ofNat (tbk t n)] := by simp [tb, List.range_succ]
theorem tbk_nat (t k : Nat) : (UInt8.ofNat (tbk t k)).toNat = tbk t k := by
  rw [UInt8.toNat_ofNat_of_lt' (by show _ < 256; exact tbk_lt t k)]
/-- the hash of a trace -/
def tr (t : Nat) : Int := fnv first (tb t 8)
theorem tr_in (t : Nat) : In64 (tr t) := fnv_in _ _ first_in
/-- its part -/
def part (t : Nat) (n : Int) : Int := if n < 1 then 0 else tr t % n
end Go.Proofs.Ytjbnoioildbahaa.D09
