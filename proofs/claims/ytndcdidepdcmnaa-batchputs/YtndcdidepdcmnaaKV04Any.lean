/-
  Values as any, and back: what Any, told, Of, number, Int, written and Text do.
-/
import Derived.Test.YtndcdidepdcmnaaKV04Right
import Derived.Shelf.Small.Strs
import Derived.Shelf.Small.Wraps
import Derived.Shelf.LaysM
import Derived.Shelf.Strconv.Itoa4
import Derived.Test.YtndcdidepdcmnaaProg
import Derived.Lib.LaidTab
import Derived.MakeChecks
import Derived.Handy
import Derived.Lib.AppendIntMem
set_option linter.unusedSimpArgs false
set_option linter.unusedVariables false
namespace Go.Proofs.Ytndcdidepdcmnaa.V04
open Go.RowKit Go.Lib Go.Proofs.Ytndcdidepdcmnaa.Wd

/-- the table of tens lies as the program's text lays it -/
def Tb (w : World) : Prop := TabIs Try.prog w "internal/strconv.uint64pow10" .u64 pow10Tab
theorem Tb.drewN {w : World} (h : Tb w) (n : Nat) : Tb (w.drewN n) := h
theorem laid_tail {P : Program} {W : World} {a : String × DataW Unit} {r : List (String × DataW Unit)} (h : laidMet P (a :: r) W) : laidMet P r W := by
  obtain ⟨ps, ⟨g, t, cs, fuel, p, q, _, _, _, _, hr, rfl⟩, hnd, hall⟩ := h
  exact ⟨q, hr, (List.nodup_append.1 hnd).2.1, fun b off hm => hall b off (List.mem_append_right _ hm)⟩
/-- what an any holds here -/
inductive Av where
  | nil
  | int (n : Int)
  | bool (b : Bool)
  | str (s : ByteArray)
  | other (n : Int)
def Av.v : Av → Value
  | .nil => .nilIface
  | .int n => .iface 2 (.int .i64 n)
  | .bool b => .iface 4 (.bool b)
  | .str s => .iface 9 (.string s)
  | .other n => .iface 3 (.int .i64 n)
def emp : ByteArray := { data := #[] }
def bit (b : Bool) : Int := if b then 1 else 0
def Av.K : Av → Int
  | .int _ => 1 | .bool _ => 2 | .str _ => 3 | _ => 0
def Av.N : Av → Int
  | .int n => n | .bool b => bit b | _ => 0
def Av.isN : Av → Bool
  | .int _ => true | .bool _ => true | _ => false
def Av.S : Av → ByteArray
  | .str s => s | _ => emp
theorem asIN (w : World) : (Instr.typeAssert .nilIface 20 2 true).run Try.prog w = .ok (.tuple #[.int .i64 0, .bool false]) w := by kernel_rfl
theorem asII (v : Value) (w : World) : (Instr.typeAssert (.iface 2 v) 20 2 true).run Try.prog w = .ok (.tuple #[v, .bool true]) w := by kernel_rfl
theorem asIB (v : Value) (w : World) : (Instr.typeAssert (.iface 4 v) 20 2 true).run Try.prog w = .ok (.tuple #[.int .i64 0, .bool false]) w := by kernel_rfl
theorem asIS (v : Value) (w : World) : (Instr.typeAssert (.iface 9 v) 20 2 true).run Try.prog w = .ok (.tuple #[.int .i64 0, .bool false]) w := by kernel_rfl
theorem asIO (v : Value) (w : World) : (Instr.typeAssert (.iface 3 v) 20 2 true).run Try.prog w = .ok (.tuple #[.int .i64 0, .bool false]) w := by kernel_rfl
theorem asBN (w : World) : (Instr.typeAssert .nilIface 20 4 true).run Try.prog w = .ok (.tuple #[.bool false, .bool false]) w := by kernel_rfl
theorem asBI (v : Value) (w : World) : (Instr.typeAssert (.iface 2 v) 20 4 true).run Try.prog w = .ok (.tuple #[.bool false, .bool false]) w := by kernel_rfl
theorem asBB (v : Value) (w : World) : (Instr.typeAssert (.iface 4 v) 20 4 true).run Try.prog w = .ok (.tuple #[v, .bool true]) w := by kernel_rfl
theorem asBS (v : Value) (w : World) : (Instr.typeAssert (.iface 9 v) 20 4 true).run Try.prog w = .ok (.tuple #[.bool false, .bool false]) w := by kernel_rfl
theorem asBO (v : Value) (w : World) : (Instr.typeAssert (.iface 3 v) 20 4 true).run Try.prog w = .ok (.tuple #[.bool false, .bool false]) w := by kernel_rfl
theorem asSN (w : World) : (Instr.typeAssert .nilIface 20 9 true).run Try.prog w = .ok (.tuple #[.string { data := #[] }, .bool false]) w := by kernel_rfl
theorem asSI (v : Value) (w : World) : (Instr.typeAssert (.iface 2 v) 20 9 true).run Try.prog w = .ok (.tuple #[.string { data := #[] }, .bool false]) w := by kernel_rfl
theorem asSB (v : Value) (w : World) : (Instr.typeAssert (.iface 4 v) 20 9 true).run Try.prog w = .ok (.tuple #[.string { data := #[] }, .bool false]) w := by kernel_rfl
theorem asSS (v : Value) (w : World) : (Instr.typeAssert (.iface 9 v) 20 9 true).run Try.prog w = .ok (.tuple #[v, .bool true]) w := by kernel_rfl
theorem asSO (v : Value) (w : World) : (Instr.typeAssert (.iface 3 v) 20 9 true).run Try.prog w = .ok (.tuple #[.string { data := #[] }, .bool false]) w := by kernel_rfl
/-- a value as any -/
def anyOf (K N : Int) (S : ByteArray) : Av := if right K N S then (if K = 1 then .int N else if K = 2 then .bool (N == 1) else .str S) else .nil

/-- a value's text -/
def Av.text : Av → List UInt8
  | .int n => itoa n
  | .bool b => formatBool b
  | .str s => s.data.toList
  | _ => []
def Av.fits : Av → Prop
  | .int n => -9223372036854775808 ≤ n ∧ n ≤ 9223372036854775807
  | _ => True
end Go.Proofs.Ytndcdidepdcmnaa.V04
