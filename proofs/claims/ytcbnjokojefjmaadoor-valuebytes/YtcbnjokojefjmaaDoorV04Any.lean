/-
  Values as any, and back: what Any, told, Of, number, Int, written and Text do.
-/
import Derived.Test.YtcbnjokojefjmaaDoorV04Right
import Derived.Test.YtcbnjokojefjmaaDoorV04Shelf
import Derived.Lib.LaidTab
import Derived.MakeChecks
import Derived.Handy
import Derived.Lib.AppendIntMem
set_option linter.unusedSimpArgs false
set_option linter.unusedVariables false
namespace Go.Proofs.YtcbnjokojefjmaaDoor.V04
open Go.RowKit Go.Lib Go.Proofs.YtcbnjokojefjmaaDoor.Wd

/-- the table of tens lies as the program's text lays it -/
def Tb (w : World) : Prop := TabIs Tryd.prog w "internal/strconv.uint64pow10" .u64 pow10Tab
theorem Tb.below {w w' : World} (h : Tb w) (hb : Below w.heap.size w w') : Tb w' := by
  have hg : Tryd.prog.globalNamed "internal/strconv.uint64pow10" = some 1 := by kernel_rfl
  unfold Tb TabIs World.var? at *
  rw [hg] at h ⊢
  simp only [Option.bind_some] at h ⊢
  have hlt : 1 < w.heap.size := by
    rcases Nat.lt_or_ge 1 w.heap.size with h1 | h1
    · exact h1
    · rw [Array.getElem?_eq_none h1] at h; cases h
  rw [hb.block _ hlt]
  exact h
theorem Tb.drewN {w : World} (h : Tb w) (n : Nat) : Tb (w.drewN n) := h
theorem laid_tail {P : Program} {W : World} {a : String × DataW Unit} {r : List (String × DataW Unit)} (h : laidMet P (a :: r) W) : laidMet P r W := by
  obtain ⟨ps, ⟨g, t, cs, fuel, p, q, _, _, _, _, hr, rfl⟩, hnd, hall⟩ := h
  exact ⟨q, hr, (List.nodup_append.1 hnd).2.1, fun b off hm => hall b off (List.mem_append_right _ hm)⟩
theorem tb_of_laid {W : World} {a b : String × DataW Unit} (ha : a.2.handleName?.isNone = true) (hb : b.2.handleName?.isNone = true) (h : laidMetH Tryd.prog [a, b, ("internal/strconv.uint64pow10", Rows.laid_internal_strconv_uint64pow10)] W) : Tb W := by
  rw [MakeChecks.laidMetH_plain _ _ _ (by simp only [List.all_cons, ha, hb, List.all_nil]; kernel_rfl)] at h
  have hg : Tryd.prog.globalNamed "internal/strconv.uint64pow10" = some 1 := by kernel_rfl
  exact tabIs_of_head hg (t := 86) (e := 53) (n := 20) (by kernel_rfl) (by kernel_rfl) (by kernel_rfl) (by kernel_rfl) (by kernel_rfl) (laid_tail (laid_tail h))

/-- what an any holds here -/
inductive Av where
  | nil
  | int (n : Int)
  | bool (b : Bool)
  | str (s : ByteArray)
  | other (n : Int)
def Av.v : Av → Value
  | .nil => .nilIface
  | .int n => .iface 2 (.int .i64 n)
  | .bool b => .iface 4 (.bool b)
  | .str s => .iface 9 (.string s)
  | .other n => .iface 3 (.int .i64 n)
def emp : ByteArray := { data := #[] }
def bit (b : Bool) : Int := if b then 1 else 0
def Av.K : Av → Int
  | .int _ => 1 | .bool _ => 2 | .str _ => 3 | _ => 0
def Av.N : Av → Int
  | .int n => n | .bool b => bit b | _ => 0
def Av.isN : Av → Bool
  | .int _ => true | .bool _ => true | _ => false
def Av.S : Av → ByteArray
  | .str s => s | _ => emp
theorem asIN (w : World) : (Instr.typeAssert .nilIface 20 2 true).run Tryd.prog w = .ok (.tuple #[.int .i64 0, .bool false]) w := by kernel_rfl
theorem asII (v : Value) (w : World) : (Instr.typeAssert (.iface 2 v) 20 2 true).run Tryd.prog w = .ok (.tuple #[v, .bool true]) w := by kernel_rfl
theorem asIB (v : Value) (w : World) : (Instr.typeAssert (.iface 4 v) 20 2 true).run Tryd.prog w = .ok (.tuple #[.int .i64 0, .bool false]) w := by kernel_rfl
theorem asIS (v : Value) (w : World) : (Instr.typeAssert (.iface 9 v) 20 2 true).run Tryd.prog w = .ok (.tuple #[.int .i64 0, .bool false]) w := by kernel_rfl
theorem asIO (v : Value) (w : World) : (Instr.typeAssert (.iface 3 v) 20 2 true).run Tryd.prog w = .ok (.tuple #[.int .i64 0, .bool false]) w := by kernel_rfl
theorem asBN (w : World) : (Instr.typeAssert .nilIface 20 4 true).run Tryd.prog w = .ok (.tuple #[.bool false, .bool false]) w := by kernel_rfl
theorem asBI (v : Value) (w : World) : (Instr.typeAssert (.iface 2 v) 20 4 true).run Tryd.prog w = .ok (.tuple #[.bool false, .bool false]) w := by kernel_rfl
theorem asBB (v : Value) (w : World) : (Instr.typeAssert (.iface 4 v) 20 4 true).run Tryd.prog w = .ok (.tuple #[v, .bool true]) w := by kernel_rfl
theorem asBS (v : Value) (w : World) : (Instr.typeAssert (.iface 9 v) 20 4 true).run Tryd.prog w = .ok (.tuple #[.bool false, .bool false]) w := by kernel_rfl
theorem asBO (v : Value) (w : World) : (Instr.typeAssert (.iface 3 v) 20 4 true).run Tryd.prog w = .ok (.tuple #[.bool false, .bool false]) w := by kernel_rfl
theorem asSN (w : World) : (Instr.typeAssert .nilIface 20 9 true).run Tryd.prog w = .ok (.tuple #[.string { data := #[] }, .bool false]) w := by kernel_rfl
theorem asSI (v : Value) (w : World) : (Instr.typeAssert (.iface 2 v) 20 9 true).run Tryd.prog w = .ok (.tuple #[.string { data := #[] }, .bool false]) w := by kernel_rfl
theorem asSB (v : Value) (w : World) : (Instr.typeAssert (.iface 4 v) 20 9 true).run Tryd.prog w = .ok (.tuple #[.string { data := #[] }, .bool false]) w := by kernel_rfl
theorem asSS (v : Value) (w : World) : (Instr.typeAssert (.iface 9 v) 20 9 true).run Tryd.prog w = .ok (.tuple #[v, .bool true]) w := by kernel_rfl
theorem asSO (v : Value) (w : World) : (Instr.typeAssert (.iface 3 v) 20 9 true).run Tryd.prog w = .ok (.tuple #[.string { data := #[] }, .bool false]) w := by kernel_rfl
/-- a value as any -/
def anyOf (K N : Int) (S : ByteArray) : Av := if right K N S then (if K = 1 then .int N else if K = 2 then .bool (N == 1) else .str S) else .nil

set_option maxRecDepth 20000 in
theorem any_any (K N : Int) (S : ByteArray) (w : World) :
    Calls Tryd.prog 16 #[vl K N S] w fun e w' => e = .returned (anyOf K N S).v ∧ Below w.heap.size w w' := by
  obtain ⟨b, hb⟩ : ∃ b, right K N S = b := ⟨_, rfl⟩
  go_enter Tryd.func16, Tryd.ntmps16
  go_wp2_with fail
  refine (right_any K N S b _ hb).mono ?_
  rintro e w1 ⟨rfl, rfl⟩
  go_wp2
  all_goals go_ret
  all_goals refine ⟨?_, by go_grown⟩
  all_goals (refine congrArg Ending.returned ?_; simp_all [anyOf, Av.v])

theorem truth_any (b : Bool) (w : World) : Calls Tryd.prog 43 #[.bool b] w fun e w' => e = .returned (.int .i64 (bit b)) ∧ w = w' := by
  cases b <;> (go_enter Tryd.func43, Tryd.ntmps43; go_wp2; go_ret; exact ⟨rfl, rfl⟩)

set_option maxRecDepth 20000 in
theorem told_any (a : Av) (w : World) : Calls Tryd.prog 29 #[a.v] w fun e w' => e = .returned (vl a.K a.N a.S) ∧ w' = w.alloc (box 27 a.K a.N a.S) := by
  cases a with
  | nil =>
    unfold Av.v
    have h1 := asIN
    have h2 := asBN
    have h3 := asSN
    go_enter Tryd.func29, Tryd.ntmps29
    go_wp2
    go_returns
    exact ⟨rfl, rfl⟩
  | int n =>
    unfold Av.v
    have h1 := asII
    go_enter Tryd.func29, Tryd.ntmps29
    go_wp2
    go_returns
    exact ⟨rfl, rfl⟩
  | bool b =>
    unfold Av.v
    have h1 := asIB
    have h2 := asBB
    go_enter Tryd.func29, Tryd.ntmps29
    go_wp2_with (go_at_call 43; refine (truth_any b _).mono ?_; rintro e w1 ⟨rfl, rfl⟩)
    go_returns
    exact ⟨rfl, rfl⟩
  | str s =>
    unfold Av.v
    have h1 := asIS
    have h2 := asBS
    have h3 := asSS
    go_enter Tryd.func29, Tryd.ntmps29
    go_wp2
    go_returns
    exact ⟨rfl, rfl⟩
  | other n =>
    unfold Av.v
    have h1 := asIO
    have h2 := asBO
    have h3 := asSO
    go_enter Tryd.func29, Tryd.ntmps29
    go_wp2
    go_returns
    exact ⟨rfl, rfl⟩

theorem int_any (a : Av) (w : World) : Calls Tryd.prog 30 #[a.v] w fun e w' => e = .returned (.tuple #[.int .i64 a.N, .bool a.isN]) ∧ w = w' := by
  cases a with
  | nil =>
    unfold Av.v
    have h1 := asIN
    have h2 := asBN
    go_enter Tryd.func30, Tryd.ntmps30
    go_wp2
    go_returns
    exact ⟨rfl, rfl⟩
  | int n =>
    unfold Av.v
    have h1 := asII
    go_enter Tryd.func30, Tryd.ntmps30
    go_wp2
    go_returns
    exact ⟨rfl, rfl⟩
  | bool b =>
    unfold Av.v
    have h1 := asIB
    have h2 := asBB
    go_enter Tryd.func30, Tryd.ntmps30
    go_wp2_with (go_at_call 43; refine (truth_any b _).mono ?_; rintro e w1 ⟨rfl, rfl⟩)
    go_returns
    exact ⟨rfl, rfl⟩
  | str s =>
    unfold Av.v
    have h1 := asIS
    have h2 := asBS
    go_enter Tryd.func30, Tryd.ntmps30
    go_wp2
    go_returns
    exact ⟨rfl, rfl⟩
  | other n =>
    unfold Av.v
    have h1 := asIO
    have h2 := asBO
    go_enter Tryd.func30, Tryd.ntmps30
    go_wp2
    go_returns
    exact ⟨rfl, rfl⟩
theorem ofn_any (a : Av) (w : World) : Calls Tryd.prog 18 #[a.v] w fun e w' => e = .returned (.tuple #[.int .i64 a.N, .bool a.isN]) ∧ w = w' := by
  go_enter Tryd.func18, Tryd.ntmps18
  go_wp2_with (go_at_call 30; refine (int_any a _).mono ?_; rintro e w1 ⟨rfl, rfl⟩)
  go_returns
  exact ⟨rfl, rfl⟩

set_option maxRecDepth 20000 in
/-- what Of answers: the value, and the error -/
theorem of_at (a : Av) (K N : Int) (S : ByteArray) (b : Bool) (hK : a.K = K) (hN : a.N = N) (hS : a.S = S) (hb : right K N S = b) (w : World) : Calls Tryd.prog 17 #[a.v] w fun e w' =>
    e = .returned (.tuple #[if b then vl K N S else vl 0 0 emp, .int .i64 (if b then 0 else 20)]) ∧ Below w.heap.size w w' := by
  have hT := told_any a
  rw [hK, hN, hS] at hT
  clear hK hN hS
  generalize a.v = v at *
  go_enter Tryd.func17, Tryd.ntmps17
  go_wp2_with fail
  refine (hT _).mono ?_
  rintro e w1 ⟨rfl, rfl⟩
  clear hT
  go_wp2_with fail
  refine (right_any K N S b _ hb).mono ?_
  rintro e w1 ⟨rfl, rfl⟩
  cases b
  all_goals go_wp2
  all_goals go_returns
  all_goals exact ⟨rfl, by go_grown⟩

/-- a value's text -/
def Av.text : Av → List UInt8
  | .int n => itoa n
  | .bool b => formatBool b
  | .str s => s.data.toList
  | _ => []
def Av.fits : Av → Prop
  | .int n => -9223372036854775808 ≤ n ∧ n ≤ 9223372036854775807
  | _ => True
set_option maxRecDepth 20000 in
theorem written_any (a : Av) (w : World) (hT : Tb w) (hf : a.fits) : Calls Tryd.prog 31 #[a.v] w fun e w' => e = .returned (.string ⟨a.text.toArray⟩) ∧ Below w.heap.size w w' := by
  cases a with
  | nil =>
    unfold Av.v
    have h1 := asIN
    have h2 := asBN
    have h3 := asSN
    go_enter Tryd.func31, Tryd.ntmps31
    go_wp2
    go_returns
    exact ⟨rfl, by go_grown⟩
  | int n =>
    unfold Av.v
    have h1 := asII
    unfold Av.fits at hf
    obtain ⟨f0, f1⟩ := hf
    go_enter Tryd.func31, Tryd.ntmps31
    go_wp2_with (go_at_call 44; refine (Tryd.f_int n f0 f1 _ hT).mono ?_; rintro e w1 ⟨rfl, k, os, rfl⟩)
    go_returns
    exact ⟨rfl, below_grow _ _ (Nat.le_refl _) _ _⟩
  | bool b =>
    unfold Av.v
    have h1 := asIB
    have h2 := asBB
    go_enter Tryd.func31, Tryd.ntmps31
    go_wp2_with (go_at_call 45; refine (Tryd.f_bool b _).mono ?_; rintro e w1 ⟨rfl, rfl⟩)
    go_returns
    exact ⟨rfl, by go_grown⟩
  | str s =>
    unfold Av.v
    have h1 := asIS
    have h2 := asBS
    have h3 := asSS
    go_enter Tryd.func31, Tryd.ntmps31
    go_wp2
    go_returns
    exact ⟨rfl, by go_grown⟩
  | other n =>
    unfold Av.v
    have h1 := asIO
    have h2 := asBO
    have h3 := asSO
    go_enter Tryd.func31, Tryd.ntmps31
    go_wp2
    go_returns
    exact ⟨rfl, by go_grown⟩
theorem text_any (a : Av) (w : World) (hT : Tb w) (hf : a.fits) : Calls Tryd.prog 19 #[a.v] w fun e w' => e = .returned (.string ⟨a.text.toArray⟩) ∧ Below w.heap.size w w' := by
  generalize hv : a.v = v
  go_enter Tryd.func19, Tryd.ntmps19
  go_wp2_with (go_at_call 31; rw [← hv]; refine (written_any a _ hT hf).mono ?_; rintro e w1 ⟨rfl, hb⟩)
  go_returns
  exact ⟨rfl, hb⟩
end Go.Proofs.YtcbnjokojefjmaaDoor.V04
