/-
  What Right does: value's and the document's.
  The kit's contracts of strconv.FormatInt, strconv.FormatBool and strings.Compare, laid at this program.
  A value's box: three cells, kept where no block that was there turns.
  What Compare does: value's and the document's.
-/
import Derived.Test.YtdmibolbpgondaaGreatRows
import Derived.Test.YtdmibolbpgondaaGreatKWords
import Derived.WalkKit
import Derived.WalkSpells
import Derived.WalkLawsBesides
import Derived.Lib.Hide
import Derived.Shelf.Small.Strs
import Derived.Shelf.Small.Wraps
import Derived.Shelf.LaysM
import Derived.Shelf.Strconv.Itoa4
import Derived.Test.YtdmibolbpgondaaGreatProg
import Derived.Handy
import Derived.StillTailTactics
section
set_option linter.unusedSimpArgs false
set_option linter.unusedVariables false
namespace Go.Proofs.YtdmibolbpgondaaGreat.V04
open Go.RowKit Go.Lib Go.Proofs.YtdmibolbpgondaaGreat.Wd

/-- a value, as the machine holds it -/
abbrev vl (K N : Int) (S : ByteArray) : Value := .agg #[.int .i64 K, .int .i64 N, .string S]
abbrev box (t : TypeId) (K N : Int) (S : ByteArray) : Obj := .cells #[.int .i64 K, .int .i64 N, .string S] t
def right (K N : Int) (S : ByteArray) : Bool := decide ((K = 1 ∧ S.size = 0) ∨ (K = 2 ∧ S.size = 0 ∧ (N = 0 ∨ N = 1)) ∨ (K = 3 ∧ N = 0 ∧ S.size ≤ 4096))
theorem ret_bool {a b : Bool} (h : a = b) : Ending.returned (.bool a) = .returned (.bool b) := by rw [h]
theorem un {p : Prop} (h : Hid p) : p := h
theorem empty_iff (S : ByteArray) : S.toList = [] ↔ S.size = 0 := by
  rw [ByteArray.toList_eq, List.eq_nil_iff_length_eq_zero]
  rfl
theorem below_box {B : Nat} (w : World) (o : Obj) (h : B ≤ w.heap.size) : Below B w (w.alloc o) := (Below.refl _ _).alloc h o

set_option maxRecDepth 20000 in
theorem right_any (K N : Int) (S : ByteArray) (b : Bool) (w : World) (hb : right K N S = b) :
    Calls Tryz.prog 70 #[vl K N S] w fun e w' => e = .returned (.bool b) ∧ w' = w.alloc (box 84 K N S) := by
  have HB := Lib.hid hb
  clear hb
  have he := empty_iff S
  have HE := Lib.hid he
  clear he
  go_enter Tryz.func70, Tryz.ntmps70
  go_wp2
  all_goals go_ret
  all_goals refine ⟨ret_bool ?_, by first | rfl | (clear HB HE; simp_all)⟩
  all_goals (rw [← un HB, Bool.eq_iff_iff]; have he := un HE; clear HB HE; simp only [beq_iff_eq, beq_eq_false_iff_ne, right, List.isEmpty_iff, Bool.or_eq_true, decide_eq_true_eq, he, true_iff, false_iff, Bool.false_eq_true, ne_eq] at *; try omega)

set_option maxRecDepth 20000 in
theorem refright_any (K N : Int) (S : ByteArray) (b : Bool) (w : World) (hb : right K N S = b) :
    Calls Tryz.prog 35 #[vl K N S] w fun e w' => e = .returned (.bool b) ∧ w' = w.alloc (box 79 K N S) := by
  have HB := Lib.hid hb
  clear hb
  have he := empty_iff S
  have HE := Lib.hid he
  clear he
  go_enter Tryz.func35, Tryz.ntmps35
  go_wp2
  all_goals go_ret
  all_goals refine ⟨ret_bool ?_, by first | rfl | (clear HB HE; simp_all)⟩
  all_goals (rw [← un HB, Bool.eq_iff_iff]; have he := un HE; clear HB HE; simp only [beq_iff_eq, beq_eq_false_iff_ne, right, List.isEmpty_iff, Bool.or_eq_true, decide_eq_true_eq, he, true_iff, false_iff, Bool.false_eq_true, ne_eq] at *; try omega)
end Go.Proofs.YtdmibolbpgondaaGreat.V04
end

section
namespace Go.Proofs
open Go.Shelf
def Tryz.lays106_ren : Go.Shelf.Ren := ⟨fun | 106 => 91 | 213 => 119 | 265 => 140 | n => n, fun | 3 => 3 | 5 => 5 | 9 => 9 | n => n, fun | n => n⟩
theorem Tryz.lays106 : Go.Proofs.Lays.n106 Tryz.prog Tryz.lays106_ren := {
  mixed := by kernel_rfl
  f106 := Tryz.func91.trans (congrArg some (by kernel_rfl))
  f213 := Tryz.func119.trans (congrArg some (by kernel_rfl))
  f265 := Tryz.func140.trans (congrArg some (by kernel_rfl))
  t3 := Tryz.underlying3
  a3 := Tryz.isAgg3
  z3 := Tryz.sizeOf3
  v3 := Tryz.zeroValue3
  t9 := Tryz.underlying9
  a9 := Tryz.isAgg9
  z9 := Tryz.sizeOf9
  v9 := Tryz.zeroValue9 }
def Tryz.lays122_ren : Go.Shelf.Ren := ⟨fun | 122 => 92 | 215 => 120 | n => n, fun | 3 => 3 | 4 => 4 | 5 => 5 | n => n, fun | n => n⟩
theorem Tryz.lays122 : Go.Proofs.Lays.n122 Tryz.prog Tryz.lays122_ren := {
  mixed := by kernel_rfl
  f122 := Tryz.func92.trans (congrArg some (by kernel_rfl))
  f215 := Tryz.func120.trans (congrArg some (by kernel_rfl))
  t3 := Tryz.underlying3
  a3 := Tryz.isAgg3
  z3 := Tryz.sizeOf3
  v3 := Tryz.zeroValue3
  t4 := Tryz.underlying4
  a4 := Tryz.isAgg4
  z4 := Tryz.sizeOf4
  v4 := Tryz.zeroValue4 }
open Go.RowKit in
theorem Tryz.s_compare (a b : ByteArray) (w : World) :
    Calls Tryz.prog 91 #[.string a, .string b] w fun e w' => e = .returned (.int .i64 (Lib.compareBytes a.data.toList b.data.toList)) ∧ w' = w := Any.strings_Compare Tryz.lays106 a b w
open Go.RowKit in
theorem Tryz.c_compare (x y : Int) (w : World) :
    Calls Tryz.prog 92 #[.int .i64 x, .int .i64 y] w fun e w' => e = .returned (.int .i64 (Lib.compareInt x y)) ∧ w' = w := Any.cmp_Compare_int Tryz.lays122 x y w
end Go.Proofs
end

section
namespace Go.Proofs.YtdmibolbpgondaaGreat.V04
open Go.RowKit Go.Lib Go.Proofs.YtdmibolbpgondaaGreat.Wd

/-- a value's box, where it lies -/
structure Vx (w : World) (g : Nat) (K N : Int) (S : ByteArray) : Prop where
  c0 : w.cell? ⟨g, 0, none⟩ = some (.int .i64 K)
  c1 : w.cell? ⟨g, 1, none⟩ = some (.int .i64 N)
  c2 : w.cell? ⟨g, 2, none⟩ = some (.string S)
  lt : g < w.heap.size
theorem Vx.below {w w' : World} {g : Nat} {K N : Int} {S : ByteArray} (h : Vx w g K N S) (hb : Below w.heap.size w w') : Vx w' g K N S :=
  ⟨by rw [hb.cell h.lt]; exact h.c0, by rw [hb.cell h.lt]; exact h.c1, by rw [hb.cell h.lt]; exact h.c2, Nat.lt_of_lt_of_le h.lt hb.size⟩
theorem Vx.box (w : World) (t : TypeId) (K N : Int) (S : ByteArray) : Vx (w.alloc (box t K N S)) w.heap.size K N S := ⟨by simp, by simp, by simp, by simp⟩

theorem Vx.old {w : World} {g : Nat} {K N : Int} {S : ByteArray} (h : Vx w g K N S) (o : Obj) : Vx (w.alloc o) g K N S := h.below (below_box _ _ (Nat.le_refl _))
theorem vx2 (w : World) (o : Obj) (t : TypeId) (K N : Int) (S : ByteArray) : Vx ((w.alloc o).alloc (box t K N S)) (w.heap.size + 1) K N S := by
  have := Vx.box (w.alloc o) t K N S
  simpa using this
theorem vx3 (w : World) (o p : Obj) (t : TypeId) (K N : Int) (S : ByteArray) : Vx (((w.alloc o).alloc p).alloc (box t K N S)) (w.heap.size + 1 + 1) K N S := by
  have := Vx.box ((w.alloc o).alloc p) t K N S
  simpa using this
end Go.Proofs.YtdmibolbpgondaaGreat.V04
end

section
set_option linter.unusedSimpArgs false
set_option linter.unusedVariables false
namespace Go.Proofs.YtdmibolbpgondaaGreat.V04
open Go.RowKit Go.Lib Go.Proofs.YtdmibolbpgondaaGreat.Wd

theorem nan64_any (x : Int) (w : World) : Calls Tryz.prog 141 #[.int .i64 x] w fun e w' => e = .returned (.bool false) ∧ w = w' := by
  go_enter Tryz.func141, Tryz.ntmps141
  go_wp2
  go_ret
  exact ⟨ret_bool (by simp), rfl⟩
theorem comp64_any (x y : Int) (w : World) : Calls Tryz.prog 121 #[.int .i64 x, .int .i64 y] w fun e w' => e = .returned (.int .i64 (compareInt x y)) ∧ w' = w := by
  go_enter Tryz.func121, Tryz.ntmps121
  go_wp2_with (go_at_call 141; refine (nan64_any _ _).mono ?_; rintro e w' ⟨rfl, rfl⟩)
  all_goals (go_ret; refine ⟨?_, rfl⟩; unfold compareInt; (repeat' split) <;> first | rfl | (exfalso; omega))

/-- the first that is not 0 -/
def or3 (x y z : Int) : Int := if x ≠ 0 then x else if y ≠ 0 then y else z
set_option maxRecDepth 20000 in
theorem or_any (x y z : Int) (g : Nat) (w : World) (h0 : w.cell? ⟨g, 0, none⟩ = some (.int .i64 x)) (h1 : w.cell? ⟨g, 1, none⟩ = some (.int .i64 y)) (h2 : w.cell? ⟨g, 2, none⟩ = some (.int .i64 z)) :
    Calls Tryz.prog 82 #[.slice (some ⟨g, 0, none⟩) 3 3] w fun e w' => e = .returned (.int .i64 (or3 x y z)) ∧ w = w' := by
  go_enter Tryz.func82, Tryz.ntmps82
  go_wp2
  go_rounds 4
  all_goals go_ret
  all_goals (refine ⟨?_, rfl⟩; simp_all [or3])

/-- the order: by Kind, then N, then S -/
def cmpV (K N : Int) (S : ByteArray) (L M : Int) (T : ByteArray) : Int := or3 (compareInt K L) (compareInt N M) (compareBytes S.data.toList T.data.toList)
set_option maxRecDepth 20000 in
set_option maxHeartbeats 1000000 in
theorem compare_any (K N : Int) (S : ByteArray) (L M : Int) (T : ByteArray) (w : World) :
    Calls Tryz.prog 93 #[vl K N S, vl L M T] w fun e w' => e = .returned (.int .i64 (cmpV K N S L M T)) ∧ Below w.heap.size w w' := by
  go_enter Tryz.func93, Tryz.ntmps93
  go_wp2
  have x1 : Vx ((w.alloc (box 84 K N S)).alloc (box 84 L M T)) w.heap.size K N S := (Vx.box w _ K N S).below (below_box _ _ (Nat.le_refl _))
  have x2 : Vx ((w.alloc (box 84 K N S)).alloc (box 84 L M T)) (w.heap.size + 1) L M T := by have := Vx.box (w.alloc (box 84 K N S)) 84 L M T; simpa using this
  have b1 : Below w.heap.size w ((w.alloc (box 84 K N S)).alloc (box 84 L M T)) := by go_grown
  generalize (w.alloc (box 84 K N S)).alloc (box 84 L M T) = X at *
  refine wp_region_still_tail 15 (by kernel_rfl) (by kernel_rfl) ?_
  have x3 : Vx X.drew w.heap.size K N S := ⟨x1.c0, x1.c1, x1.c2, x1.lt⟩
  have x4 : Vx X.drew (w.heap.size + 1) L M T := ⟨x2.c0, x2.c1, x2.c2, x2.lt⟩
  have b2 : Below w.heap.size w X.drew := b1.drew
  change wpStill _ _ X.drew (fun a' => wpList _ _ _ _ a' X.drew) _ _
  clear x1 x2 b1
  generalize X.drew = Y at *
  have c0 := x3.c0
  have c1 := x3.c1
  have c2 := x3.c2
  have d0 := x4.c0
  have d1 := x4.c1
  have d2 := x4.c2
  simp only [List.take_succ_cons, List.take_zero, List.drop_succ_cons, List.drop_zero]
  still_step
  still_step
  still_step
  still_step
  still_call (Tryz.c_compare K L _)
  still_step
  still_step
  still_step
  still_step
  still_call (comp64_any N M _)
  still_step
  still_step
  still_step
  still_step
  still_call (Tryz.s_compare S T _)
  refine wpStill_nil ?_
  have HV : Hid (or3 (compareInt K L) (compareInt N M) (compareBytes S.data.toList T.data.toList) = cmpV K N S L M T) := rfl
  generalize compareInt K L = x at *
  generalize compareInt N M = y at *
  generalize compareBytes S.data.toList T.data.toList = z at *
  go_wp2_with (go_at_call 82; refine (or_any x y z Y.heap.size _ (by simp) (by simp) (by simp)).mono ?_; rintro e w' ⟨rfl, rfl⟩)
  go_ret
  refine ⟨?_, b2.alloc b2.size _⟩
  rw [← un HV]
  rfl

theorem cb_cons (a b : UInt8) (x y : List UInt8) : compareBytes (a :: x) (b :: y) = if a.toNat < b.toNat then -1 else if b.toNat < a.toNat then 1 else compareBytes x y := rfl
theorem cb_vals : ∀ (x y : List UInt8), compareBytes x y = -1 ∨ compareBytes x y = 0 ∨ compareBytes x y = 1
  | [], [] => by simp [compareBytes]
  | [], _ :: _ => by simp [compareBytes]
  | _ :: _, [] => by simp [compareBytes]
  | a :: x, b :: y => by
    rw [cb_cons]
    have := cb_vals x y
    repeat' split
    all_goals omega
theorem cb_neg : ∀ (x y : List UInt8), compareBytes y x = -compareBytes x y
  | [], [] => by simp [compareBytes]
  | [], _ :: _ => by simp [compareBytes]
  | _ :: _, [] => by simp [compareBytes]
  | a :: x, b :: y => by
    rw [cb_cons, cb_cons]
    have := cb_neg x y
    repeat' split
    all_goals omega
theorem cb_self : ∀ x : List UInt8, compareBytes x x = 0
  | [] => rfl
  | a :: x => by
    rw [cb_cons, cb_self x]
    simp
theorem cb_zero : ∀ (x y : List UInt8), compareBytes x y = 0 → x = y
  | [], [], _ => rfl
  | [], _ :: _, h => by simp [compareBytes] at h
  | _ :: _, [], h => by simp [compareBytes] at h
  | a :: x, b :: y, h => by
    rw [cb_cons] at h
    split at h
    · omega
    · split at h
      · omega
      · rw [cb_zero x y h, UInt8.toNat_inj.1 (show a.toNat = b.toNat by omega)]
theorem cb_less : ∀ (x y : List UInt8), Op.bytesLess x y = decide (compareBytes x y = -1)
  | [], [] => by simp [compareBytes, Op.bytesLess]
  | [], _ :: _ => by simp [compareBytes, Op.bytesLess]
  | _ :: _, [] => by simp [compareBytes, Op.bytesLess]
  | a :: x, b :: y => by
    rw [cb_cons, Op.bytesLess, cb_less x y]
    have e : (a < b) ↔ a.toNat < b.toNat := Iff.rfl
    by_cases h1 : a.toNat < b.toNat
    · simp [h1, e]
    · by_cases h2 : b.toNat < a.toNat
      · have h3 : ¬ a = b := fun h => by subst h; omega
        simp [h1, h2, e, h3]
      · have h3 : a = b := UInt8.toNat_inj.1 (by omega)
        subst h3
        simp [e]
theorem less_cb (S T : ByteArray) : Op.bytesLess S.toList T.toList = decide (compareBytes S.data.toList T.data.toList = -1) := by rw [ByteArray.toList_eq, ByteArray.toList_eq]; exact cb_less _ _
theorem same_cb (S T : ByteArray) : S.toList = T.toList ↔ compareBytes S.data.toList T.data.toList = 0 := by
  rw [ByteArray.toList_eq, ByteArray.toList_eq]
  exact ⟨fun h => by rw [h, cb_self], cb_zero _ _⟩
/-- three in a row -/
def T3 (x y z : Int) : Prop := x ≤ 0 → y ≤ 0 → z ≤ 0 ∧ (x = 0 ∧ y = 0 ∨ z < 0)
theorem t3_int (x y z : Int) : T3 (compareInt x y) (compareInt y z) (compareInt x z) := by
  unfold T3 compareInt
  repeat' split
  all_goals omega
theorem t3_cb : ∀ (x y z : List UInt8), T3 (compareBytes x y) (compareBytes y z) (compareBytes x z)
  | [], [], z => by cases z <;> simp [T3, compareBytes]
  | [], _ :: _, [] => by simp [T3, compareBytes]
  | [], _ :: _, _ :: _ => by simp [T3, compareBytes]
  | _ :: _, [], _ => by simp [T3, compareBytes]
  | _ :: _, _ :: _, [] => by simp [T3, compareBytes]
  | a :: x, b :: y, c :: z => by
    rw [cb_cons, cb_cons, cb_cons]
    have := t3_cb x y z
    unfold T3 at *
    repeat' split
    all_goals omega
theorem t3_or {x1 y1 z1 x2 y2 z2 x3 y3 z3 : Int} (h1 : T3 x1 y1 z1) (h2 : T3 x2 y2 z2) (h3 : T3 x3 y3 z3) : T3 (or3 x1 x2 x3) (or3 y1 y2 y3) (or3 z1 z2 z3) := by
  unfold T3 or3 at *
  repeat' split
  all_goals omega
theorem cmpV_trans (K N : Int) (S : ByteArray) (L M : Int) (T : ByteArray) (I J : Int) (U : ByteArray) : T3 (cmpV K N S L M T) (cmpV L M T I J U) (cmpV K N S I J U) := t3_or (t3_int _ _ _) (t3_int _ _ _) (t3_cb _ _ _)
theorem ci_neg (x y : Int) : compareInt y x = -compareInt x y := by
  unfold compareInt
  repeat' split
  all_goals omega
theorem cmpV_neg (K N : Int) (S : ByteArray) (L M : Int) (T : ByteArray) : cmpV L M T K N S = -cmpV K N S L M T := by
  unfold cmpV
  rw [ci_neg K L, ci_neg N M, cb_neg]
  unfold or3
  repeat' split
  all_goals omega
theorem cmpV_vals (K N : Int) (S : ByteArray) (L M : Int) (T : ByteArray) : cmpV K N S L M T = -1 ∨ cmpV K N S L M T = 0 ∨ cmpV K N S L M T = 1 := by
  have := cb_vals S.data.toList T.data.toList
  unfold cmpV or3 compareInt
  repeat' split
  all_goals omega

set_option maxRecDepth 20000 in
set_option maxHeartbeats 1000000 in
theorem refcompare_any (K N : Int) (S : ByteArray) (L M : Int) (T : ByteArray) (w : World) :
    Calls Tryz.prog 57 #[vl K N S, vl L M T] w fun e w' => e = .returned (.int .i64 (cmpV K N S L M T)) ∧ Below w.heap.size w w' := by
  go_enter Tryz.func57, Tryz.ntmps57
  go_wp2
  all_goals go_ret
  all_goals refine ⟨?_, by go_grown⟩
  all_goals (refine congrArg (fun x => Ending.returned (Value.int .i64 x)) (Eq.symm (?_ : cmpV _ _ _ _ _ _ = _)))
  all_goals (have q1 := less_cb S T; have q2 := same_cb S T; have q3 := cb_vals S.data.toList T.data.toList)
  all_goals (unfold cmpV or3 compareInt)
  all_goals (repeat' split)
  all_goals first | omega | (simp only [q1, q2, decide_eq_true_eq, decide_eq_false_iff_not] at *; omega)
theorem ci_zero {x y : Int} (h : compareInt x y = 0) : x = y := by
  unfold compareInt at h
  split at h
  · omega
  · split at h
    · omega
    · omega
theorem cmpV_zero {K N : Int} {S : ByteArray} {L M : Int} {T : ByteArray} (h : cmpV K N S L M T = 0) : K = L ∧ N = M ∧ S = T := by
  unfold cmpV or3 at h
  split at h
  · contradiction
  · split at h
    · contradiction
    · rename_i h1 h2
      refine ⟨ci_zero (by omega), ci_zero (by omega), ?_⟩
      exact ByteArray.ext (Array.toList_inj.1 (cb_zero _ _ h))
end Go.Proofs.YtdmibolbpgondaaGreat.V04
end
