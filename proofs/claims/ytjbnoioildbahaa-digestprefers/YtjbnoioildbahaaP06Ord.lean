/-
  The order of spans: exchanged, and three in a row.
-/
import Derived.Test.YtjbnoioildbahaaP06Cmp2
set_option linter.unusedSimpArgs false
set_option linter.unusedVariables false
namespace Go.Proofs.Ytjbnoioildbahaa.P06
open Go.RowKit Go.Lib Go.Proofs.Ytjbnoioildbahaa.V04

theorem t3_or2 {x1 y1 z1 x2 y2 z2 : Int} (h1 : T3 x1 y1 z1) (h2 : T3 x2 y2 z2) : T3 (if x1 ≠ 0 then x1 else x2) (if y1 ≠ 0 then y1 else y2) (if z1 ≠ 0 then z1 else z2) := by
  unfold T3 at *
  repeat' split
  all_goals omega
theorem t3_zero : T3 0 0 0 := by unfold T3; omega
theorem neg_or2 (x y : Int) : (if -x ≠ 0 then -x else -y) = -(if x ≠ 0 then x else y) := by
  repeat' split
  all_goals omega
theorem orL_neg (l : List Int) : orL (l.map fun x => -x) = -orL l := by
  induction l with
  | nil => rfl
  | cons x l ih => rw [List.map_cons, orL, orL, ih, neg_or2]
theorem fields_neg (s t : Sp) : orL (fieldsL t s) = -orL (fieldsL s t) := by
  rw [← orL_neg]
  congr 1
  simp only [fieldsL, List.map_cons, List.map_nil]
  rw [ci_neg s.T t.T, ci_neg s.I t.I, ci_neg s.P t.P, cb_neg s.sv.data.toList, cb_neg s.nm.data.toList, ci_neg s.kd t.kd, ci_neg s.st t.st, ci_neg s.t0 t.t0, ci_neg s.t1 t.t1]
theorem fields_t3 (a b c : Sp) : T3 (orL (fieldsL a b)) (orL (fieldsL b c)) (orL (fieldsL a c)) := by
  unfold fieldsL
  simp only [orL]
  exact t3_or2 (t3_int _ _ _) (t3_or2 (t3_int _ _ _) (t3_or2 (t3_int _ _ _) (t3_or2 (t3_cb _ _ _) (t3_or2 (t3_cb _ _ _) (t3_or2 (t3_int _ _ _) (t3_or2 (t3_int _ _ _) (t3_or2 (t3_int _ _ _) (t3_or2 (t3_int _ _ _) t3_zero))))))))
theorem cmpA_neg (x y : At) : cmpA y x = -cmpA x y := by
  unfold cmpA
  rw [← orL_neg]
  congr 1
  simp only [List.map_cons, List.map_nil]
  rw [show cf y x = -cf x y from cb_neg _ _, cmpV_neg x.K x.N x.S y.K y.N y.S]
theorem cmpA_t3 (x y z : At) : T3 (cmpA x y) (cmpA y z) (cmpA x z) := by
  unfold cmpA
  simp only [orL]
  exact t3_or2 (t3_cb _ _ _) (t3_or2 (cmpV_trans _ _ _ _ _ _ _ _ _) t3_zero)
theorem cmpL_neg : ∀ (l m : List At), cmpL m l = -cmpL l m
  | [], [] => rfl
  | [], _ :: _ => rfl
  | _ :: _, [] => rfl
  | x :: l, y :: m => by rw [cmpL, cmpL, cmpA_neg x y, cmpL_neg l m, neg_or2]
theorem cmpL_t3 : ∀ (l m n : List At), T3 (cmpL l m) (cmpL m n) (cmpL l n)
  | [], [], n => by cases n <;> simp [T3, cmpL]
  | [], _ :: _, [] => by simp [T3, cmpL]
  | [], _ :: _, _ :: _ => by simp [T3, cmpL]
  | _ :: _, [], _ => by simp [T3, cmpL]
  | _ :: _, _ :: _, [] => by simp [T3, cmpL]
  | x :: l, y :: m, z :: n => by
    rw [cmpL, cmpL, cmpL]
    exact t3_or2 (cmpA_t3 x y z) (cmpL_t3 l m n)
theorem cmpS_neg (s t : Sp) (l m : List At) : cmpS t s m l = -cmpS s t l m := by
  unfold cmpS
  rw [fields_neg, cmpL_neg, neg_or2]
theorem cmpS_t3 (a b c : Sp) (l m n : List At) : T3 (cmpS a b l m) (cmpS b c m n) (cmpS a c l n) := t3_or2 (fields_t3 a b c) (cmpL_t3 l m n)
end Go.Proofs.Ytjbnoioildbahaa.P06
