/-
  The order of spans: exchanged, and three in a row.
  To: the program's span as the document's.
  Of, To, Far, Same of a span, a letter for each length.
  slices.Clone of attributes.
-/
import Derived.Test.YtdmibolbpgondaaGreatKP06Cmp
import Derived.Test.YtdmibolbpgondaaGreatKP06Of
import Derived.Test.YtdmibolbpgondaaGreatKP06RefCmp
import Derived.Lib.SliceRun
section
set_option linter.unusedSimpArgs false
set_option linter.unusedVariables false
namespace Go.Proofs.YtdmibolbpgondaaGreat.P06
open Go.RowKit Go.Lib Go.Proofs.YtdmibolbpgondaaGreat.V04

theorem t3_or2 {x1 y1 z1 x2 y2 z2 : Int} (h1 : T3 x1 y1 z1) (h2 : T3 x2 y2 z2) : T3 (if x1 ≠ 0 then x1 else x2) (if y1 ≠ 0 then y1 else y2) (if z1 ≠ 0 then z1 else z2) := by
  unfold T3 at *
  repeat' split
  all_goals omega
theorem t3_zero : T3 0 0 0 := by unfold T3; omega
theorem neg_or2 (x y : Int) : (if -x ≠ 0 then -x else -y) = -(if x ≠ 0 then x else y) := by
  repeat' split
  all_goals omega
theorem orL_neg (l : List Int) : orL (l.map fun x => -x) = -orL l := by
  induction l with
  | nil => rfl
  | cons x l ih => rw [List.map_cons, orL, orL, ih, neg_or2]
theorem fields_neg (s t : Sp) : orL (fieldsL t s) = -orL (fieldsL s t) := by
  rw [← orL_neg]
  congr 1
  simp only [fieldsL, List.map_cons, List.map_nil]
  rw [ci_neg s.T t.T, ci_neg s.I t.I, ci_neg s.P t.P, cb_neg s.sv.data.toList, cb_neg s.nm.data.toList, ci_neg s.kd t.kd, ci_neg s.st t.st, ci_neg s.t0 t.t0, ci_neg s.t1 t.t1]
theorem fields_t3 (a b c : Sp) : T3 (orL (fieldsL a b)) (orL (fieldsL b c)) (orL (fieldsL a c)) := by
  unfold fieldsL
  simp only [orL]
  exact t3_or2 (t3_int _ _ _) (t3_or2 (t3_int _ _ _) (t3_or2 (t3_int _ _ _) (t3_or2 (t3_cb _ _ _) (t3_or2 (t3_cb _ _ _) (t3_or2 (t3_int _ _ _) (t3_or2 (t3_int _ _ _) (t3_or2 (t3_int _ _ _) (t3_or2 (t3_int _ _ _) t3_zero))))))))
theorem cmpA_neg (x y : At) : cmpA y x = -cmpA x y := by
  unfold cmpA
  rw [← orL_neg]
  congr 1
  simp only [List.map_cons, List.map_nil]
  rw [show cf y x = -cf x y from cb_neg _ _, cmpV_neg x.K x.N x.S y.K y.N y.S]
theorem cmpA_t3 (x y z : At) : T3 (cmpA x y) (cmpA y z) (cmpA x z) := by
  unfold cmpA
  simp only [orL]
  exact t3_or2 (t3_cb _ _ _) (t3_or2 (cmpV_trans _ _ _ _ _ _ _ _ _) t3_zero)
theorem cmpL_neg : ∀ (l m : List At), cmpL m l = -cmpL l m
  | [], [] => rfl
  | [], _ :: _ => rfl
  | _ :: _, [] => rfl
  | x :: l, y :: m => by rw [cmpL, cmpL, cmpA_neg x y, cmpL_neg l m, neg_or2]
theorem cmpL_t3 : ∀ (l m n : List At), T3 (cmpL l m) (cmpL m n) (cmpL l n)
  | [], [], n => by cases n <;> simp [T3, cmpL]
  | [], _ :: _, [] => by simp [T3, cmpL]
  | [], _ :: _, _ :: _ => by simp [T3, cmpL]
  | _ :: _, [], _ => by simp [T3, cmpL]
  | _ :: _, _ :: _, [] => by simp [T3, cmpL]
  | x :: l, y :: m, z :: n => by
    rw [cmpL, cmpL, cmpL]
    exact t3_or2 (cmpA_t3 x y z) (cmpL_t3 l m n)
theorem cmpS_neg (s t : Sp) (l m : List At) : cmpS t s m l = -cmpS s t l m := by
  unfold cmpS
  rw [fields_neg, cmpL_neg, neg_or2]
theorem cmpS_t3 (a b c : Sp) (l m n : List At) : T3 (cmpS a b l m) (cmpS b c m n) (cmpS a c l n) := t3_or2 (fields_t3 a b c) (cmpL_t3 l m n)
end Go.Proofs.YtdmibolbpgondaaGreat.P06
end

section
set_option linter.unusedSimpArgs false
set_option linter.unusedVariables false
namespace Go.Proofs.YtdmibolbpgondaaGreat.P06
open Go.Shelf Go.RowKit Go.Lib Go.Sort Go.Proofs.YtdmibolbpgondaaGreat.Wd Go.Proofs.YtdmibolbpgondaaGreat.V04

set_option maxHeartbeats 4000000 in
set_option maxRecDepth 20000 in
theorem to_any (s : Sp) (A : Option Addr) (c : Nat) (l : List At) (w : World) (h : Ats w A c l) (hm : l.length ≤ 40) :
    Calls Tryz.prog 41 #[spv s (.slice A l.length c)] w fun e w' => ∃ A' c', e = .returned (spv s (.slice A' l.length c')) ∧ Hd w.heap.size w' A' c' l ∧ Below w.heap.size w w' := by
  have mixed : Tryz.prog.follows .mixedOrders = true := by kernel_rfl
  obtain ⟨i0, hi, hz0, hz1, hz2⟩ := info_parts rattr_info
  obtain ⟨n, hn⟩ : ∃ n, l.length = n := ⟨_, rfl⟩
  have HN := Lib.hid hn
  rw [hn] at hm ⊢
  clear hn
  go_enter Tryz.func41, Tryz.ntmps41
  go_wp2
  have hst := OfR.start 45 34 81 w s A n c l
  go_loopw [4] (fun v wr => ∃ (k : Nat) (A2 : Option Addr) (c2 : Nat), v = .int .i64 k ∧ k ≤ n ∧ OfR 45 34 81 w s A n c l k A2 c2 wr) (fun v _ => n - (intOf v).toNat)
  case atStart => exact ⟨0, none, 0, rfl, Nat.zero_le _, hst⟩
  case round =>
    clear hst
    obtain ⟨k, A2, c2, rfl, hk, R⟩ := hrel
    have c9 : wr.cell? ⟨w.heap.size, 9, none⟩ = some (.slice A n c) := R.b1.cell 9
    by_cases hlt : k < n
    · have hltz : (k : Int) < (n : Int) := by omega
      have hkl : k < l.length := by rw [un HN]; exact hlt
      obtain ⟨ad, p, rfl, hp, F⟩ := h.get hkl
      have pl := World.block_lt_of_cell? _ _ F.c0
      have x9 : wr.cell? ⟨w.heap.size + 1 + 1, 9, none⟩ = some (.slice A2 k c2) := R.b3.cell 9
      have fx : wr.frozen? ⟨w.heap.size + 1 + 1, 9, none⟩ = false := R.b3.frozen 9
      have f0 := (R.bel.cell (p := p) pl).trans F.c0
      have f1 := (R.bel.cell (p := ⟨p.block, p.off + 1, none⟩) pl).trans F.c1
      have f2 : wr.cell? ⟨p.block, p.off + 1 + 1, none⟩ = some (.int .i64 l[k].N) := (R.bel.cell (p := ⟨p.block, p.off + 2, none⟩) pl).trans F.c2
      have f3 : wr.cell? ⟨p.block, p.off + 1 + 2, none⟩ = some (.string l[k].S) := (R.bel.cell (p := ⟨p.block, p.off + 3, none⟩) pl).trans F.c3
      go_wp2_with fail
      have R' : OfR 45 34 81 w s (some ad) n c l k A2 c2 wr.drew := ⟨R.b1, R.b2, R.b3, R.own, ⟨R.bel.os, R.bel.tape, R.bel.output, R.bel.size, R.bel.block⟩, R.lt⟩
      replace c9 : wr.drew.cell? ⟨w.heap.size, 9, none⟩ = some (.slice (some ad) n c) := c9
      replace x9 : wr.drew.cell? ⟨w.heap.size + 1 + 1, 9, none⟩ = some (.slice A2 k c2) := x9
      replace f0 : wr.drew.cell? p = some (.string l[k].key) := f0
      replace f1 : wr.drew.cell? ⟨p.block, p.off + 1, none⟩ = some (.int .i64 l[k].K) := f1
      replace f2 : wr.drew.cell? ⟨p.block, p.off + 1 + 1, none⟩ = some (.int .i64 l[k].N) := f2
      replace f3 : wr.drew.cell? ⟨p.block, p.off + 1 + 2, none⟩ = some (.string l[k].S) := f3
      clear F R fx
      have e0 : (0 : Int) ≤ (k : Int) := by omega
      have e1 : ((k : Int)).toNat = k := by omega
      generalize hx : l[k] = x at *
      have hb1 : Below wr.drew.heap.size wr.drew ((wr.alloc (.cells #[.string x.key, .int .i64 x.K, .int .i64 x.N, .string x.S] 81)).drew) := ((Below.refl _ _).alloc (Nat.le_refl _) _ : Below wr.drew.heap.size wr.drew (wr.drew.alloc _))
      have ho1 : (wr.alloc (.cells #[.string x.key, .int .i64 x.K, .int .i64 x.N, .string x.S] 81)).drew.ownsRow (w.heap.size + 1 + 1 + 1) 81 4 (.slice A2 k c2) k ((l.take k).flatMap enc) := R'.own.alloc (.cells #[.string x.key, .int .i64 x.K, .int .i64 x.N, .string x.S] 81)
      have hlit : Rd 4 (wr.alloc (.cells #[.string x.key, .int .i64 x.K, .int .i64 x.N, .string x.S] 81)).drew (some ⟨wr.heap.size, 0, none⟩) 1 1 (enc x) := Rd.lit4 wr.drew 81 x
      have hlt3 := R'.lt
      have a9 : ((wr.alloc (.cells #[.string x.key, .int .i64 x.K, .int .i64 x.N, .string x.S] 81)).drew).cell? ⟨w.heap.size + 1 + 1, 9, none⟩ = some (.slice A2 k c2) := (R'.b3.below hb1).cell 9
      have d1 : k + 1 ≤ maxLen := by unfold maxLen; omega
      have d2 : (k + 1) * 48 ≤ 140737488355328 := by omega
      have d3 : w.heap.size + 1 + 1 + 1 ≤ ((wr.alloc (.cells #[.string x.key, .int .i64 x.K, .int .i64 x.N, .string x.S] 81)).drew).heap.size := Nat.le_trans hlt3 hb1.size
      have keep1 : ∀ (q : Addr) (v : Value), wr.drew.cell? q = some v → (wr.alloc (.cells #[.string x.key, .int .i64 x.K, .int .i64 x.N, .string x.S] 81)).drew.cell? q = some v := fun q v h => by rw [hb1.cell (World.block_lt_of_cell? _ _ h)]; exact h
      have keep2 : ∀ (w2 : World), (wr.alloc (.cells #[.string x.key, .int .i64 x.K, .int .i64 x.N, .string x.S] 81)).drew.grownBy w2 (Value.slice A2 k c2).ownBlock → ∀ (q : Addr) (v : Value), q.block < w.heap.size + 1 + 1 + 1 → wr.drew.cell? q = some v → w2.cell? q = some v := fun w2 hg q v hq h => by
        have h1 := keep1 q v h
        rw [World.cell?_of_block (hg.block _ (World.block_lt_of_cell? _ _ h1) (fun e => by have := (ho1.lt _ e.symm).1; omega))]
        exact h1
      have pl2 : p.block < w.heap.size + 1 + 1 + 1 := by omega
      have n1 : w.heap.size < w.heap.size + 1 + 1 + 1 := by omega
      have n2 : w.heap.size + 1 + 1 < w.heap.size + 1 + 1 + 1 := by omega
      have S1 : Aside ((wr.alloc (.cells #[.string x.key, .int .i64 x.K, .int .i64 x.N, .string x.S] 81)).drew.cell? ⟨w.heap.size + 1 + 1, 9, none⟩ = some (.slice A2 k c2) ∧ (wr.alloc (.cells #[.string x.key, .int .i64 x.K, .int .i64 x.N, .string x.S] 81)).drew.cell? ⟨w.heap.size, 9, none⟩ = some (.slice (some ad) n c) ∧ (wr.alloc (.cells #[.string x.key, .int .i64 x.K, .int .i64 x.N, .string x.S] 81)).drew.cell? p = some (.string x.key) ∧ (wr.alloc (.cells #[.string x.key, .int .i64 x.K, .int .i64 x.N, .string x.S] 81)).drew.cell? ⟨p.block, p.off + 1, none⟩ = some (.int .i64 x.K) ∧ (wr.alloc (.cells #[.string x.key, .int .i64 x.K, .int .i64 x.N, .string x.S] 81)).drew.cell? ⟨p.block, p.off + 1 + 1, none⟩ = some (.int .i64 x.N) ∧ (wr.alloc (.cells #[.string x.key, .int .i64 x.K, .int .i64 x.N, .string x.S] 81)).drew.cell? ⟨p.block, p.off + 1 + 2, none⟩ = some (.string x.S)) := (show _ ∧ _ from ⟨keep1 _ _ x9, keep1 _ _ c9, keep1 _ _ f0, keep1 _ _ f1, keep1 _ _ f2, keep1 _ _ f3⟩)
      have KP : Aside (∀ w2 : World, (wr.alloc (.cells #[.string x.key, .int .i64 x.K, .int .i64 x.N, .string x.S] 81)).drew.grownBy w2 (Value.slice A2 k c2).ownBlock → w2.cell? ⟨w.heap.size + 1 + 1, 9, none⟩ = some (.slice A2 k c2) ∧ w2.cell? ⟨w.heap.size, 9, none⟩ = some (.slice (some ad) n c) ∧ w2.cell? p = some (.string x.key) ∧ w2.cell? ⟨p.block, p.off + 1, none⟩ = some (.int .i64 x.K) ∧ w2.cell? ⟨p.block, p.off + 1 + 1, none⟩ = some (.int .i64 x.N) ∧ w2.cell? ⟨p.block, p.off + 1 + 2, none⟩ = some (.string x.S)) := fun w2 hg => ⟨keep2 w2 hg _ _ n2 x9, keep2 w2 hg _ _ n1 c9, keep2 w2 hg _ _ pl2 f0, keep2 w2 hg _ _ pl2 f1, keep2 w2 hg _ _ pl2 f2, keep2 w2 hg _ _ pl2 f3⟩
      have KF : Aside (∀ w2 : World, (wr.alloc (.cells #[.string x.key, .int .i64 x.K, .int .i64 x.N, .string x.S] 81)).drew.grownBy w2 (Value.slice A2 k c2).ownBlock → Bk w2 (w.heap.size + 1 + 1) 34 (spc s (.slice A2 k c2))) := fun w2 hg => by
        have h1 : Bk (wr.alloc (.cells #[.string x.key, .int .i64 x.K, .int .i64 x.N, .string x.S] 81)).drew (w.heap.size + 1 + 1) 34 (spc s (.slice A2 k c2)) := R'.b3.below hb1
        unfold Bk at h1 ⊢
        rw [hg.block _ (Array.getElem?_eq_some_iff.1 h1).1 (fun e => by have := (ho1.lt _ e.symm).1; omega)]
        exact h1
      clear keep1 keep2
      refine wp_zed (S := fun w' => w'.cell? ⟨w.heap.size + 1 + 1, 9, none⟩ = some (.slice A2 k c2) ∧ w'.cell? ⟨w.heap.size, 9, none⟩ = some (.slice (some ad) n c) ∧ w'.cell? p = some (.string x.key) ∧ w'.cell? ⟨p.block, p.off + 1, none⟩ = some (.int .i64 x.K) ∧ w'.cell? ⟨p.block, p.off + 1 + 1, none⟩ = some (.int .i64 x.N) ∧ w'.cell? ⟨p.block, p.off + 1 + 2, none⟩ = some (.string x.S)) (z := 18) mixed ?_
      refine Zed.take (i := 0) (v := .pointer (some ⟨w.heap.size + 1 + 1, 9, none⟩)) rfl (by kernel_rfl) rfl (by kernel_rfl) (by kernel_rfl) (by kernel_rfl) (fun _ _ _ h => h) ?_ ⟨x9, c9, f0, f1, f2, f3⟩ ?_
      · refine .inl ⟨rfl, fun W hW => ?_⟩
        obtain ⟨q1, q2, q3, q4, q5, q6⟩ := hW
        go_simp
      (try simp only [Act.put, List.setIfInBounds_toArray, List.set_cons_zero, List.set_cons_succ])
      refine Zed.take (i := 1) (v := .slice A2 k c2) rfl (by kernel_rfl) rfl (by kernel_rfl) (by kernel_rfl) (by kernel_rfl) (fun _ _ _ h => h) ?_ ⟨x9, c9, f0, f1, f2, f3⟩ ?_
      · refine .inl ⟨rfl, fun W hW => ?_⟩
        obtain ⟨q1, q2, q3, q4, q5, q6⟩ := hW
        go_simp
      (try simp only [Act.put, List.setIfInBounds_toArray, List.set_cons_zero, List.set_cons_succ])
      refine Zed.take (i := 2) (v := .pointer (some ⟨w.heap.size, 9, none⟩)) rfl (by kernel_rfl) rfl (by kernel_rfl) (by kernel_rfl) (by kernel_rfl) (fun _ _ _ h => h) ?_ ⟨x9, c9, f0, f1, f2, f3⟩ ?_
      · refine .inl ⟨rfl, fun W hW => ?_⟩
        obtain ⟨q1, q2, q3, q4, q5, q6⟩ := hW
        go_simp
      (try simp only [Act.put, List.setIfInBounds_toArray, List.set_cons_zero, List.set_cons_succ])
      refine Zed.take (i := 3) (v := .slice (some ad) n c) rfl (by kernel_rfl) rfl (by kernel_rfl) (by kernel_rfl) (by kernel_rfl) (fun _ _ _ h => h) ?_ ⟨x9, c9, f0, f1, f2, f3⟩ ?_
      · refine .inl ⟨rfl, fun W hW => ?_⟩
        obtain ⟨q1, q2, q3, q4, q5, q6⟩ := hW
        go_simp
      (try simp only [Act.put, List.setIfInBounds_toArray, List.set_cons_zero, List.set_cons_succ])
      refine Zed.take (i := 4) (v := .int .i64 (k : Int)) rfl (by kernel_rfl) rfl (by kernel_rfl) (by kernel_rfl) (by kernel_rfl) (fun _ _ _ h => h) ?_ ⟨x9, c9, f0, f1, f2, f3⟩ ?_
      · refine .inl ⟨rfl, fun W hW => ?_⟩
        obtain ⟨q1, q2, q3, q4, q5, q6⟩ := hW
        go_simp
      (try simp only [Act.put, List.setIfInBounds_toArray, List.set_cons_zero, List.set_cons_succ])
      refine Zed.take (i := 5) (v := .pointer (some p)) rfl (by kernel_rfl) rfl (by kernel_rfl) (by kernel_rfl) (by kernel_rfl) (fun _ _ _ h => h) ?_ ⟨x9, c9, f0, f1, f2, f3⟩ ?_
      · refine .inl ⟨rfl, fun W hW => ?_⟩
        obtain ⟨q1, q2, q3, q4, q5, q6⟩ := hW
        go_simp
      (try simp only [Act.put, List.setIfInBounds_toArray, List.set_cons_zero, List.set_cons_succ])
      refine Zed.take (i := 6) (v := .pointer (some p)) rfl (by kernel_rfl) rfl (by kernel_rfl) (by kernel_rfl) (by kernel_rfl) (fun _ _ _ h => h) ?_ ⟨x9, c9, f0, f1, f2, f3⟩ ?_
      · refine .inl ⟨rfl, fun W hW => ?_⟩
        obtain ⟨q1, q2, q3, q4, q5, q6⟩ := hW
        go_simp
      (try simp only [Act.put, List.setIfInBounds_toArray, List.set_cons_zero, List.set_cons_succ])
      refine Zed.take (i := 7) (v := .string x.key) rfl (by kernel_rfl) rfl (by kernel_rfl) (by kernel_rfl) (by kernel_rfl) (fun _ _ _ h => h) ?_ ⟨x9, c9, f0, f1, f2, f3⟩ ?_
      · refine .inl ⟨rfl, fun W hW => ?_⟩
        obtain ⟨q1, q2, q3, q4, q5, q6⟩ := hW
        go_simp
      (try simp only [Act.put, List.setIfInBounds_toArray, List.set_cons_zero, List.set_cons_succ])
      refine Zed.take (i := 8) (v := .pointer (some ⟨w.heap.size, 9, none⟩)) rfl (by kernel_rfl) rfl (by kernel_rfl) (by kernel_rfl) (by kernel_rfl) (fun _ _ _ h => h) ?_ ⟨x9, c9, f0, f1, f2, f3⟩ ?_
      · refine .inl ⟨rfl, fun W hW => ?_⟩
        obtain ⟨q1, q2, q3, q4, q5, q6⟩ := hW
        go_simp
      (try simp only [Act.put, List.setIfInBounds_toArray, List.set_cons_zero, List.set_cons_succ])
      refine Zed.take (i := 9) (v := .slice (some ad) n c) rfl (by kernel_rfl) rfl (by kernel_rfl) (by kernel_rfl) (by kernel_rfl) (fun _ _ _ h => h) ?_ ⟨x9, c9, f0, f1, f2, f3⟩ ?_
      · refine .inl ⟨rfl, fun W hW => ?_⟩
        obtain ⟨q1, q2, q3, q4, q5, q6⟩ := hW
        go_simp
      (try simp only [Act.put, List.setIfInBounds_toArray, List.set_cons_zero, List.set_cons_succ])
      refine Zed.take (i := 10) (v := .int .i64 (k : Int)) rfl (by kernel_rfl) rfl (by kernel_rfl) (by kernel_rfl) (by kernel_rfl) (fun _ _ _ h => h) ?_ ⟨x9, c9, f0, f1, f2, f3⟩ ?_
      · refine .inl ⟨rfl, fun W hW => ?_⟩
        obtain ⟨q1, q2, q3, q4, q5, q6⟩ := hW
        go_simp
      (try simp only [Act.put, List.setIfInBounds_toArray, List.set_cons_zero, List.set_cons_succ])
      refine Zed.take (i := 11) (v := .pointer (some p)) rfl (by kernel_rfl) rfl (by kernel_rfl) (by kernel_rfl) (by kernel_rfl) (fun _ _ _ h => h) ?_ ⟨x9, c9, f0, f1, f2, f3⟩ ?_
      · refine .inl ⟨rfl, fun W hW => ?_⟩
        obtain ⟨q1, q2, q3, q4, q5, q6⟩ := hW
        go_simp
      (try simp only [Act.put, List.setIfInBounds_toArray, List.set_cons_zero, List.set_cons_succ])
      refine Zed.take (i := 12) (v := .pointer (some ⟨p.block, p.off + 1, none⟩)) rfl (by kernel_rfl) rfl (by kernel_rfl) (by kernel_rfl) (by kernel_rfl) (fun _ _ _ h => h) ?_ ⟨x9, c9, f0, f1, f2, f3⟩ ?_
      · refine .inl ⟨rfl, fun W hW => ?_⟩
        obtain ⟨q1, q2, q3, q4, q5, q6⟩ := hW
        go_simp
      (try simp only [Act.put, List.setIfInBounds_toArray, List.set_cons_zero, List.set_cons_succ])
      refine Zed.take (i := 13) (v := .agg #[.int .i64 x.K, .int .i64 x.N, .string x.S]) rfl (by kernel_rfl) rfl (by kernel_rfl) (by kernel_rfl) (by kernel_rfl) (fun _ _ _ h => h) ?_ ⟨x9, c9, f0, f1, f2, f3⟩ ?_
      · refine .inl ⟨rfl, fun W hW => ?_⟩
        obtain ⟨q1, q2, q3, q4, q5, q6⟩ := hW
        go_simp
      (try simp only [Act.put, List.setIfInBounds_toArray, List.set_cons_zero, List.set_cons_succ])
      refine Zed.take (i := 14) (v := .agg #[.string x.key, .int .i64 x.K, .int .i64 x.N, .string x.S]) rfl (by kernel_rfl) rfl (by kernel_rfl) (by kernel_rfl) (by kernel_rfl) (fun _ _ _ h => h) ?_ ⟨x9, c9, f0, f1, f2, f3⟩ ?_
      · refine .inl ⟨rfl, fun W hW => ?_⟩
        obtain ⟨q1, q2, q3, q4, q5, q6⟩ := hW
        go_simp
      (try simp only [Act.put, List.setIfInBounds_toArray, List.set_cons_zero, List.set_cons_succ])
      refine Zed.step (i := 15) (by kernel_rfl) rfl rfl (fun K hK => ?_)
      go_simp
      refine hK _ _ ⟨.inr S1.out, ?_⟩
      clear hK K
      (try simp only [Act.put, List.setIfInBounds_toArray, List.set_cons_zero, List.set_cons_succ])
      refine Zed.step (i := 16) (by kernel_rfl) rfl rfl (fun K hK => ?_)
      refine wp_append_rd (.tmp 32) (.tmp 46) 32 rfl (w.heap.size + 1 + 1 + 1) 81 i0 _ 4 48 Tryz.underlying32 hi hz0 hz1 hz2 rfl (Nat.succ_pos 3) (.slice A2 k c2) k ((l.take k).flatMap enc) rfl ho1 (some ⟨wr.heap.size, 0, none⟩) 1 1 (enc x) rfl hlit (enc_one x) d1 d2 d3 ?_
      intro A3 c3 w2 hown3 hg3
      refine hK _ _ ⟨.inr (KP.out w2 hg3), ?_⟩
      clear hK K
      have y9 : w2.cell? ⟨w.heap.size + 1 + 1, 9, none⟩ = some (.slice A2 k c2) := (KF.out w2 hg3).cell 9
      have F2 := (KF.out w2 hg3).frozen 9
      (try simp only [Act.put, List.setIfInBounds_toArray, List.set_cons_zero, List.set_cons_succ])
      refine Zed.step (i := 17) (by kernel_rfl) rfl rfl (fun K hK => ?_)
      go_simp
      refine hK _ _ ⟨.inr (KP.out w2 hg3), ?_⟩
      clear hK K
      (try simp only [Act.put, List.setIfInBounds_toArray, List.set_cons_zero, List.set_cons_succ])
      refine Zed.step (i := 18) (by kernel_rfl) rfl rfl (fun K hK => ?_)
      go_simp
      refine hK _ _ ⟨.inl rfl, Zed.done (by kernel_rfl) ?_ _⟩
      clear hK K
      (try simp only [Act.put, List.setIfInBounds_toArray, List.set_cons_zero, List.set_cons_succ])
      have R2 := R'.step hkl hb1 hg3 (by rw [hx]; exact hown3)
      clear hg3 hown3 hlit ho1 hb1 R' c9 x9 f0 f1 f2 f3 S1 KP KF y9 F2
      go_wp2
      go_roundw
      case rel => exact ⟨k + 1, A3, c3, by go_num, by omega, R2⟩
      case measure => simp [intOf]; omega
    · have hltz : ¬ ((k : Int) < (n : Int)) := by omega
      have hkn : k = n := by omega
      subst hkn
      have x0 : wr.cell? ⟨w.heap.size + 1 + 1, 0, none⟩ = some (.int .u64 s.T) := R.b3.cell 0
      have x1 : wr.cell? ⟨w.heap.size + 1 + 1, 1, none⟩ = some (.int .u64 s.I) := R.b3.cell 1
      have x2 : wr.cell? ⟨w.heap.size + 1 + 1, 2, none⟩ = some (.int .u64 s.P) := R.b3.cell 2
      have x3 : wr.cell? ⟨w.heap.size + 1 + 1, 3, none⟩ = some (.string s.sv) := R.b3.cell 3
      have x4 : wr.cell? ⟨w.heap.size + 1 + 1, 4, none⟩ = some (.string s.nm) := R.b3.cell 4
      have x5 : wr.cell? ⟨w.heap.size + 1 + 1, 5, none⟩ = some (.int .i64 s.kd) := R.b3.cell 5
      have x6 : wr.cell? ⟨w.heap.size + 1 + 1, 6, none⟩ = some (.int .i64 s.st) := R.b3.cell 6
      have x7 : wr.cell? ⟨w.heap.size + 1 + 1, 7, none⟩ = some (.int .u64 s.t0) := R.b3.cell 7
      have x8 : wr.cell? ⟨w.heap.size + 1 + 1, 8, none⟩ = some (.int .u64 s.t1) := R.b3.cell 8
      have x9 : wr.cell? ⟨w.heap.size + 1 + 1, 9, none⟩ = some (.slice A2 k c2) := R.b3.cell 9
      have z0 : wr.cell? ⟨w.heap.size + 1, 0, none⟩ = some (.int .u64 0) := R.b2.cell 0
      have z1 : wr.cell? ⟨w.heap.size + 1, 1, none⟩ = some (.int .u64 0) := R.b2.cell 1
      have z2 : wr.cell? ⟨w.heap.size + 1, 2, none⟩ = some (.int .u64 0) := R.b2.cell 2
      have z3 : wr.cell? ⟨w.heap.size + 1, 3, none⟩ = some (.string ⟨#[]⟩) := R.b2.cell 3
      have z4 : wr.cell? ⟨w.heap.size + 1, 4, none⟩ = some (.string ⟨#[]⟩) := R.b2.cell 4
      have z5 : wr.cell? ⟨w.heap.size + 1, 5, none⟩ = some (.int .i64 0) := R.b2.cell 5
      have z6 : wr.cell? ⟨w.heap.size + 1, 6, none⟩ = some (.int .i64 0) := R.b2.cell 6
      have z7 : wr.cell? ⟨w.heap.size + 1, 7, none⟩ = some (.int .u64 0) := R.b2.cell 7
      have z8 : wr.cell? ⟨w.heap.size + 1, 8, none⟩ = some (.int .u64 0) := R.b2.cell 8
      have z9 : wr.cell? ⟨w.heap.size + 1, 9, none⟩ = some (.slice none 0 0) := R.b2.cell 9
      have g0 : wr.frozen? ⟨w.heap.size + 1, 0, none⟩ = false := R.b2.frozen 0
      have g1 : wr.frozen? ⟨w.heap.size + 1, 1, none⟩ = false := R.b2.frozen 1
      have g2 : wr.frozen? ⟨w.heap.size + 1, 2, none⟩ = false := R.b2.frozen 2
      have g3 : wr.frozen? ⟨w.heap.size + 1, 3, none⟩ = false := R.b2.frozen 3
      have g4 : wr.frozen? ⟨w.heap.size + 1, 4, none⟩ = false := R.b2.frozen 4
      have g5 : wr.frozen? ⟨w.heap.size + 1, 5, none⟩ = false := R.b2.frozen 5
      have g6 : wr.frozen? ⟨w.heap.size + 1, 6, none⟩ = false := R.b2.frozen 6
      have g7 : wr.frozen? ⟨w.heap.size + 1, 7, none⟩ = false := R.b2.frozen 7
      have g8 : wr.frozen? ⟨w.heap.size + 1, 8, none⟩ = false := R.b2.frozen 8
      have g9 : wr.frozen? ⟨w.heap.size + 1, 9, none⟩ = false := R.b2.frozen 9
      go_wp2
      have hfin := fun W hW => R.fin (W := W) (un HN) hW
      change bodyPost _ _ _ _ _ (P06.put10 wr (w.heap.size + 1) s (.slice A2 k c2))
      clear x0 z0 g0 x1 z1 g1 x2 z2 g2 x3 z3 g3 x4 z4 g4 x5 z5 g5 x6 z6 g6 x7 z7 g7 x8 z8 g8 x9 z9 g9 R c9
      generalize hW : P06.put10 wr (w.heap.size + 1) s (.slice A2 k c2) = W at *
      obtain ⟨hB, hH, hb⟩ := hfin W rfl
      clear hfin
      have x0 : W.cell? ⟨w.heap.size + 1, 0, none⟩ = some (.int .u64 s.T) := hB.cell 0
      have x1 : W.cell? ⟨w.heap.size + 1, 1, none⟩ = some (.int .u64 s.I) := hB.cell 1
      have x2 : W.cell? ⟨w.heap.size + 1, 2, none⟩ = some (.int .u64 s.P) := hB.cell 2
      have x3 : W.cell? ⟨w.heap.size + 1, 3, none⟩ = some (.string s.sv) := hB.cell 3
      have x4 : W.cell? ⟨w.heap.size + 1, 4, none⟩ = some (.string s.nm) := hB.cell 4
      have x5 : W.cell? ⟨w.heap.size + 1, 5, none⟩ = some (.int .i64 s.kd) := hB.cell 5
      have x6 : W.cell? ⟨w.heap.size + 1, 6, none⟩ = some (.int .i64 s.st) := hB.cell 6
      have x7 : W.cell? ⟨w.heap.size + 1, 7, none⟩ = some (.int .u64 s.t0) := hB.cell 7
      have x8 : W.cell? ⟨w.heap.size + 1, 8, none⟩ = some (.int .u64 s.t1) := hB.cell 8
      have x9 : W.cell? ⟨w.heap.size + 1, 9, none⟩ = some (.slice A2 k c2) := hB.cell 9
      (try simp only [Exit.inBlock, Exit.then])
      refine bodyPost_ret (by simp [results, Tryz.results41, go_sem, x0, x1, x2, x3, x4, x5, x6, x7, x8, x9]; try rfl) rfl ?_
      exact ⟨A2, c2, rfl, hH, hb⟩
end Go.Proofs.YtdmibolbpgondaaGreat.P06
end

section
set_option linter.unusedSimpArgs false
set_option linter.unusedVariables false
namespace Go.Proofs.YtdmibolbpgondaaGreat.P06
open Go.Shelf Go.RowKit Go.Lib Go.Sort Go.Proofs.YtdmibolbpgondaaGreat.Wd Go.Proofs.YtdmibolbpgondaaGreat.V04

/-- Of, of none -/
def OfOut (w : World) (s : Sp) (n : Nat) (l : List At) (e : Ending) (w' : World) : Prop := ∃ A' c', e = .returned (spv s (.slice A' n c')) ∧ Hd w.heap.size w' A' c' l ∧ Below w.heap.size w w'
theorem of_at (s : Sp) (A : Option Addr) (c n : Nat) (l : List At) (w : World) (h : Ats w A c l) (hn : l.length = n) (hm : n ≤ 40) : Calls Tryz.prog 11 #[spv s (.slice A n c)] w (OfOut w s n l) := by
  subst hn
  exact of_any s A c l w h hm
theorem far_at (s : Sp) (A : Option Addr) (c n : Nat) (l : List At) (b : Bool) (w : World) (h : Ats w A c l) (hn : l.length = n) (hm : n ≤ 9223372036854775807) (hb : far s l = b) :
    Calls Tryz.prog 9 #[spv s (.slice A n c)] w fun e w' => e = .returned (.bool b) ∧ Below w.heap.size w w' := by
  subst hn hb
  exact far_any s A c l w h hm
theorem far_len {s : Sp} {l : List At} (h : far s l = false) : l.length ≤ 40 := by
  unfold far at h
  simp only [Bool.or_eq_false_iff, decide_eq_false_iff_not] at h
  omega
theorem to_at (s : Sp) (A : Option Addr) (c n : Nat) (l : List At) (w : World) (h : Ats w A c l) (hn : l.length = n) (hm : n ≤ 40) : Calls Tryz.prog 41 #[spv s (.slice A n c)] w (OfOut w s n l) := by
  subst hn
  exact to_any s A c l w h hm
theorem cmpS_self (s : Sp) (l : List At) : cmpS s s l l = 0 := by
  have := cmpS_neg s s l l
  omega
theorem same_any (s t : Sp) (A1 A2 : Option Addr) (c1 c2 : Nat) (l m : List At) (n1 n2 : Nat) (b : Bool) (w : World) (h1 : Ats w A1 c1 l) (h2 : Ats w A2 c2 m) (hn1 : l.length = n1) (hn2 : m.length = n2) (z1 : n1 ≤ 40) (z2 : n2 ≤ 40) (hb : b = decide (cmpS s t l m = 0)) :
    Calls Tryz.prog 40 #[spv s (.slice A1 n1 c1), spv t (.slice A2 n2 c2)] w fun e w' => e = .returned (.bool b) ∧ Below w.heap.size w w' := by
  obtain ⟨x, hx⟩ : ∃ x, cmpS s t l m = x := ⟨_, rfl⟩
  have hR : ∀ W, Below w.heap.size w W → Calls Tryz.prog 36 #[spv s (.slice A1 n1 c1), spv t (.slice A2 n2 c2)] W fun e w' => e = .returned (.int .i64 x) ∧ Below W.heap.size W w' := fun W hW => by
    have h := refcmp_any s t A1 A2 c1 c2 l m n1 n2 W (h1.below hW) (h2.below hW) hn1 hn2 z1 z2
    rw [hx] at h
    exact h
  rw [hx] at hb
  subst hb
  have b0 : Below w.heap.size w ((w.alloc (.cells (spc s (.slice A1 n1 c1)) 34)).alloc (.cells (spc t (.slice A2 n2 c2)) 34)) := by go_grown
  clear h1 h2 hn1 hn2 z1 z2 hx
  go_enter Tryz.func40, Tryz.ntmps40
  go_wp2_with fail
  refine (hR _ b0).mono ?_
  rintro e w2 ⟨rfl, b2⟩
  replace b0 := b0.trans (b2.mono b0.size)
  clear b2 hR
  go_wp2
  go_ret
  exact ⟨ret_bool (by rw [Bool.eq_iff_iff]; simp), b0⟩
end Go.Proofs.YtdmibolbpgondaaGreat.P06
end

section
set_option linter.unusedSimpArgs false
set_option linter.unusedVariables false
namespace Go.Proofs.YtdmibolbpgondaaGreat.P06
open Go.Shelf Go.RowKit Go.Lib Go.Sort Go.Proofs.YtdmibolbpgondaaGreat.Wd Go.Proofs.YtdmibolbpgondaaGreat.V04

theorem own_empty4 (w : World) (e : TypeId) : (w.alloc (.cells #[] e)).ownsRow w.heap.size e 4 (.slice (some ⟨w.heap.size, 0, none⟩) 0 0) 0 [] :=
  ⟨by simp, .inr ⟨w.heap.size, 0, #[], rfl, Nat.le_refl _, heap_alloc_new w _, Nat.le_refl _, by unfold maxLen; omega, by simp, by simp⟩⟩
/-- what a copy is -/
def ClOut (w : World) (n : Nat) (l : List At) (e : Ending) (w' : World) : Prop := ∃ A' c', e = .returned (.slice A' n c') ∧ Hd w.heap.size w' A' c' l ∧ Below w.heap.size w w'
theorem ClOut.of {w : World} {n : Nat} {l : List At} {e : Ending} {w' : World} (A' : Option Addr) (c' : Nat) (h1 : e = .returned (.slice A' n c')) (h2 : Hd w.heap.size w' A' c' l) (h3 : Below w.heap.size w w') : ClOut w n l e w' := ⟨A', c', h1, h2, h3⟩
set_option maxRecDepth 20000 in
set_option maxHeartbeats 2000000 in
theorem clone_any (A : Option Addr) (c n : Nat) (l : List At) (w : World) (h : Hd 0 w A c l) (hn : l.length = n) (hm : n ≤ 40) :
    Calls Tryz.prog 30 #[.slice A n c] w (ClOut w n l) := by
  have q22 : ∀ (w : World) (a : Option Addr) (n c : Nat), (binOp .eql 43 (.slice a n c) (.slice none 0 0)).run Tryz.prog w = .ok (.bool a.isNone) w := fun w a n c => Lib.run_eql_slice_nil w _ _ a n c 0 0 Tryz.underlying43
  obtain ⟨i0, hi, hz0, hz1, hz2⟩ := info_parts attr_info
  cases hA : A with
  | none =>
    subst hA
    rcases h with ⟨_, hc, hl⟩ | ⟨g, hg, _⟩
    · subst hc hl
      have hn0 : n = 0 := by simpa using hn.symm
      subst hn0
      clear hn
      go_enter Tryz.func30, Tryz.ntmps30
      go_wp2
      go_ret
      exact ClOut.of none 0 rfl (Hd.nil _ _) (Below.refl _ _)
    · cases hg
  | some ad =>
    subst hA
    have hr := h.ats.below (below_box w (.cells #[] 86) (Nat.le_refl _))
    have hr' : Rd 4 (w.alloc (.cells #[] 86)) (some ad) n c (l.flatMap enc) := by rw [← hn]; exact hr
    have ho := own_empty4 w 86
    have HN := Lib.hid hn
    clear hn hr h
    go_enter Tryz.func30, Tryz.ntmps30
    go_wp2_with (at_builtin; refine wpList_append_rd _ rfl (.tmp 5) (.tmp 6) 43 rfl w.heap.size 86 i0 _ 4 48 Tryz.underlying43 hi hz0 hz1 hz2 rfl (by decide) _ 0 [] rfl ho (some ad) n c (l.flatMap enc) rfl hr' (fm_one l) ?d1 ?d2 ?d3 ?_)
    case d1 => unfold maxLen; omega
    case d2 => omega
    case d3 => simp
    intro A3 c3 w2 hown3 hg3
    have hb : Below w.heap.size w w2 := ((below_box w (.cells #[] 86) (Nat.le_refl _))).grown hg3 (by simp) fun k hk => (ho.lt k hk).1
    have hH : Hd w.heap.size w2 A3 c3 l := by
      have h1 : w2.ownsRow w.heap.size 86 4 (.slice A3 l.length c3) l.length (l.flatMap enc) := by
        rw [un HN]
        simpa using hown3
      exact Hd.own h1
    clear hown3 hg3
    go_wp2
    go_ret
    exact ClOut.of A3 c3 (by simp) hH hb
end Go.Proofs.YtdmibolbpgondaaGreat.P06
end
