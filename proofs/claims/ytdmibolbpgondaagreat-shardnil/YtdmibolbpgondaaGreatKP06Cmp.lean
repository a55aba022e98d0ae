/-
  The order of spans: span.Compare.
-/
import Derived.Test.YtdmibolbpgondaaGreatKP06Span
import Derived.Deep.RegionHeld3
set_option linter.unusedSimpArgs false
set_option linter.unusedVariables false
namespace Go.Proofs.YtdmibolbpgondaaGreat.P06
open Go.Shelf Go.RowKit Go.Lib Go.Sort Go.Proofs.YtdmibolbpgondaaGreat.Wd Go.Proofs.YtdmibolbpgondaaGreat.V04

theorem nanu_any (x : Int) (w : World) : Calls Tryz.prog 107 #[.int .u64 x] w fun e w' => e = .returned (.bool false) ∧ w = w' := by
  go_enter Tryz.func107, Tryz.ntmps107
  go_wp2
  go_ret
  exact ⟨ret_bool (by simp), rfl⟩
theorem compu_any (x y : Int) (w : World) : Calls Tryz.prog 83 #[.int .u64 x, .int .u64 y] w fun e w' => e = .returned (.int .i64 (compareInt x y)) ∧ w' = w := by
  go_enter Tryz.func83, Tryz.ntmps83
  go_wp2_with (go_at_call 107; refine (nanu_any _ _).mono ?_; rintro e w' ⟨rfl, rfl⟩)
  all_goals (go_ret; refine ⟨?_, rfl⟩; unfold compareInt; (repeat' split) <;> first | rfl | (exfalso; omega))

/-- the first that is not 0 -/
def orL : List Int → Int
  | [] => 0
  | x :: l => if x ≠ 0 then x else orL l
theorem orL_app (l m : List Int) : orL (l ++ m) = if orL l ≠ 0 then orL l else orL m := by
  induction l with
  | nil => simp [orL]
  | cons x l ih =>
    by_cases hx : x = 0
    · simp [orL, hx, ih]
    · simp [orL, hx]
set_option maxRecDepth 20000 in
/-- cmp.Or over a row of numbers -/
theorem orl_any (l : List Int) (g : Nat) (t : TypeId) (w : World) (h : ∀ j (hj : j < l.length), w.cell? ⟨g, j, none⟩ = some (.int .i64 l[j])) (hm : l.length ≤ 4611686018427387904) :
    Calls Tryz.prog 82 #[.slice (some ⟨g, 0, none⟩) l.length l.length] w fun e w' => e = .returned (.int .i64 (orL l)) ∧ w' = w := by
  obtain ⟨n, hn⟩ : ∃ n, l.length = n := ⟨_, rfl⟩
  have HN := Lib.hid hn
  obtain ⟨r, hr⟩ : ∃ r, orL l = r := ⟨_, rfl⟩
  have HR := Lib.hid hr
  have HH := Lib.hid h
  rw [hn] at hm ⊢
  rw [hr]
  clear hn hr h
  go_enter Tryz.func82, Tryz.ntmps82
  go_wp2
  go_loopw [8] (fun v wr => ∃ k : Nat, v = .int .i64 k ∧ k ≤ n ∧ wr = w ∧ Hid (orL (l.drop k) = r)) (fun v _ => n - (intOf v).toNat)
  case atStart => exact ⟨0, rfl, Nat.zero_le _, rfl, HR⟩
  case round =>
    obtain ⟨k, rfl, hk, rfl, HI⟩ := hrel
    by_cases hlt : k < n
    · have hltz : (k : Int) < (n : Int) := by omega
      have hkl : k < l.length := by rw [un HN]; exact hlt
      have hc := un HH k hkl
      have hI := un HI
      rw [List.drop_eq_getElem_cons hkl] at hI
      unfold orL at hI
      have HJ := Lib.hid hI
      clear hI HI
      generalize l[k] = x at *
      by_cases hx : x = 0
      · subst hx
        go_wp2
        go_roundw
        case rel => exact ⟨k + 1, by go_num, by omega, by first | rfl | trivial, Lib.hid (by have := un HJ; simpa using this)⟩
        case measure => simp [intOf]; omega
      · have hb : (x == 0) = false := beq_false_of_ne hx
        go_wp2
        go_ret
        refine ⟨?_, by first | rfl | trivial⟩
        rw [← un HJ, if_pos hx]
        rfl
    · have hltz : ¬ ((k : Int) < (n : Int)) := by omega
      go_wp2
      go_ret
      refine ⟨?_, by first | rfl | trivial⟩
      rw [← un HI, List.drop_of_length_le (by rw [un HN]; omega)]
      rfl

/-- two attributes' boxes, one behind the other -/
def Two (W : World) (g : Nat) (x y : At) : Prop :=
  W.cell? ⟨g, 0, none⟩ = some (.string x.key) ∧ W.cell? ⟨g, 1, none⟩ = some (.int .i64 x.K) ∧ W.cell? ⟨g, 2, none⟩ = some (.int .i64 x.N) ∧ W.cell? ⟨g, 3, none⟩ = some (.string x.S) ∧
  W.cell? ⟨g + 1, 0, none⟩ = some (.string y.key) ∧ W.cell? ⟨g + 1, 1, none⟩ = some (.int .i64 y.K) ∧ W.cell? ⟨g + 1, 2, none⟩ = some (.int .i64 y.N) ∧ W.cell? ⟨g + 1, 3, none⟩ = some (.string y.S)
theorem Two.below {W W' : World} {g : Nat} {x y : At} (h : Two W g x y) (hb : Below W.heap.size W W') : Two W' g x y := by
  have k : ∀ (p : Addr) (v : Value), W.cell? p = some v → W'.cell? p = some v := fun p v h => by rw [hb.cell (World.block_lt_of_cell? _ _ h)]; exact h
  obtain ⟨h1, h2, h3, h4, h5, h6, h7, h8⟩ := h
  exact ⟨k _ _ h1, k _ _ h2, k _ _ h3, k _ _ h4, k _ _ h5, k _ _ h6, k _ _ h7, k _ _ h8⟩
abbrev abox (t : TypeId) (x : At) : Obj := .cells #[.string x.key, .int .i64 x.K, .int .i64 x.N, .string x.S] t
theorem Two.new (w : World) (t : TypeId) (x y : At) : Two ((w.alloc (abox t x)).alloc (abox t y)) w.heap.size x y := by
  unfold Two
  simp
/-- of two attributes -/
def cmpA (x y : At) : Int := orL [cf x y, cmpV x.K x.N x.S y.K y.N y.S]
set_option maxRecDepth 20000 in
set_option maxHeartbeats 2000000 in
theorem cattrs_any (x y : At) (w : World) : Calls Tryz.prog 75 #[.agg #[.string x.key, .int .i64 x.K, .int .i64 x.N, .string x.S], .agg #[.string y.key, .int .i64 y.K, .int .i64 y.N, .string y.S]] w fun e w' => e = .returned (.int .i64 (cmpA x y)) ∧ Below w.heap.size w w' := by
  go_enter Tryz.func75, Tryz.ntmps75
  go_wp2
  have T0 : Two ((w.alloc (abox 86 x)).alloc (abox 86 y)).drew w.heap.size x y := Two.new w _ x y
  have b0 : Below w.heap.size w ((w.alloc (abox 86 x)).alloc (abox 86 y)).drew := by go_grown
  generalize hX : (w.alloc (abox 86 x)).alloc (abox 86 y) = X at *
  have HV : Hid (cmpA x y = orL [cf x y, cmpV x.K x.N x.S y.K y.N y.S]) := rfl
  have hc1 : ∀ W, Calls Tryz.prog 91 #[.string x.key, .string y.key] W fun e w' => e = .returned (.int .i64 (cf x y)) ∧ w' = W := fun W => Tryz.s_compare x.key y.key W
  have hc2 : ∀ W, Calls Tryz.prog 93 #[vl x.K x.N x.S, vl y.K y.N y.S] W fun e w' => e = .returned (.int .i64 (cmpV x.K x.N x.S y.K y.N y.S)) ∧ Below W.heap.size W w' := fun W => compare_any _ _ _ _ _ _ W
  generalize cf x y = c1 at *
  generalize cmpV x.K x.N x.S y.K y.N y.S = c2 at *
  have hc3 : ∀ W : World, Calls Tryz.prog 82 #[.slice (some ⟨W.heap.size, 0, none⟩) 2 2] (W.alloc (.cells #[.int .i64 c1, .int .i64 c2] 3)) fun e w' => e = .returned (.int .i64 (orL [c1, c2])) ∧ w' = W.alloc (.cells #[.int .i64 c1, .int .i64 c2] 3) := fun W =>
    orl_any [c1, c2] W.heap.size 3 _ (fun j hj => by
      match j, hj with
      | 0, _ => simp
      | 1, _ => simp) (by simp)
  clear hX
  go_region_held3 (fun w' => w'.cell? ⟨w.heap.size, 0, none⟩ = some (.string x.key) ∧ w'.cell? ⟨w.heap.size, 1, none⟩ = some (.int .i64 x.K) ∧ w'.cell? ⟨w.heap.size, 2, none⟩ = some (.int .i64 x.N) ∧ w'.cell? ⟨w.heap.size, 3, none⟩ = some (.string x.S) ∧ w'.cell? ⟨w.heap.size + 1, 0, none⟩ = some (.string y.key) ∧ w'.cell? ⟨w.heap.size + 1, 1, none⟩ = some (.int .i64 y.K) ∧ w'.cell? ⟨w.heap.size + 1, 2, none⟩ = some (.int .i64 y.N) ∧ w'.cell? ⟨w.heap.size + 1, 3, none⟩ = some (.string y.S))
    (first | exact T2 | exact T2.below (below_box _ _ (Nat.le_refl _)) | exact T0 | go_keep)
    (first
      | (go_at_call 91; (with_reducible refine (hc1 _).mono ?_); rintro e w1 ⟨rfl, rfl⟩)
      | (go_at_call 93; (with_reducible refine (hc2 _).mono ?_); rintro e w2 ⟨rfl, hb2⟩; have T2 := T0.below hb2; have b2 := b0.trans (hb2.mono b0.size))
      | (go_at_call 82; (with_reducible refine (hc3 w2).mono ?_); rintro e w3 ⟨rfl, rfl⟩))
  all_goals go_wp2
  all_goals go_ret
  all_goals (refine ⟨?_, b2.alloc b2.size _⟩; rw [un HV]; rfl)
end Go.Proofs.YtdmibolbpgondaaGreat.P06
