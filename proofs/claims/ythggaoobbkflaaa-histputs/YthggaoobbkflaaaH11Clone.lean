/-
  slices.Clone of numbers and of counts; slices.Equal of numbers.
-/
import Derived.Test.YthggaoobbkflaaaH11May
import Derived.Lib.SliceRun
set_option linter.unusedSimpArgs false
set_option linter.unusedVariables false
namespace Go.Proofs.Ythggaoobbkflaaa.H11
open Go.RowKit Go.Lib Go.Proofs.Ythggaoobbkflaaa.Wd Go.Proofs.Ythggaoobbkflaaa.S10

theorem u64_info : (Try.prog.info? 30).map (fun i => (i.zero, i.size, i.bytes)) = some (some (.int .u64 0), 1, 8) := by kernel_rfl
theorem ct_info : (Try.prog.info? 37).map (fun i => (i.zero, i.size, i.bytes)) = some (some (.agg #[.int .u64 0, .bool false]), 2, 16) := by kernel_rfl
theorem info_of {t : TypeId} {z : Option Value} {s b : Nat} (h : (Try.prog.info? t).map (fun i => (i.zero, i.size, i.bytes)) = some (z, s, b)) : ∃ i, Try.prog.info? t = some i ∧ i.zero = z ∧ i.size = s ∧ i.bytes = b := by
  cases hi : Try.prog.info? t with
  | none => rw [hi] at h; cases h
  | some i =>
    rw [hi] at h
    simp only [Option.map_some, Option.some.injEq, Prod.mk.injEq] at h
    exact ⟨i, rfl, h.1, h.2.1, h.2.2⟩
theorem below_box (w : World) (o : Obj) : Below w.heap.size w (w.alloc o) := (Below.refl _ _).alloc (Nat.le_refl _) o
theorem own_none (w : World) (e : TypeId) (s : Nat) : (w.alloc (.cells #[] e)).ownsRow w.heap.size e s (.slice (some ⟨w.heap.size, 0, none⟩) 0 0) 0 [] :=
  ⟨by simp, .inr ⟨w.heap.size, 0, #[], rfl, Nat.le_refl _, heap_alloc_new w _, Nat.le_refl _, by unfold maxLen; omega, by simp, by simp⟩⟩
/-- what a copy is: a row of the call's own, or nil -/
def ClOut (e0 : TypeId) (s : Nat) (w : World) (n : Nat) (xs : List Value) (e : Ending) (w' : World) : Prop :=
  ∃ A' c', e = .returned (.slice A' n c') ∧ w'.ownsRow w.heap.size e0 s (.slice A' n c') n xs ∧ Below w.heap.size w w'
theorem ClOut.of {e0 : TypeId} {s : Nat} {w : World} {n : Nat} {xs : List Value} {w' : World} {A' : Option Addr} {c' m : Nat} (hm : m = n) (h2 : w'.ownsRow w.heap.size e0 s (.slice A' m c') m ([] ++ xs)) (h3 : Below w.heap.size w w') :
    ClOut e0 s w n xs (.returned (.slice A' m c')) w' := by
  subst hm
  exact ⟨A', c', rfl, by simpa using h2, h3⟩
theorem num_one (l : List Nat) : ∀ u ∈ l.map (fun (x : Nat) => Value.int .u64 (x : Int)), u.oneCell' = true := by
  intro u hu
  obtain ⟨x, _, rfl⟩ := List.mem_map.1 hu
  rfl
set_option maxRecDepth 20000 in
set_option maxHeartbeats 2000000 in
theorem cloneu_at (A : Option Addr) (c n : Nat) (l : List Nat) (w : World) (h : Us w A c l) (hn : l.length = n) (hm : n ≤ 60) :
    Calls Try.prog 18 #[.slice A n c] w (ClOut 30 1 w n (l.map fun (x : Nat) => Value.int .u64 (x : Int))) := by
  have q22 : ∀ (w : World) (a : Option Addr) (n c : Nat), (binOp .eql 22 (.slice a n c) (.slice none 0 0)).run Try.prog w = .ok (.bool a.isNone) w := fun w a n c => Lib.run_eql_slice_nil w _ _ a n c 0 0 Try.underlying22
  obtain ⟨i0, hi, hz0, hz1, hz2⟩ := info_of u64_info
  cases hA : A with
  | none =>
    subst hA
    obtain ⟨h0, hc0⟩ := h.1.none_ rfl
    have hl : l = [] := List.eq_nil_of_length_eq_zero h0
    have hn0 : n = 0 := by omega
    subst hl
    subst hn0
    subst hc0
    clear hn h
    go_enter Try.func18, Try.ntmps18
    go_wp2
    go_ret
    exact ClOut.of rfl ⟨rfl, .inl ⟨rfl, rfl⟩⟩ (Below.refl _ _)
  | some ad =>
    subst hA
    have hr' : Rd 1 (w.alloc (.cells #[] 30)) (some ad) n c (l.map fun (x : Nat) => Value.int .u64 (x : Int)) := by rw [← hn]; exact (h.below (below_box w _)).1
    have ho := own_none w 30 1
    clear hn h
    go_enter Try.func18, Try.ntmps18
    go_wp2_with (at_builtin; refine wpList_append_rd _ rfl (.tmp 5) (.tmp 6) 22 rfl w.heap.size 30 i0 _ 1 8 Try.underlying22 hi hz0 hz1 hz2 rfl (by decide) _ 0 [] rfl ho (some ad) n c (l.map fun (x : Nat) => Value.int .u64 (x : Int)) rfl hr' (num_one l) ?d1 ?d2 ?d3 ?_)
    case d1 => unfold maxLen; omega
    case d2 => omega
    case d3 => simp
    intro A3 c3 w2 hown3 hg3
    have hb : Below w.heap.size w w2 := (below_box w (.cells #[] 30)).grown hg3 (by simp) fun k hk => (ho.lt k hk).1
    clear hg3
    go_wp2
    go_ret
    exact ClOut.of (by omega) hown3 hb
set_option maxRecDepth 20000 in
set_option maxHeartbeats 2000000 in
theorem clonec_at (ad : Addr) (c n : Nat) (xs : List Value) (w : World) (h : Rd 2 w (some ad) n c xs) (h1 : ∀ u ∈ xs, u.oneCell' = true) (hm : n ≤ 60) :
    Calls Try.prog 24 #[.slice (some ad) n c] w (ClOut 37 2 w n xs) := by
  have q22 : ∀ (w : World) (a : Option Addr) (n c : Nat), (binOp .eql 34 (.slice a n c) (.slice none 0 0)).run Try.prog w = .ok (.bool a.isNone) w := fun w a n c => Lib.run_eql_slice_nil w _ _ a n c 0 0 Try.underlying34
  obtain ⟨i0, hi, hz0, hz1, hz2⟩ := info_of ct_info
  have hr' : Rd 2 (w.alloc (.cells #[] 37)) (some ad) n c xs := h.below (below_box w _)
  have ho := own_none w 37 2
  clear h
  go_enter Try.func24, Try.ntmps24
  go_wp2_with (at_builtin; refine wpList_append_rd _ rfl (.tmp 5) (.tmp 6) 34 rfl w.heap.size 37 i0 _ 2 16 Try.underlying34 hi hz0 hz1 hz2 rfl (by decide) _ 0 [] rfl ho (some ad) n c xs rfl hr' h1 ?d1 ?d2 ?d3 ?_)
  case d1 => unfold maxLen; omega
  case d2 => omega
  case d3 => simp
  intro A3 c3 w2 hown3 hg3
  have hb : Below w.heap.size w w2 := (below_box w (.cells #[] 37)).grown hg3 (by simp) fun k hk => (ho.lt k hk).1
  clear hg3
  go_wp2
  go_ret
  exact ClOut.of (by omega) hown3 hb
end Go.Proofs.Ythggaoobbkflaaa.H11
