/-
  Made alike: label, byKeys, Alike.
-/
import Derived.Test.YtpjldoahinocjaaP06Of
import Derived.Lib.SliceRun
set_option linter.unusedSimpArgs false
set_option linter.unusedVariables false
namespace Go.Proofs.Ytpjldoahinocjaa.P06
open Go.Shelf Go.RowKit Go.Lib Go.Sort Go.Proofs.Ytpjldoahinocjaa.Wd Go.Proofs.Ytpjldoahinocjaa.V04

/-- a label: clean, cut, never empty -/
def lab (s : ByteArray) (n : Int) : ByteArray := if (T03.cut (T03.clean (T03.ls s)) n).length = 0 then ⟨#[95]⟩ else T03.str (T03.cut (T03.clean (T03.ls s)) n)
set_option maxRecDepth 20000 in
theorem label_any (s : ByteArray) (n : Int) (w : World) (hs : s.size ≤ 65536) : Calls Try.prog 27 #[.string s, .int .i64 n] w fun e w' => e = .returned (.string (lab s n)) ∧ Below w.heap.size w w' := by
  obtain ⟨X, hX⟩ : ∃ X, T03.str (T03.cut (T03.clean (T03.ls s)) n) = X := ⟨_, rfl⟩
  have hc := fun W => T03.label_at s X n W hs hX
  have hz : X.size = (T03.cut (T03.clean (T03.ls s)) n).length := by rw [← hX, T03.str_size]
  have he := empty_iff X
  unfold lab
  rw [hX, ← hz]
  clear hX hz
  by_cases h0 : X.size = 0
  · have e1 : X.toList.isEmpty = true := by rw [List.isEmpty_iff]; exact he.2 h0
    have e2 : X.toList = [] := he.2 h0
    rw [if_pos h0]
    clear he h0
    have hor : ∀ W : World, Calls Try.prog 38 #[.slice (some ⟨W.heap.size, 0, none⟩) 2 2] (W.alloc (.cells #[.string X, .string ⟨#[95]⟩] 9)) fun e w' => e = .returned (.string ⟨#[95]⟩) ∧ w' = W.alloc (.cells #[.string X, .string ⟨#[95]⟩] 9) := fun W => by
      go_enter Try.func38, Try.ntmps38
      go_wp2
      go_rounds 3
      all_goals go_ret
      all_goals exact ⟨rfl, rfl⟩
    go_enter Try.func27, Try.ntmps27
    go_wp2_with fail
    refine (hc _).mono ?_
    rintro e w2 ⟨rfl, hb2⟩
    go_wp2_with (go_at_call 38; refine (hor w2).mono ?_; rintro e w3 ⟨rfl, rfl⟩)
    go_ret
    exact ⟨rfl, hb2.alloc hb2.size _⟩
  · have e1 : X.toList.isEmpty = false := by rw [Bool.eq_false_iff, ne_eq, List.isEmpty_iff]; exact fun e => h0 (he.1 e)
    rw [if_neg h0]
    clear he h0
    have hor : ∀ W : World, Calls Try.prog 38 #[.slice (some ⟨W.heap.size, 0, none⟩) 2 2] (W.alloc (.cells #[.string X, .string ⟨#[95]⟩] 9)) fun e w' => e = .returned (.string X) ∧ w' = W.alloc (.cells #[.string X, .string ⟨#[95]⟩] 9) := fun W => by
      go_enter Try.func38, Try.ntmps38
      go_wp2
      go_rounds 3
      all_goals go_ret
      all_goals exact ⟨rfl, rfl⟩
    go_enter Try.func27, Try.ntmps27
    go_wp2_with fail
    refine (hc _).mono ?_
    rintro e w2 ⟨rfl, hb2⟩
    go_wp2_with (go_at_call 38; refine (hor w2).mono ?_; rintro e w3 ⟨rfl, rfl⟩)
    go_ret
    exact ⟨rfl, hb2.alloc hb2.size _⟩

theorem bykey_any (x y : At) (w : World) : Calls Try.prog 42 #[.agg #[.string x.key, .int .i64 x.K, .int .i64 x.N, .string x.S], .agg #[.string y.key, .int .i64 y.K, .int .i64 y.N, .string y.S]] w fun e w' => e = .returned (.int .i64 (cf x y)) ∧ w' = (w.alloc (.cells #[.string x.key, .int .i64 x.K, .int .i64 x.N, .string x.S] 53)).alloc (.cells #[.string y.key, .int .i64 y.K, .int .i64 y.N, .string y.S] 53) := by
  have hc1 : ∀ W, Calls Try.prog 43 #[.string x.key, .string y.key] W fun e w' => e = .returned (.int .i64 (cf x y)) ∧ w' = W := fun W => Try.s_compare x.key y.key W
  go_enter Try.func42, Try.ntmps42
  go_wp2_with (go_at_call 43; refine (hc1 _).mono ?_; rintro e w' ⟨rfl, rfl⟩)
  go_ret
  exact ⟨rfl, rfl⟩
theorem cmplays (blk size : Nat) (w : World) : CmpLays Try.prog 42 #[] enc 4 cf blk 0 size w := fun m os dk hdk x y => by
  refine (bykey_any x y _).mono ?_
  rintro e w' ⟨rfl, rfl⟩
  refine ⟨rfl, 0, #[.cells #[.string x.key, .int .i64 x.K, .int .i64 x.N, .string x.S] 53] ++ #[.cells #[.string y.key, .int .i64 y.K, .int .i64 y.N, .string y.S] 53], ?_⟩
  rw [alloc_eq_grow, alloc_eq_grow, grow_grow]
  rfl
theorem grown_sorted {w W : World} {g : Nat} {l : List At} (h : SWK enc 4 w g 0 l.toArray W) : w.grownBy W (some g) := by
  obtain ⟨n, os, rfl⟩ := h
  unfold sortWorldK putRowK
  refine ⟨rfl, rfl, rfl, by simp, fun k hk hne => ?_⟩
  rw [heap_grow_old _ _ (by simpa using hk)]
  have : g ≠ k := fun e => hne (by rw [e])
  simp [putRow, mapBlock, Sort.ahead, Array.getElem?_modify, this]
theorem own_empty4 (w : World) (e : TypeId) : (w.alloc (.cells #[] e)).ownsRow w.heap.size e 4 (.slice (some ⟨w.heap.size, 0, none⟩) 0 0) 0 [] :=
  ⟨by simp, .inr ⟨w.heap.size, 0, #[], rfl, Nat.le_refl _, heap_alloc_new w _, Nat.le_refl _, by unfold maxLen; omega, by simp, by simp⟩⟩
/-- what a copy is -/
def ClOut (w : World) (n : Nat) (l : List At) (e : Ending) (w' : World) : Prop := ∃ A' c', e = .returned (.slice A' n c') ∧ Hd w.heap.size w' A' c' l ∧ Below w.heap.size w w'
theorem ClOut.of {w : World} {n : Nat} {l : List At} {e : Ending} {w' : World} (A' : Option Addr) (c' : Nat) (h1 : e = .returned (.slice A' n c')) (h2 : Hd w.heap.size w' A' c' l) (h3 : Below w.heap.size w w') : ClOut w n l e w' := ⟨A', c', h1, h2, h3⟩
set_option maxRecDepth 20000 in
set_option maxHeartbeats 2000000 in
theorem clone_any (A : Option Addr) (c n : Nat) (l : List At) (w : World) (h : Hd 0 w A c l) (hn : l.length = n) (hm : n ≤ 40) :
    Calls Try.prog 40 #[.slice A n c] w (ClOut w n l) := by
  have q22 : ∀ (w : World) (a : Option Addr) (n c : Nat), (binOp .eql 28 (.slice a n c) (.slice none 0 0)).run Try.prog w = .ok (.bool a.isNone) w := fun w a n c => Lib.run_eql_slice_nil w _ _ a n c 0 0 Try.underlying28
  obtain ⟨i0, hi, hz0, hz1, hz2⟩ := info_parts attr_info
  cases hA : A with
  | none =>
    subst hA
    rcases h with ⟨_, hc, hl⟩ | ⟨g, hg, _⟩
    · subst hc hl
      have hn0 : n = 0 := by simpa using hn.symm
      subst hn0
      clear hn
      go_enter Try.func40, Try.ntmps40
      go_wp2
      go_ret
      exact ClOut.of none 0 rfl (Hd.nil _ _) (Below.refl _ _)
    · cases hg
  | some ad =>
    subst hA
    have hr := h.ats.below (below_box w (.cells #[] 53) (Nat.le_refl _))
    have hr' : Rd 4 (w.alloc (.cells #[] 53)) (some ad) n c (l.flatMap enc) := by rw [← hn]; exact hr
    have ho := own_empty4 w 53
    have HN := Lib.hid hn
    clear hn hr h
    go_enter Try.func40, Try.ntmps40
    go_wp2_with (at_builtin; refine wpList_append_rd _ rfl (.tmp 5) (.tmp 6) 28 rfl w.heap.size 53 i0 _ 4 48 Try.underlying28 hi hz0 hz1 hz2 rfl (by decide) _ 0 [] rfl ho (some ad) n c (l.flatMap enc) rfl hr' (fm_one l) ?d1 ?d2 ?d3 ?_)
    case d1 => unfold maxLen; omega
    case d2 => omega
    case d3 => simp
    intro A3 c3 w2 hown3 hg3
    have hb : Below w.heap.size w w2 := ((below_box w (.cells #[] 53) (Nat.le_refl _))).grown hg3 (by simp) fun k hk => (ho.lt k hk).1
    have hH : Hd w.heap.size w2 A3 c3 l := by
      have h1 : w2.ownsRow w.heap.size 53 4 (.slice A3 l.length c3) l.length (l.flatMap enc) := by
        rw [un HN]
        simpa using hown3
      exact Hd.own h1
    clear hown3 hg3
    go_wp2
    go_ret
    exact ClOut.of A3 c3 (by simp) hH hb
end Go.Proofs.Ytpjldoahinocjaa.P06
