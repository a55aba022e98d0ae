/-
  slices.SortFunc at the items (its layings written by gen12/sort.py).
-/
import Derived.Test.YtephbjomplmkgaaU12Until
import Derived.Shelf.SlLaysF0
import Derived.Shelf.SlSortCmp.WholeK
set_option linter.unusedSimpArgs false
set_option linter.unusedVariables false
namespace Go.Proofs.Ytephbjomplmkgaa.U12
open Go.Shelf Go.RowKit Go.Lib Go.Maps Go.Sort Go.Proofs.Ytephbjomplmkgaa.Wd

def sren : Go.Shelf.Ren := ⟨fun | 6 => 23 | 14 => 29 | 15 => 30 | 20 => 35 | 21 => 36 | 22 => 37 | 23 => 38 | 24 => 39 | 25 => 40 | 26 => 41 | 27 => 42 | 28 => 43 | 29 => 44 | 46 => 46 | 47 => 47 | 48 => 48 | 49 => 49 | 50 => 50 | 57 => 51 | n => n, fun | 0 => 0 | 3 => 3 | 4 => 4 | 5 => 5 | 9 => 9 | 22 => 54 | 24 => 53 | 25 => 57 | 39 => 67 | 45 => 77 | 46 => 78 | 50 => 61 | 53 => 84 | 55 => 27 | 66 => 88 | 70 => 92 | 76 => 94 | 77 => 95 | n => n, fun n => n⟩
theorem lays6 : SlLaysF0.n6 Try.prog sren := {
  mixed := by kernel_rfl
  f6 := ⟨Try.f23.name, by kernel_rfl, Try.func23.trans (congrArg some (by kernel_rfl))⟩
  f14 := ⟨Try.f29.name, by kernel_rfl, Try.func29.trans (congrArg some (by kernel_rfl))⟩
  f15 := Try.func30.trans (congrArg some (by kernel_rfl))
  f20 := ⟨Try.f35.name, by kernel_rfl, Try.func35.trans (congrArg some (by kernel_rfl))⟩
  f21 := ⟨Try.f36.name, by kernel_rfl, Try.func36.trans (congrArg some (by kernel_rfl))⟩
  f22 := ⟨Try.f37.name, by kernel_rfl, Try.func37.trans (congrArg some (by kernel_rfl))⟩
  f23 := ⟨Try.f38.name, by kernel_rfl, Try.func38.trans (congrArg some (by kernel_rfl))⟩
  f24 := ⟨Try.f39.name, by kernel_rfl, Try.func39.trans (congrArg some (by kernel_rfl))⟩
  f25 := ⟨Try.f40.name, by kernel_rfl, Try.func40.trans (congrArg some (by kernel_rfl))⟩
  f26 := ⟨Try.f41.name, by kernel_rfl, Try.func41.trans (congrArg some (by kernel_rfl))⟩
  f27 := ⟨Try.f42.name, by kernel_rfl, Try.func42.trans (congrArg some (by kernel_rfl))⟩
  f28 := Try.func43.trans (congrArg some (by kernel_rfl))
  f29 := Try.func44.trans (congrArg some (by kernel_rfl))
  f46 := ⟨Try.f46.name, by kernel_rfl, Try.func46.trans (congrArg some (by kernel_rfl))⟩
  f47 := Try.func47.trans (congrArg some (by kernel_rfl))
  f48 := Try.func48.trans (congrArg some (by kernel_rfl))
  f49 := ⟨Try.f49.name, by kernel_rfl, Try.func49.trans (congrArg some (by kernel_rfl))⟩
  f50 := ⟨Try.f50.name, by kernel_rfl, Try.func50.trans (congrArg some (by kernel_rfl))⟩
  f57 := ⟨Try.f51.name, by kernel_rfl, Try.func51.trans (congrArg some (by kernel_rfl))⟩
  t0 := Try.underlying0
  a0 := Try.isAgg0
  z0 := Try.sizeOf0
  v0 := Try.zeroValue0
  t3 := Try.underlying3
  a3 := Try.isAgg3
  z3 := Try.sizeOf3
  v3 := Try.zeroValue3
  t4 := Try.underlying4
  a4 := Try.isAgg4
  z4 := Try.sizeOf4
  v4 := Try.zeroValue4
  t5 := Try.underlying5
  a5 := Try.isAgg5
  z5 := Try.sizeOf5
  v5 := Try.zeroValue5
  t9 := Try.underlying9
  a9 := Try.isAgg9
  z9 := Try.sizeOf9
  v9 := Try.zeroValue9
  t22 := Try.underlying54
  a22 := Try.isAgg54
  z22 := Try.sizeOf54
  v22 := Try.zeroValue54
  t25 := Try.underlying57
  a25 := Try.isAgg57
  z25 := Try.sizeOf57
  v25 := Try.zeroValue57
  t39 := Try.underlying67
  a39 := Try.isAgg67
  z39 := Try.sizeOf67
  v39 := Try.zeroValue67
  t45 := Try.underlying77
  a45 := Try.isAgg77
  z45 := Try.sizeOf77
  v45 := Try.zeroValue77
  t46 := Try.underlying78
  a46 := Try.isAgg78
  z46 := Try.sizeOf78
  v46 := Try.zeroValue78
  t50 := Try.underlying61
  a50 := Try.isAgg61
  z50 := Try.sizeOf61
  v50 := Try.zeroValue61
  t53 := Try.underlying84
  a53 := Try.isAgg84
  z53 := Try.sizeOf84
  v53 := Try.zeroValue84
  t55 := Try.underlying27
  a55 := Try.isAgg27
  z55 := Try.sizeOf27
  v55 := Try.zeroValue27
  t66 := Try.underlying88
  a66 := Try.isAgg88
  z66 := Try.sizeOf88
  v66 := Try.zeroValue88
  t70 := Try.underlying92
  a70 := Try.isAgg92
  z70 := Try.sizeOf92
  v70 := Try.zeroValue92
  t76 := Try.underlying94
  a76 := Try.isAgg94
  z76 := Try.sizeOf94
  v76 := Try.zeroValue94
  t77 := Try.underlying95
  a77 := Try.isAgg95
  z77 := Try.sizeOf95
  v77 := Try.zeroValue95 }
theorem compare_enters : ∀ args w, (callFunc 24 args).run Try.prog w = .ok (.enter 24 args) w := enters_of Try.func24 (by kernel_rfl) rfl
theorem cmplays (blk size : Nat) (w : World) : CmpLays Try.prog 24 #[] ic 2 cf blk 0 size w := fun m os dk _ x y =>
  (compare_any x y (sortWorldK ic 2 w blk 0 m dk os)).mono fun _ _ ⟨h1, h2⟩ => ⟨h1, by
    rw [h2]
    exact cpW_grow _ x y⟩
theorem lt_cf (x y : It) : ltOf cf x y = decide (Lt x y) := by
  unfold ltOf
  exact decide_eq_decide.2 (cf_neg x y)
theorem swo : SWO (ltOf cf) := by
  refine ⟨fun x => ?_, fun x y z => ?_, fun x y z => ?_⟩
  · rw [lt_cf]
    exact decide_eq_false (Lt.irrefl x)
  · rw [lt_cf, lt_cf, lt_cf]
    intro h k
    exact decide_eq_true ((of_decide_eq_true h).trans (of_decide_eq_true k))
  · rw [lt_cf, lt_cf, lt_cf]
    intro h k
    exact decide_eq_false ((not_lt (of_decide_eq_false k)).trans (not_lt (of_decide_eq_false h))).not
theorem ic_len (x : It) : (ic x).length = 2 := rfl
theorem flat_irow (l : List It) (j : Nat) (hj : j < l.length * 2) : (irow l)[j]? = some ((flatK ic 2 l.toArray)[j]!) := by
  have hk : j / 2 < l.length := by omega
  have hd : l.toArray[j / 2]! = l[j / 2] := by rw [getElem!_pos _ _ (by simpa using hk)]; simp
  rw [get_flatK _ _ _ _ (by simpa using hj), hd]
  obtain ⟨g0, g1⟩ := irow_get l (j / 2) hk
  by_cases e : j % 2 = 0
  · rw [e]
    rw [show 2 * (j / 2) = j by omega] at g0
    exact g0
  · rw [show j % 2 = 1 by omega]
    rw [show 2 * (j / 2) + 1 = j by omega] at g1
    exact g1
section
variable {w : World} {B : Option Addr} {n d base g : Nat} {l : List It}
theorem holds_own (h : w.ownsRow base 53 2 (.slice (some ⟨g, 0, none⟩) n d) n (irow l)) (hn : l.length = n) : HoldsK ic 2 w g 0 l.toArray := by
  subst hn
  intro j hj
  simp only [size_flatK, List.size_toArray] at hj
  refine ⟨?_, World.ownsRow.frozenAt h _⟩
  rw [Nat.zero_add, World.ownsRow.cellAt h j hj]
  exact flat_irow l j hj
theorem rd_holds (h : HoldsK ic 2 w g 0 l.toArray) (hn : l.length = n) (h1 : n ≤ d) (h2 : d ≤ maxLen) : Rd 2 w (some ⟨g, 0, none⟩) n d (irow l) := by
  subst hn
  refine ⟨irow_len l, fun e => (by cases e), h1, h2, fun ad ha i u hu => ?_⟩
  injection ha with ha
  subst ha
  have hi : i < l.length * 2 := by
    rw [← irow_len]
    exact (List.getElem?_eq_some_iff.1 hu).1
  have h3 := (h i (by simpa using hi)).1
  rw [flat_irow l i hi] at hu
  injection hu with hu
  have e : (⟨g, 0, none⟩ : Addr).add i = ⟨g, i, none⟩ := by unfold Addr.add; split <;> simp_all
  rw [e, ← hu]
  rw [Nat.zero_add] at h3
  exact h3
theorem insnil_any (f : Value) (c : Nat) (w : World) : Calls Try.prog 35 #[.slice none 0 c, .int .i64 0, .int .i64 0, f] w fun e w' => e = .returned (.tuple #[]) ∧ w' = w := by
  go_enter Try.func35, Try.ntmps35
  go_wp2
  refine wp_loop_rounds 1 ?_
  rw [rounds_succ]
  go_wp2
  go_end0
  exact ⟨rfl, rfl⟩
theorem pdqnil_any (f : Value) (c : Nat) (lim : Int) (w : World) : Calls Try.prog 29 #[.slice none 0 c, .int .i64 0, .int .i64 0, .int .i64 lim, f] w fun e w' => e = .returned (.tuple #[]) ∧ w' = w := by
  go_enter Try.func29, Try.ntmps29
  go_wp2
  refine wp_loop_rounds 1 ?_
  rw [rounds_succ]
  go_wp2_with (go_at_call 35; refine (insnil_any f c _).mono ?_; rintro e w1 ⟨rfl, rfl⟩)
  go_returns
  exact ⟨rfl, rfl⟩
theorem sortnil_any (f : Value) (c : Nat) (w : World) : Calls Try.prog 23 #[.slice none 0 c, f] w fun e w' => e = .returned (.tuple #[]) ∧ w' = w := by
  have hl : ∀ W, Calls Try.prog 30 #[.int .u64 0] W fun e w' => e = .returned (.int .i64 (Lib.bitLen 0 : Nat)) ∧ w' = W := fun W =>
    Any.bits_Len (SlLaysF0.n15.bits (P := Try.prog) (ρ := sren) { lays6 with }) 0 W (by omega) (by omega)
  go_enter Try.func23, Try.ntmps23
  go_wp2_with (first | (go_at_call 30; refine (hl _).mono ?_; rintro e w' ⟨rfl, rfl⟩) | (go_at_call 29; refine (pdqnil_any _ _ _ _).mono ?_; rintro e w' ⟨rfl, rfl⟩))
  go_returns
  exact ⟨rfl, rfl⟩
theorem grown_sorted {dk : Array It} {m : Nat} {os : Array Obj} : w.grownBy (sortWorldK ic 2 w g 0 m dk os) (some g) := by
  unfold sortWorldK putRowK
  refine ⟨rfl, rfl, rfl, by simp, fun k hk hne => ?_⟩
  rw [heap_grow_old _ _ (by simpa using hk)]
  have : g ≠ k := fun e => hne (by rw [e])
  simp [putRow, mapBlock, Sort.ahead, Array.getElem?_modify, this]
theorem sorted_le {d0 d1 : Array It} (hp : PermIn 0 d0.size d0 d1) (hs : SortedIn (ltOf cf) 0 d0.size d1) : d1.toList.Perm d0.toList ∧ d1.toList.Pairwise Le := by
  obtain ⟨h1, _, h3⟩ := hp
  rw [Array.extract_eq_self_of_le (by omega), Array.extract_eq_self_of_le (Nat.le_refl _)] at h3
  refine ⟨h3, List.pairwise_iff_getElem.2 fun i j hi hj hij => ?_⟩
  simp only [Array.length_toList] at hi hj
  have h := hs i j (Nat.zero_le _) hij (by omega)
  rw [lt_cf, getElem!_pos d1 i hi, getElem!_pos d1 j hj] at h
  simpa using not_lt (of_decide_eq_false h)
/-- what the sort leaves -/
def SoOut (base : Nat) (w : World) (B : Option Addr) (n d : Nat) (l : List It) (e : Ending) (w' : World) : Prop :=
  e = .returned (.tuple #[]) ∧ ∃ l' : List It, l'.Perm l ∧ l'.Pairwise Le ∧ Rd 2 w' B n d (irow l') ∧ Wd.Fr (B.map (·.block)).toList w w'
theorem sort_at (h : w.ownsRow base 53 2 (.slice B n d) n (irow l)) (hn : l.length = n) (hm : n ≤ 100000) :
    Calls Try.prog 23 #[.slice B n d, .func (.func 24) #[] #[]] w (SoOut base w B n d l) := by
  rcases h.2 with ⟨hv, h0⟩ | ⟨g, cap, cur, hv, hb, hg, hnc, hcm, hcs, ht⟩
  · injection hv with h1 h2 h3
    subst h1 h2 h3
    have hl : l = [] := List.eq_nil_of_length_eq_zero hn
    subst hl
    refine (sortnil_any _ 0 w).mono ?_
    rintro e w' ⟨rfl, rfl⟩
    exact ⟨rfl, [], List.Perm.refl _, List.Pairwise.nil, Rd.nil 2 _, Fr.refl _ _⟩
  · injection hv with h1 h2 h3
    subst h1 h3
    have hH := holds_own h hn
    have hlt : g < w.heap.size := (h.lt g rfl).2
    have hs := AnyQ.slices_SortFunc lays6 2 (fun w => by kernel_rfl) (fun w => by kernel_rfl) ic ic_len ic_one cf swo 24 #[] g 0 d l.toArray w compare_enters (cmplays g _ w) hH hlt (by rw [List.size_toArray, hn]; omega)
    rw [List.size_toArray, hn] at hs
    refine hs.mono ?_
    rintro e w' ⟨rfl, d', m, os, hp, hso, rfl⟩
    have hsz : d'.size = n := by rw [hp.1, List.size_toArray, hn]
    obtain ⟨p1, p2⟩ := sorted_le (d0 := l.toArray) (by rw [List.size_toArray, hn]; exact hp) (by rw [List.size_toArray, hn]; exact hso)
    refine ⟨rfl, d'.toList, p1, p2, ?_, ?_⟩
    · refine rd_holds ?_ (by simpa using hsz) hnc hcm
      have := holdsK_sortWorldK_c ic 2 w g 0 l.toArray d' m os hH hlt (by rw [hsz, List.size_toArray, hn])
      simpa using this
    · exact Fr.of_grown grown_sorted fun k hk => by injection hk with hk; subst hk; simp
end
end Go.Proofs.Ytephbjomplmkgaa.U12
