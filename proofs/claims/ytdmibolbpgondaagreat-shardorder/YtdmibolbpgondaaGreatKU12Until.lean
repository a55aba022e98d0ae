/-
  until: what is gone through is added to a row of the call's own.
  slices.SortFunc at the items (its layings written by gen12/sort.py).
  Slices of items, of the program's or the document's type: what is read of them, cut from them.
  Until of the queue.
-/
import Derived.Test.YtdmibolbpgondaaGreatKU12Put
import Derived.Shelf.SlLaysF0
import Derived.Shelf.SlSortCmp.WholeK
import Derived.Test.YtdmibolbpgondaaGreatKU12Due
import Derived.Laws.MakeOwn
section
set_option linter.unusedSimpArgs false
set_option linter.unusedVariables false
namespace Go.Proofs.YtdmibolbpgondaaGreat.U12
open Go.RowKit Go.Lib Go.Maps Go.Proofs.YtdmibolbpgondaaGreat.Wd

section
variable {w0 w w' : World} {p c b N base : Nat} {A : Option Addr} {K : Nat → It} {D : DataW Unit}
theorem ic_one (x : It) : ∀ u ∈ ic x, u.oneCell' = true := by
  intro u hu
  unfold ic at hu
  simp only [List.mem_cons, List.not_mem_nil, or_false] at hu
  rcases hu with rfl | rfl <;> rfl
theorem lit_rd (w : World) (e : TypeId) (x : It) : Rd 2 (w.alloc (.cells #[.int .u64 (x.1 : Int), .int .u64 (x.2 : Int)] e)) (some ⟨w.heap.size, 0, none⟩) 1 1 (ic x) :=
  Rd.own (base := 0) (World.ownsRow_lit (base := 0) (e := e) (size := 2) w #[.int .u64 (x.1 : Int), .int .u64 (x.2 : Int)] 1 (Nat.zero_le _) (by unfold maxLen; omega) rfl)
/-- what until tells -/
def UnOut (base : Nat) (w : World) (l : List It) (e : Ending) (w' : World) : Prop :=
  ∃ B n d, e = .returned (.slice B n d) ∧ l.length = n ∧ w'.ownsRow base 132 2 (.slice B n d) n (irow l) ∧ Below base w w'
theorem UnOut.of {B : Option Addr} {n d : Nat} {l : List It} (hn : l.length = n) (ho : w'.ownsRow base 132 2 (.slice B n d) n (irow l)) (hb : Below base w w') : UnOut base w l (.returned (.slice B n d)) w' := ⟨B, n, d, rfl, hn, ho, hb⟩
theorem Im.above (h : Im w p A c b N K D) (ho : ∀ x ∈ own p A b, x < base) (hb : Below base w w') : Im w' p A c b N K D := h.same fun x hx => hb.block x (ho x hx)
set_option maxRecDepth 20000 in
set_option maxHeartbeats 2000000 in
theorem until_at (t : Nat) (ht : (t : Int) ≤ 18446744073709551615) : ∀ (f i : Nat) (B : Option Addr) (n d : Nat) (l : List It) (w : World), N - i ≤ f → Im w p A c b N K D → (∀ x ∈ own p A b, x < base) → base ≤ w.heap.size →
    w.ownsRow base 132 2 (.slice B n d) n (irow l) → l.length = n → l.length + (ul K N t f i).length ≤ 100000 → i ≤ 100000 →
    Calls Tryz.prog 62 #[.pointer (some ⟨p, 0, none⟩), .slice B n d, .int .i64 (i : Int), .int .u64 (t : Int)] w (UnOut base w (l ++ ul K N t f i)) := by
  intro f
  induction f with
  | zero =>
    intro i B n d l w hf h ho hbs hown hn hlen hi
    have hout := Lib.hid (show UnOut base w (l ++ ul K N t 0 i) (.returned (.slice B n d)) w from by
      rw [ul_out (.inl (by omega)), List.append_nil]
      exact UnOut.of hn hown (Below.refl _ _))
    have c0 := h.c0
    have hN := h.few
    have hge : (N : Int) ≤ (i : Int) := by omega
    clear h ho hown hlen hn
    go_enter Tryz.func62, Tryz.ntmps62
    go_wp2
    go_ret
    exact hout.out
  | succ f ih =>
    intro i B n d l w hf h ho hbs hown hn hlen hi
    have c0 := h.c0
    have hN := h.few
    by_cases hge : N ≤ i
    · have hout := Lib.hid (show UnOut base w (l ++ ul K N t (f + 1) i) (.returned (.slice B n d)) w from by
        rw [ul_out (.inl hge), List.append_nil]
        exact UnOut.of hn hown (Below.refl _ _))
      have hge : (N : Int) ≤ (i : Int) := by omega
      clear h ho hown hlen hn ih
      go_enter Tryz.func62, Tryz.ntmps62
      go_wp2
      go_ret
      exact hout.out
    · obtain ⟨g, rfl, i0, i1, _, hc, _⟩ := h.get (by omega : i < N)
      have y2 : (0 : Int) ≤ (i : Int) := by omega
      have y3 : ((i : Int)).toNat = i := by omega
      have y4 : ¬ (N : Int) ≤ (i : Int) := by omega
      by_cases hgt : t < (K i).2
      · have hout := Lib.hid (show UnOut base w (l ++ ul K N t (f + 1) i) (.returned (.slice B n d)) w from by
          rw [ul_out (.inr hgt), List.append_nil]
          exact UnOut.of hn hown (Below.refl _ _))
        have y5 : (t : Int) < ((K i).2 : Int) := by omega
        clear h ho hown hlen hn ih hge hgt
        generalize ((K i).1 : Int) = a0 at *
        generalize ((K i).2 : Int) = a1 at *
        go_enter Tryz.func62, Tryz.ntmps62
        go_wp2
        go_ret
        exact hout.out
      · have e := ul_in (f := f) (show ¬ (N ≤ i ∨ t < (K i).2) by omega)
        have y5 : ¬ (t : Int) < ((K i).2 : Int) := by omega
        obtain ⟨j1, hj1⟩ : ∃ j1, 2 * i + 1 = j1 := ⟨_, rfl⟩
        obtain ⟨j2, hj2⟩ : ∃ j2, 2 * i + 2 = j2 := ⟨_, rfl⟩
        have e1 : 2 * (i : Int) + 1 = (j1 : Int) := by omega
        have e2 : 2 * (i : Int) + 2 = (j2 : Int) := by omega
        rw [e, hj1, hj2] at hlen
        rw [e, hj1, hj2]
        have hj : N - j1 ≤ f ∧ N - j2 ≤ f ∧ j1 ≤ 100000 ∧ j2 ≤ 100000 := by omega
        simp only [List.length_cons, List.length_append] at hlen
        have bl : Below base w (w.alloc (.cells #[.int .u64 ((K i).1 : Int), .int .u64 ((K i).2 : Int)] 132)) := (Below.refl _ _).alloc hbs _
        have hown2 := own_below hown ((Below.refl w.heap.size w).alloc (Nat.le_refl _) (.cells #[.int .u64 ((K i).1 : Int), .int .u64 ((K i).2 : Int)] 132))
        have hlit := lit_rd w 132 (K i)
        have hic := ic_one (K i)
        have HI := Lib.hid ih
        have HM := Lib.hid h
        have HO := Lib.hid ho
        have HBL := Lib.hid bl
        have HLN := Lib.hid hlen
        have hsz : (w.alloc (.cells #[.int .u64 ((K i).1 : Int), .int .u64 ((K i).2 : Int)] 132)).heap.size = w.heap.size + 1 := by simp
        obtain ⟨i0', hi0, hz0, hz1, hz2⟩ := info_of item_info
        have d1 : n + 1 ≤ maxLen := by unfold maxLen; omega
        have d2 : (n + 1) * 16 ≤ 140737488355328 := by omega
        have d3 : base ≤ (w.alloc (.cells #[.int .u64 ((K i).1 : Int), .int .u64 ((K i).2 : Int)] 132)).heap.size := by omega
        clear h ho hown hlen ih hge hgt e bl hj1 hj2
        go_enter Tryz.func62, Tryz.ntmps62
        go_wp2_with (at_builtin; refine wpList_append_rd _ rfl (.tmp 29) (.tmp 37) 126 rfl base 132 i0' _ 2 16 Tryz.underlying126 hi0 hz0 hz1 hz2 rfl (by decide) (.slice B n d) n (irow l) rfl hown2 (some ⟨w.heap.size, 0, none⟩) 1 1 (ic (K i)) rfl hlit hic d1 d2 d3 ?_)
        intro B1 d1' w1 hown1 hg1
        have HW := Lib.hid (show w1.ownsRow base 132 2 (.slice B1 (n + 1) d1') (n + 1) (irow (l ++ [K i])) from by rw [irow_app]; exact hown1)
        have hb1 : Below base w w1 := HBL.out.grown hg1 d3 (fun k hk => (hown2.lt k hk).1)
        have h1 := HM.out.above HO.out hb1
        have hs1 : base ≤ w1.heap.size := Nat.le_trans hbs hb1.size
        have hc1 := HI.out j1 B1 (n + 1) d1' (l ++ [K i]) w1 hj.1 h1 HO.out hs1 HW.out (by simp [hn]) (by have := HLN.out; simp; omega) hj.2.2.1
        have HB1 := Lib.hid hb1
        clear hown1 hg1 hown2 hlit hic h1 hb1 HBL d1 d2 d3 hsz HW c0 i0 i1
        go_wp2_with fail
        refine hc1.mono ?_
        rintro e w2 ⟨B2, n2, d2, rfl, hn2, hown2, hb2⟩
        have hb3 := HB1.out.trans hb2
        have h2 := HM.out.above HO.out hb3
        have hc2 := HI.out j2 B2 n2 d2 _ w2 hj.2.1 h2 HO.out (Nat.le_trans hbs hb3.size) hown2 hn2 (by have := HLN.out; simp; omega) hj.2.2.2
        have HB2 := Lib.hid hb3
        clear hc1 h2 hb2 hb3 hown2 HB1
        go_wp2_with fail
        refine hc2.mono ?_
        rintro e w3 ⟨B3, n3, d3, rfl, hn3, hown3, hb4⟩
        have hout := Lib.hid (show UnOut base w (l ++ K i :: (ul K N t f j1 ++ ul K N t f j2)) (.returned (.slice B3 n3 d3)) w3 from by
          have e : l ++ K i :: (ul K N t f j1 ++ ul K N t f j2) = l ++ [K i] ++ ul K N t f j1 ++ ul K N t f j2 := by simp
          rw [e]
          exact UnOut.of hn3 hown3 (HB2.out.trans hb4))
        clear hc2 hn3 hown3 hb4 HB2
        go_wp2
        go_ret
        exact hout.out
end
end Go.Proofs.YtdmibolbpgondaaGreat.U12
end

section
set_option linter.unusedSimpArgs false
set_option linter.unusedVariables false
namespace Go.Proofs.YtdmibolbpgondaaGreat.U12
open Go.Shelf Go.RowKit Go.Lib Go.Maps Go.Sort Go.Proofs.YtdmibolbpgondaaGreat.Wd

def sren : Go.Shelf.Ren := ⟨fun | 6 => 63 | 14 => 80 | 15 => 81 | 20 => 97 | 21 => 98 | 22 => 99 | 23 => 100 | 24 => 101 | 25 => 102 | 26 => 103 | 27 => 104 | 28 => 105 | 29 => 106 | 46 => 132 | 47 => 133 | 48 => 134 | 49 => 135 | 50 => 136 | 57 => 145 | n => n, fun | 0 => 0 | 3 => 3 | 4 => 4 | 5 => 5 | 9 => 9 | 22 => 126 | 24 => 132 | 25 => 133 | 39 => 151 | 45 => 167 | 46 => 168 | 50 => 135 | 53 => 174 | 55 => 22 | 66 => 195 | 70 => 198 | 76 => 207 | 77 => 62 | n => n, fun n => n⟩
theorem lays6 : SlLaysF0.n6 Tryz.prog sren := {
  mixed := by kernel_rfl
  f6 := ⟨Tryz.f63.name, by kernel_rfl, Tryz.func63.trans (congrArg some (by kernel_rfl))⟩
  f14 := ⟨Tryz.f80.name, by kernel_rfl, Tryz.func80.trans (congrArg some (by kernel_rfl))⟩
  f15 := Tryz.func81.trans (congrArg some (by kernel_rfl))
  f20 := ⟨Tryz.f97.name, by kernel_rfl, Tryz.func97.trans (congrArg some (by kernel_rfl))⟩
  f21 := ⟨Tryz.f98.name, by kernel_rfl, Tryz.func98.trans (congrArg some (by kernel_rfl))⟩
  f22 := ⟨Tryz.f99.name, by kernel_rfl, Tryz.func99.trans (congrArg some (by kernel_rfl))⟩
  f23 := ⟨Tryz.f100.name, by kernel_rfl, Tryz.func100.trans (congrArg some (by kernel_rfl))⟩
  f24 := ⟨Tryz.f101.name, by kernel_rfl, Tryz.func101.trans (congrArg some (by kernel_rfl))⟩
  f25 := ⟨Tryz.f102.name, by kernel_rfl, Tryz.func102.trans (congrArg some (by kernel_rfl))⟩
  f26 := ⟨Tryz.f103.name, by kernel_rfl, Tryz.func103.trans (congrArg some (by kernel_rfl))⟩
  f27 := ⟨Tryz.f104.name, by kernel_rfl, Tryz.func104.trans (congrArg some (by kernel_rfl))⟩
  f28 := Tryz.func105.trans (congrArg some (by kernel_rfl))
  f29 := Tryz.func106.trans (congrArg some (by kernel_rfl))
  f46 := ⟨Tryz.f132.name, by kernel_rfl, Tryz.func132.trans (congrArg some (by kernel_rfl))⟩
  f47 := Tryz.func133.trans (congrArg some (by kernel_rfl))
  f48 := Tryz.func134.trans (congrArg some (by kernel_rfl))
  f49 := ⟨Tryz.f135.name, by kernel_rfl, Tryz.func135.trans (congrArg some (by kernel_rfl))⟩
  f50 := ⟨Tryz.f136.name, by kernel_rfl, Tryz.func136.trans (congrArg some (by kernel_rfl))⟩
  f57 := ⟨Tryz.f145.name, by kernel_rfl, Tryz.func145.trans (congrArg some (by kernel_rfl))⟩
  t0 := Tryz.underlying0
  a0 := Tryz.isAgg0
  z0 := Tryz.sizeOf0
  v0 := Tryz.zeroValue0
  t3 := Tryz.underlying3
  a3 := Tryz.isAgg3
  z3 := Tryz.sizeOf3
  v3 := Tryz.zeroValue3
  t4 := Tryz.underlying4
  a4 := Tryz.isAgg4
  z4 := Tryz.sizeOf4
  v4 := Tryz.zeroValue4
  t5 := Tryz.underlying5
  a5 := Tryz.isAgg5
  z5 := Tryz.sizeOf5
  v5 := Tryz.zeroValue5
  t9 := Tryz.underlying9
  a9 := Tryz.isAgg9
  z9 := Tryz.sizeOf9
  v9 := Tryz.zeroValue9
  t22 := Tryz.underlying126
  a22 := Tryz.isAgg126
  z22 := Tryz.sizeOf126
  v22 := Tryz.zeroValue126
  t25 := Tryz.underlying133
  a25 := Tryz.isAgg133
  z25 := Tryz.sizeOf133
  v25 := Tryz.zeroValue133
  t39 := Tryz.underlying151
  a39 := Tryz.isAgg151
  z39 := Tryz.sizeOf151
  v39 := Tryz.zeroValue151
  t45 := Tryz.underlying167
  a45 := Tryz.isAgg167
  z45 := Tryz.sizeOf167
  v45 := Tryz.zeroValue167
  t46 := Tryz.underlying168
  a46 := Tryz.isAgg168
  z46 := Tryz.sizeOf168
  v46 := Tryz.zeroValue168
  t50 := Tryz.underlying135
  a50 := Tryz.isAgg135
  z50 := Tryz.sizeOf135
  v50 := Tryz.zeroValue135
  t53 := Tryz.underlying174
  a53 := Tryz.isAgg174
  z53 := Tryz.sizeOf174
  v53 := Tryz.zeroValue174
  t55 := Tryz.underlying22
  a55 := Tryz.isAgg22
  z55 := Tryz.sizeOf22
  v55 := Tryz.zeroValue22
  t66 := Tryz.underlying195
  a66 := Tryz.isAgg195
  z66 := Tryz.sizeOf195
  v66 := Tryz.zeroValue195
  t70 := Tryz.underlying198
  a70 := Tryz.isAgg198
  z70 := Tryz.sizeOf198
  v70 := Tryz.zeroValue198
  t76 := Tryz.underlying207
  a76 := Tryz.isAgg207
  z76 := Tryz.sizeOf207
  v76 := Tryz.zeroValue207
  t77 := Tryz.underlying62
  a77 := Tryz.isAgg62
  z77 := Tryz.sizeOf62
  v77 := Tryz.zeroValue62 }
theorem compare_enters : ∀ args w, (callFunc 64 args).run Tryz.prog w = .ok (.enter 64 args) w := enters_of Tryz.func64 (by kernel_rfl) rfl
theorem cmplays (blk size : Nat) (w : World) : CmpLays Tryz.prog 64 #[] ic 2 cf blk 0 size w := fun m os dk _ x y =>
  (compare_any x y (sortWorldK ic 2 w blk 0 m dk os)).mono fun _ _ ⟨h1, h2⟩ => ⟨h1, by
    rw [h2]
    exact cpW_grow _ x y⟩
theorem lt_cf (x y : It) : ltOf cf x y = decide (Lt x y) := by
  unfold ltOf
  exact decide_eq_decide.2 (cf_neg x y)
theorem swo : SWO (ltOf cf) := by
  refine ⟨fun x => ?_, fun x y z => ?_, fun x y z => ?_⟩
  · rw [lt_cf]
    exact decide_eq_false (Lt.irrefl x)
  · rw [lt_cf, lt_cf, lt_cf]
    intro h k
    exact decide_eq_true ((of_decide_eq_true h).trans (of_decide_eq_true k))
  · rw [lt_cf, lt_cf, lt_cf]
    intro h k
    exact decide_eq_false ((not_lt (of_decide_eq_false k)).trans (not_lt (of_decide_eq_false h))).not
theorem ic_len (x : It) : (ic x).length = 2 := rfl
theorem flat_irow (l : List It) (j : Nat) (hj : j < l.length * 2) : (irow l)[j]? = some ((flatK ic 2 l.toArray)[j]!) := by
  have hk : j / 2 < l.length := by omega
  have hd : l.toArray[j / 2]! = l[j / 2] := by rw [getElem!_pos _ _ (by simpa using hk)]; simp
  rw [get_flatK _ _ _ _ (by simpa using hj), hd]
  obtain ⟨g0, g1⟩ := irow_get l (j / 2) hk
  by_cases e : j % 2 = 0
  · rw [e]
    rw [show 2 * (j / 2) = j by omega] at g0
    exact g0
  · rw [show j % 2 = 1 by omega]
    rw [show 2 * (j / 2) + 1 = j by omega] at g1
    exact g1
section
variable {w : World} {B : Option Addr} {n d base g : Nat} {l : List It}
theorem holds_own (h : w.ownsRow base 132 2 (.slice (some ⟨g, 0, none⟩) n d) n (irow l)) (hn : l.length = n) : HoldsK ic 2 w g 0 l.toArray := by
  subst hn
  intro j hj
  simp only [size_flatK, List.size_toArray] at hj
  refine ⟨?_, World.ownsRow.frozenAt h _⟩
  rw [Nat.zero_add, World.ownsRow.cellAt h j hj]
  exact flat_irow l j hj
theorem rd_holds (h : HoldsK ic 2 w g 0 l.toArray) (hn : l.length = n) (h1 : n ≤ d) (h2 : d ≤ maxLen) : Rd 2 w (some ⟨g, 0, none⟩) n d (irow l) := by
  subst hn
  refine ⟨irow_len l, fun e => (by cases e), h1, h2, fun ad ha i u hu => ?_⟩
  injection ha with ha
  subst ha
  have hi : i < l.length * 2 := by
    rw [← irow_len]
    exact (List.getElem?_eq_some_iff.1 hu).1
  have h3 := (h i (by simpa using hi)).1
  rw [flat_irow l i hi] at hu
  injection hu with hu
  have e : (⟨g, 0, none⟩ : Addr).add i = ⟨g, i, none⟩ := by unfold Addr.add; split <;> simp_all
  rw [e, ← hu]
  rw [Nat.zero_add] at h3
  exact h3
theorem insnil_any (f : Value) (c : Nat) (w : World) : Calls Tryz.prog 97 #[.slice none 0 c, .int .i64 0, .int .i64 0, f] w fun e w' => e = .returned (.tuple #[]) ∧ w' = w := by
  go_enter Tryz.func97, Tryz.ntmps97
  go_wp2
  refine wp_loop_rounds 1 ?_
  rw [rounds_succ]
  go_wp2
  go_end0
  exact ⟨rfl, rfl⟩
theorem pdqnil_any (f : Value) (c : Nat) (lim : Int) (w : World) : Calls Tryz.prog 80 #[.slice none 0 c, .int .i64 0, .int .i64 0, .int .i64 lim, f] w fun e w' => e = .returned (.tuple #[]) ∧ w' = w := by
  go_enter Tryz.func80, Tryz.ntmps80
  go_wp2
  refine wp_loop_rounds 1 ?_
  rw [rounds_succ]
  go_wp2_with (go_at_call 97; refine (insnil_any f c _).mono ?_; rintro e w1 ⟨rfl, rfl⟩)
  go_returns
  exact ⟨rfl, rfl⟩
theorem sortnil_any (f : Value) (c : Nat) (w : World) : Calls Tryz.prog 63 #[.slice none 0 c, f] w fun e w' => e = .returned (.tuple #[]) ∧ w' = w := by
  have hl : ∀ W, Calls Tryz.prog 81 #[.int .u64 0] W fun e w' => e = .returned (.int .i64 (Lib.bitLen 0 : Nat)) ∧ w' = W := fun W =>
    Any.bits_Len (SlLaysF0.n15.bits (P := Tryz.prog) (ρ := sren) { lays6 with }) 0 W (by omega) (by omega)
  go_enter Tryz.func63, Tryz.ntmps63
  go_wp2_with (first | (go_at_call 81; refine (hl _).mono ?_; rintro e w' ⟨rfl, rfl⟩) | (go_at_call 80; refine (pdqnil_any _ _ _ _).mono ?_; rintro e w' ⟨rfl, rfl⟩))
  go_returns
  exact ⟨rfl, rfl⟩
theorem grown_sorted {dk : Array It} {m : Nat} {os : Array Obj} : w.grownBy (sortWorldK ic 2 w g 0 m dk os) (some g) := by
  unfold sortWorldK putRowK
  refine ⟨rfl, rfl, rfl, by simp, fun k hk hne => ?_⟩
  rw [heap_grow_old _ _ (by simpa using hk)]
  have : g ≠ k := fun e => hne (by rw [e])
  simp [putRow, mapBlock, Sort.ahead, Array.getElem?_modify, this]
theorem sorted_le {d0 d1 : Array It} (hp : PermIn 0 d0.size d0 d1) (hs : SortedIn (ltOf cf) 0 d0.size d1) : d1.toList.Perm d0.toList ∧ d1.toList.Pairwise Le := by
  obtain ⟨h1, _, h3⟩ := hp
  rw [Array.extract_eq_self_of_le (by omega), Array.extract_eq_self_of_le (Nat.le_refl _)] at h3
  refine ⟨h3, List.pairwise_iff_getElem.2 fun i j hi hj hij => ?_⟩
  simp only [Array.length_toList] at hi hj
  have h := hs i j (Nat.zero_le _) hij (by omega)
  rw [lt_cf, getElem!_pos d1 i hi, getElem!_pos d1 j hj] at h
  simpa using not_lt (of_decide_eq_false h)
/-- what the sort leaves -/
def SoOut (base : Nat) (w : World) (B : Option Addr) (n d : Nat) (l : List It) (e : Ending) (w' : World) : Prop :=
  e = .returned (.tuple #[]) ∧ ∃ l' : List It, l'.Perm l ∧ l'.Pairwise Le ∧ Rd 2 w' B n d (irow l') ∧ Wd.Fr (B.map (·.block)).toList w w'
theorem sort_at (h : w.ownsRow base 132 2 (.slice B n d) n (irow l)) (hn : l.length = n) (hm : n ≤ 100000) :
    Calls Tryz.prog 63 #[.slice B n d, .func (.func 64) #[] #[]] w (SoOut base w B n d l) := by
  rcases h.2 with ⟨hv, h0⟩ | ⟨g, cap, cur, hv, hb, hg, hnc, hcm, hcs, ht⟩
  · injection hv with h1 h2 h3
    subst h1 h2 h3
    have hl : l = [] := List.eq_nil_of_length_eq_zero hn
    subst hl
    refine (sortnil_any _ 0 w).mono ?_
    rintro e w' ⟨rfl, rfl⟩
    exact ⟨rfl, [], List.Perm.refl _, List.Pairwise.nil, Rd.nil 2 _, Fr.refl _ _⟩
  · injection hv with h1 h2 h3
    subst h1 h3
    have hH := holds_own h hn
    have hlt : g < w.heap.size := (h.lt g rfl).2
    have hs := AnyQ.slices_SortFunc lays6 2 (fun w => by kernel_rfl) (fun w => by kernel_rfl) ic ic_len ic_one cf swo 64 #[] g 0 d l.toArray w compare_enters (cmplays g _ w) hH hlt (by rw [List.size_toArray, hn]; omega)
    rw [List.size_toArray, hn] at hs
    refine hs.mono ?_
    rintro e w' ⟨rfl, d', m, os, hp, hso, rfl⟩
    have hsz : d'.size = n := by rw [hp.1, List.size_toArray, hn]
    obtain ⟨p1, p2⟩ := sorted_le (d0 := l.toArray) (by rw [List.size_toArray, hn]; exact hp) (by rw [List.size_toArray, hn]; exact hso)
    refine ⟨rfl, d'.toList, p1, p2, ?_, ?_⟩
    · refine rd_holds ?_ (by simpa using hsz) hnc hcm
      have := holdsK_sortWorldK_c ic 2 w g 0 l.toArray d' m os hH hlt (by rw [hsz, List.size_toArray, hn])
      simpa using this
    · exact Fr.of_grown grown_sorted fun k hk => by injection hk with hk; subst hk; simp
end
end Go.Proofs.YtdmibolbpgondaaGreat.U12
end

section
set_option linter.unusedSimpArgs false
set_option linter.unusedVariables false
namespace Go.Proofs.YtdmibolbpgondaaGreat.U12
open Go.RowKit Go.Lib Go.Maps Go.Proofs.YtdmibolbpgondaaGreat.Wd

def Its (w : World) (A : Option Addr) (c : Nat) (l : List It) : Prop := Rd 2 w A l.length c (irow l)
section
variable {w w' : World} {A : Option Addr} {c : Nat} {l : List It}
theorem Its.below (h : Its w A c l) (hb : Below w.heap.size w w') : Its w' A c l := Rd.below h hb
theorem Its.drew (h : Its w A c l) : Its w.drew A c l := Rd.drew h
theorem Its.nil (w : World) : Its w none 0 [] := Rd.nil 2 w
theorem Its.get (h : Its w A c l) {k : Nat} (hk : k < l.length) : ∃ ad p, A = some ad ∧ ad.add (k * 2) = p ∧ w.cell? p = some (.int .u64 (l[k].1 : Int)) ∧ w.cell? ⟨p.block, p.off + 1, none⟩ = some (.int .u64 (l[k].2 : Int)) := by
  cases hA : A with
  | none => have := h.none_ hA; omega
  | some ad =>
    obtain ⟨g0, g1⟩ := irow_get l k hk
    rw [Nat.mul_comm] at g0 g1
    have e : (⟨(ad.add (k * 2)).block, (ad.add (k * 2)).off + 1, none⟩ : Addr) = ad.add (k * 2 + 1) := by
      unfold Addr.add
      by_cases h0 : k * 2 = 0
      · simp [h0]
      · simp [h0, Nat.add_assoc]
    exact ⟨ad, _, rfl, rfl, h.at_ ad hA (k * 2) _ g0, by rw [e]; exact h.at_ ad hA (k * 2 + 1) _ g1⟩
theorem Its.take (h : Its w A c l) (k : Nat) (hk : k ≤ l.length) : Its w A c (l.take k) := by
  have hl : (l.take k).length = k := by simp; omega
  unfold Its
  rw [hl]
  refine ⟨by rw [irow_len, hl], fun ha => ⟨by have := (h.none_ ha).1; omega, (h.none_ ha).2⟩, Nat.le_trans hk h.cap, h.max, fun ad ha i u hu => ?_⟩
  refine h.at_ ad ha i u ?_
  have e : irow l = irow (l.take k) ++ irow (l.drop k) := by rw [← irow_app, List.take_append_drop]
  rw [e, List.getElem?_append_left (List.getElem?_eq_some_iff.1 hu).1]
  exact hu
/-- where 's[k:]' begins -/
def cut2 (A : Option Addr) (c k : Nat) : Option Addr := if c = k then A else A.map (·.add (k * 2))
theorem Its.drop (h : Its w A c l) (k : Nat) (hk : k ≤ l.length) : Its w (cut2 A c k) (c - k) (l.drop k) := by
  have hc := h.cap
  have hm := h.max
  refine ⟨by rw [irow_len], fun ha => ?_, by simp; omega, by omega, fun ad ha i u hu => ?_⟩
  · unfold cut2 at ha
    split at ha
    · rename_i hck
      exact ⟨by simp; omega, by omega⟩
    · simp only [Option.map_eq_none_iff] at ha
      have := h.none_ ha
      exact ⟨by simp; omega, by omega⟩
  · have hi := (List.getElem?_eq_some_iff.1 hu).1
    rw [irow_len, List.length_drop] at hi
    unfold cut2 at ha
    rw [if_neg (by omega)] at ha
    cases hA : A with
    | none => rw [hA] at ha; cases ha
    | some a0 =>
      rw [hA] at ha
      simp only [Option.map_some, Option.some.injEq] at ha
      subst ha
      rw [add_add]
      refine h.at_ a0 hA (k * 2 + i) _ ?_
      have e : irow l = irow (l.take k) ++ irow (l.drop k) := by rw [← irow_app, List.take_append_drop]
      have e2 : (irow (l.take k)).length = k * 2 := by rw [irow_len]; simp; omega
      rw [e, List.getElem?_append_right (by omega), e2, show k * 2 + i - k * 2 = i by omega]
      exact hu
end
end Go.Proofs.YtdmibolbpgondaaGreat.U12
end

section
set_option linter.unusedSimpArgs false
set_option linter.unusedVariables false
namespace Go.Proofs.YtdmibolbpgondaaGreat.U12
open Go.RowKit Go.Lib Go.Maps Go.Proofs.YtdmibolbpgondaaGreat.Wd

/-- 'make' of m elements, the length spelled as the walk spells it -/
theorem make_n {t e : TypeId} {i : TypeInfo} {z : Value} (ht : Tryz.prog.underlying t = some (.slice e)) (hi : Tryz.prog.info? e = some i) (hz : i.zero = some z) (m : Nat) (hm : m ≤ 100000) (hb : i.bytes ≤ 1000) (X : Int) (hX : (m : Int) = X) (W : World) :
    (Instr.makeSlice t (.int .i64 X) (.int .i64 X)).run Tryz.prog W = .ok (.slice (some ⟨W.heap.size, 0, none⟩) m m) (W.alloc (.cells (madeCells z.cells (m * i.size)) e)) := by
  subst hX
  have few : i.bytes * m ≤ 1000 * 100000 := Nat.mul_le_mul hb hm
  have few2 : (i.bytes : Int) * (m : Int) ≤ 281474976710656 := by
    rw [← Int.natCast_mul]
    omega
  simpa using run_make (P := Tryz.prog) W t e i z ht hi hz .i64 .i64 m m (by omega) (by omega) few2 (by omega)
theorem u64_info : (Tryz.prog.info? 22).map (fun i => (i.zero, i.size, i.bytes)) = some (some (.int .u64 0), 1, 8) := by kernel_rfl
def zrow (n : Nat) : Obj := .cells (madeCells #[.int .u64 0] (n * 1)) 22
theorem make_ids (n : Nat) (hn : n ≤ 100000) (W : World) : (Instr.makeSlice 57 (.int .i64 (n : Int)) (.int .i64 (n : Int))).run Tryz.prog W = .ok (.slice (some ⟨W.heap.size, 0, none⟩) n n) (W.alloc (zrow n)) := by
  obtain ⟨i0, hi, hz0, hz1, hz2⟩ := info_of u64_info
  have := make_n (t := 57) (e := 22) Tryz.underlying57 hi hz0 n hn (by omega) _ rfl W
  rw [hz1] at this
  exact this
/-- a number's cell -/
def uc (x : Nat) : Value := .int .u64 (x : Int)
/-- the ids told so far, the rest 0 -/
def fill (ids : List Nat) (k : Nat) : List Value := (ids.take k).map uc ++ List.replicate (ids.length - k) (.int .u64 0)
theorem fill_step (ids : List Nat) (k : Nat) (h : k < ids.length) : (fill ids k).set k (uc ids[k]) = fill ids (k + 1) := by
  unfold fill
  have e1 : ids.length - k = (ids.length - (k + 1)) + 1 := by omega
  have e2 : ((ids.take k).map uc).length = k := by simp; omega
  rw [e1, List.replicate_succ, List.set_append_right _ _ (by omega), e2, Nat.sub_self, List.set_cons_zero, List.take_succ_eq_append_getElem h, List.map_append, List.append_assoc]
  rfl
theorem fill_start (ids : List Nat) (n : Nat) (h : ids.length = n) (hm : n ≤ 100000) (w : World) : (w.alloc (zrow n)).ownsRow w.heap.size 22 1 (.slice (some ⟨w.heap.size, 0, none⟩) n n) n (fill ids 0) := by
  have h1 := World.ownsRow_lit (base := w.heap.size) (e := 22) (size := 1) w (madeCells #[.int .u64 0] (n * 1)) n (Nat.le_refl _) (by unfold maxLen; omega) (by simp [madeCells])
  rw [toList_madeCells_one, Nat.mul_one] at h1
  unfold fill
  simpa [h, zrow] using h1
theorem fill_end (ids : List Nat) : fill ids ids.length = ids.map uc := by unfold fill; simp
/-- what Until tells -/
def UtOut (w : World) (ids : List Nat) (e : Ending) (w' : World) : Prop := ∃ U d, e = .returned (.slice U ids.length d) ∧ Us w' U d ids ∧ Below w.heap.size w w' ∧ ∀ a, U = some a → w.heap.size ≤ a.block ∧ a.block < w'.heap.size
section
variable {w w' : World} {q : Nat} {o : List Nat} {m : List It}
set_option maxRecDepth 20000 in
set_option maxHeartbeats 2000000 in
theorem qunt_core (t n p : Nat) (qv : Value) (v : World) (ha : Calls Tryz.prog 61 #[qv] v fun e w' => e = .returned (.pointer (some ⟨p, 0, none⟩)) ∧ w = w') (h : Ob w p o m) (ht : (t : Int) ≤ 18446744073709551615) (hn : ((due m t).map (·.1)).length = n) :
    Calls Tryz.prog 43 #[qv, .int .u64 (t : Int)] v (UtOut w ((due m t).map (·.1))) := by
  have hnum := h.num
  obtain ⟨A, c, b, N, K, D, h1, hP, hH, hM, rfl⟩ := h
  have hlen := ul_len (t := t) hM hH (f := N) (Nat.le_refl _)
  have hperm := ul_perm (t := t) hM hH (f := N) (Nat.le_refl _)
  have hN := h1.few
  have hu := until_at (base := w.heap.size) t ht N 0 none 0 0 [] w (by omega) h1 h1.lt (Nat.le_refl _) (World.ownsRow_nil _ _ _ _) rfl (by simp; omega) (by omega)
  rw [List.nil_append] at hu
  have HE := Lib.hid (show ∀ l' : List It, l'.Perm (ul K N t N 0) → l'.Pairwise Le → l' = due m t from fun l' p1 p2 => sorted_one _ _ (p1.trans hperm) p2 (due_sorted hM.sorted t))
  have hln : (ul K N t N 0).length = n := by rw [hperm.length_eq, ← hn, List.length_map]
  have HN := Lib.hid hn
  have HU := Lib.hid (show ∀ x : Nat, x ∈ (due m t).map (·.1) → (x : Int) ≤ 18446744073709551615 from fun x hx => by
    obtain ⟨y, hy, rfl⟩ := List.mem_map.1 hx
    exact (hnum y (List.mem_filter.1 hy).1).1)
  have hn5 : n ≤ 1000 := by omega
  clear h1 hP hH hM hperm hlen hnum hn
  generalize hll : ul K N t N 0 = ll at *
  clear hll
  generalize hdd : due m t = dd at *
  clear hdd
  generalize hids : dd.map (·.1) = ids at *
  have HI := Lib.hid hids
  have HDD := Lib.hid (show ∀ k (hk : k < dd.length) (hk2 : k < ids.length), dd[k].1 = ids[k] from fun k hk hk2 => by subst hids; simp)
  clear hids
  go_enter Tryz.func43, Tryz.ntmps43
  go_wp2_with fail
  refine ha.mono ?_
  rintro e w1 ⟨rfl, rfl⟩
  clear ha
  go_wp2_with fail
  refine hu.mono ?_
  rintro e w2 ⟨B, n2, d, rfl, hn2, hown, hb2⟩
  have e2 : n2 = n := hn2.symm.trans hln
  subst e2
  have hs := sort_at hown hn2 (by omega)
  have hbB : ∀ k ∈ (B.map (·.block)).toList, w.heap.size ≤ k := fun k hk => by
    cases B with
    | none => simp at hk
    | some a =>
      simp at hk
      subst hk
      exact (hown.lt _ rfl).1
  clear hu hown hln
  go_wp2_with fail
  refine hs.mono ?_
  rintro e w3 ⟨rfl, l', p1, p2, hrd, hF⟩
  have e3 := HE.out l' p1 p2
  subst e3
  have hb3 : Below w.heap.size w w3 := hb2.trans (hF.below hb2.size hbB)
  have HB3 := Lib.hid hb3
  have hmk := fun W => make_ids n2 (by omega) W
  have hits : Its w3 B d l' := by
    unfold Its
    have : l'.length = n2 := by rw [← HN.out, ← HI.out, List.length_map]
    rw [this]
    exact hrd
  clear hs p1 p2 hrd hF hb2 hb3 hn2 HE hbB
  go_wp2_with fail
  have HR0 := Lib.hid (fill_start ids n2 HN.out (by omega) w3)
  have HB0 := Lib.hid (show Below w3.heap.size w3 (w3.alloc (zrow n2)) from (Below.refl _ _).alloc (Nat.le_refl _) _)
  have hit2 := Lib.hid hits
  obtain ⟨gi, hgi⟩ : ∃ gi, w3.heap.size = gi := ⟨_, rfl⟩
  rw [hgi] at HR0 HB0 ⊢
  have HG := Lib.hid hgi
  have hll : l'.length = n2 := by rw [← HN.out, ← HI.out, List.length_map]
  have HLL := Lib.hid hll
  clear hits hmk hgi hll
  generalize w3.alloc (zrow n2) = w4 at *
  go_loopw [20] (fun v wr => ∃ k : Nat, v = .int .i64 (k : Int) ∧ k ≤ n2 ∧ Hid (wr.ownsRow gi 22 1 (.slice (some ⟨gi, 0, none⟩) n2 n2) n2 (fill ids k)) ∧ Hid (Below gi w3 wr)) (fun v _ => n2 - (intOf v).toNat)
  case atStart => exact ⟨0, rfl, Nat.zero_le _, HR0, HB0⟩
  case round =>
    clear HR0 HB0 w4
    obtain ⟨k, rfl, hk, HR, HB⟩ := hrel
    by_cases hkn : k < n2
    · have hb : Below w3.heap.size w3 wr := by rw [HG.out]; exact HB.out
      have hkl : k < l'.length := by rw [HLL.out]; exact hkn
      obtain ⟨ad, pp, rfl, hpp, x0, x1⟩ := (Its.below hit2.out hb).get hkl
      have hid := HDD.out k hkl (by rw [HN.out]; exact hkn)
      have hki : k < ids.length := by rw [HN.out]; exact hkn
      have hcell : wr.cell? ⟨gi, k, none⟩ = (fill ids k)[k]? := HR.out.cellAt k (by omega)
      have hfz := HR.out.frozenAt k
      obtain ⟨u0, hu0⟩ : ∃ u0, (fill ids k)[k]? = some u0 := ⟨_, List.getElem?_eq_getElem (by rw [HR.out.1]; omega)⟩
      rw [hu0] at hcell
      have hst := (HR.out.stored k (uc ids[k])).1
      rw [fill_step ids k hki] at hst
      have hgl : gi < wr.heap.size := World.block_lt_of_cell? _ _ hcell
      have hbs : Below gi w3 (wr.setCell ⟨gi, k, none⟩ (uc ids[k])) := HB.out.setCell (by show gi ≤ gi; omega) _
      obtain ⟨z0, hz0⟩ : ∃ z : Int, (l'[k].1 : Int) = z := ⟨_, rfl⟩
      obtain ⟨z1, hz1⟩ : ∃ z : Int, (l'[k].2 : Int) = z := ⟨_, rfl⟩
      have hz : uc ids[k] = .int .u64 z0 := by unfold uc; rw [← hid, hz0]
      rw [hz0] at x0
      rw [hz1] at x1
      rw [hz] at hst hbs
      have HS2 := Lib.hid (hst.alloc (.cells #[.int .u64 z0, .int .u64 z1] 132))
      have HB2 := Lib.hid (hbs.alloc (by simp; omega) (.cells #[.int .u64 z0, .int .u64 z1] 132))
      have y2 : (0 : Int) ≤ (k : Int) := by omega
      have y3 : ((k : Int)).toNat = k := by omega
      clear hb hid hki hu0 hst hbs hz0 hz1 hz HR HB
      go_wp2
      go_roundw
      case rel => exact ⟨k + 1, by go_num, by omega, HS2, HB2⟩
      case measure => first | go_num | (simp [intOf]; omega)
    · have e : k = n2 := by omega
      subst e
      have hout := Lib.hid (show UtOut w ids (.returned (.slice (some ⟨gi, 0, none⟩) k k)) wr from by
        have h1 := HR.out
        have h2 := fill_end ids
        rw [HN.out] at h2
        rw [h2] at h1
        have hb : Below w3.heap.size w3 wr := by rw [HG.out]; exact HB.out
        have hu : Us wr (some ⟨gi, 0, none⟩) k ids := ⟨by rw [HN.out]; exact Rd.own h1, HU.out⟩
        refine ⟨some ⟨gi, 0, none⟩, k, by rw [HN.out], hu, HB3.out.trans (hb.mono HB3.out.size), fun a ha => by cases ha; exact ⟨by rw [← HG.out]; exact HB3.out.size, (HR.out.lt gi rfl).2⟩⟩)
      clear HR HB
      go_wp2
      go_ret
      exact hout.out
theorem qunt_at (t n : Nat) (h0 : Qu w q o m) (ht : (t : Int) ≤ 18446744073709551615) (hn : ((due m t).map (·.1)).length = n) :
    Calls Tryz.prog 43 #[.pointer (some ⟨q, 0, none⟩), .int .u64 (t : Int)] w (UtOut w ((due m t).map (·.1))) := by
  obtain ⟨p, o, h, rfl⟩ := h0
  exact qunt_core t n p _ w (all_at h.c) h.ob ht hn
end
end Go.Proofs.YtdmibolbpgondaaGreat.U12
end
