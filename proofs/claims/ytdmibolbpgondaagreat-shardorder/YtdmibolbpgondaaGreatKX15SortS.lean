/-
  slices.SortFunc at spans, by span.Compare (its layings written by gen15/sort.py).
  What a room's maps and queues mean: the spans in order.
-/
import Derived.Test.YtdmibolbpgondaaGreatKX15Gw
import Derived.Test.YtdmibolbpgondaaGreatKD9Least
import Derived.Test.YtdmibolbpgondaaGreatKB7Ten
import Derived.Test.YtdmibolbpgondaaGreatKFrs
import Derived.Shelf.SlLaysF0
import Derived.Shelf.SlSortCmp.WholeK
import Derived.Test.YtdmibolbpgondaaGreatKX15Mem
import Derived.Test.YtdmibolbpgondaaGreatKX15Size
import Derived.Test.YtdmibolbpgondaaGreatKX15IterS
section
set_option linter.unusedSimpArgs false
set_option linter.unusedVariables false
namespace Go.Proofs.YtdmibolbpgondaaGreat.X15
open Go.Shelf Go.RowKit Go.Lib Go.Maps Go.Sort Go.Proofs.YtdmibolbpgondaaGreat.Wd Go.Proofs.YtdmibolbpgondaaGreat.P06
open Go.Proofs.YtdmibolbpgondaaGreat.B07 (Spn Pn tenA ten ten_len ten_one tm_len tm_at Sps pns)
open Go.Proofs.YtdmibolbpgondaaGreat.D09 (cp cp_neg cp_self cp_trans)

def sren : Go.Shelf.Ren := ⟨fun | 6 => 77 | 14 => 95 | 15 => 81 | 20 => 122 | 21 => 123 | 22 => 124 | 23 => 125 | 24 => 126 | 25 => 127 | 26 => 128 | 27 => 129 | 28 => 105 | 29 => 106 | 46 => 142 | 47 => 133 | 48 => 134 | 49 => 143 | 50 => 144 | 57 => 147 | n => n, fun | 0 => 0 | 3 => 3 | 4 => 4 | 5 => 5 | 9 => 9 | 22 => 38 | 24 => 45 | 25 => 114 | 39 => 151 | 45 => 167 | 46 => 168 | 50 => 135 | 53 => 174 | 55 => 22 | 66 => 195 | 70 => 198 | 76 => 207 | 77 => 62 | n => n, fun n => n⟩
theorem slays6 : SlLaysF0.n6 Tryz.prog sren := {
  mixed := by kernel_rfl
  f6 := ⟨Tryz.f77.name, by kernel_rfl, Tryz.func77.trans (congrArg some (by kernel_rfl))⟩
  f14 := ⟨Tryz.f95.name, by kernel_rfl, Tryz.func95.trans (congrArg some (by kernel_rfl))⟩
  f15 := Tryz.func81.trans (congrArg some (by kernel_rfl))
  f20 := ⟨Tryz.f122.name, by kernel_rfl, Tryz.func122.trans (congrArg some (by kernel_rfl))⟩
  f21 := ⟨Tryz.f123.name, by kernel_rfl, Tryz.func123.trans (congrArg some (by kernel_rfl))⟩
  f22 := ⟨Tryz.f124.name, by kernel_rfl, Tryz.func124.trans (congrArg some (by kernel_rfl))⟩
  f23 := ⟨Tryz.f125.name, by kernel_rfl, Tryz.func125.trans (congrArg some (by kernel_rfl))⟩
  f24 := ⟨Tryz.f126.name, by kernel_rfl, Tryz.func126.trans (congrArg some (by kernel_rfl))⟩
  f25 := ⟨Tryz.f127.name, by kernel_rfl, Tryz.func127.trans (congrArg some (by kernel_rfl))⟩
  f26 := ⟨Tryz.f128.name, by kernel_rfl, Tryz.func128.trans (congrArg some (by kernel_rfl))⟩
  f27 := ⟨Tryz.f129.name, by kernel_rfl, Tryz.func129.trans (congrArg some (by kernel_rfl))⟩
  f28 := Tryz.func105.trans (congrArg some (by kernel_rfl))
  f29 := Tryz.func106.trans (congrArg some (by kernel_rfl))
  f46 := ⟨Tryz.f142.name, by kernel_rfl, Tryz.func142.trans (congrArg some (by kernel_rfl))⟩
  f47 := Tryz.func133.trans (congrArg some (by kernel_rfl))
  f48 := Tryz.func134.trans (congrArg some (by kernel_rfl))
  f49 := ⟨Tryz.f143.name, by kernel_rfl, Tryz.func143.trans (congrArg some (by kernel_rfl))⟩
  f50 := ⟨Tryz.f144.name, by kernel_rfl, Tryz.func144.trans (congrArg some (by kernel_rfl))⟩
  f57 := ⟨Tryz.f147.name, by kernel_rfl, Tryz.func147.trans (congrArg some (by kernel_rfl))⟩
  t0 := Tryz.underlying0
  a0 := Tryz.isAgg0
  z0 := Tryz.sizeOf0
  v0 := Tryz.zeroValue0
  t3 := Tryz.underlying3
  a3 := Tryz.isAgg3
  z3 := Tryz.sizeOf3
  v3 := Tryz.zeroValue3
  t4 := Tryz.underlying4
  a4 := Tryz.isAgg4
  z4 := Tryz.sizeOf4
  v4 := Tryz.zeroValue4
  t5 := Tryz.underlying5
  a5 := Tryz.isAgg5
  z5 := Tryz.sizeOf5
  v5 := Tryz.zeroValue5
  t9 := Tryz.underlying9
  a9 := Tryz.isAgg9
  z9 := Tryz.sizeOf9
  v9 := Tryz.zeroValue9
  t22 := Tryz.underlying38
  a22 := Tryz.isAgg38
  z22 := Tryz.sizeOf38
  v22 := Tryz.zeroValue38
  t25 := Tryz.underlying114
  a25 := Tryz.isAgg114
  z25 := Tryz.sizeOf114
  v25 := Tryz.zeroValue114
  t39 := Tryz.underlying151
  a39 := Tryz.isAgg151
  z39 := Tryz.sizeOf151
  v39 := Tryz.zeroValue151
  t45 := Tryz.underlying167
  a45 := Tryz.isAgg167
  z45 := Tryz.sizeOf167
  v45 := Tryz.zeroValue167
  t46 := Tryz.underlying168
  a46 := Tryz.isAgg168
  z46 := Tryz.sizeOf168
  v46 := Tryz.zeroValue168
  t50 := Tryz.underlying135
  a50 := Tryz.isAgg135
  z50 := Tryz.sizeOf135
  v50 := Tryz.zeroValue135
  t53 := Tryz.underlying174
  a53 := Tryz.isAgg174
  z53 := Tryz.sizeOf174
  v53 := Tryz.zeroValue174
  t55 := Tryz.underlying22
  a55 := Tryz.isAgg22
  z55 := Tryz.sizeOf22
  v55 := Tryz.zeroValue22
  t66 := Tryz.underlying195
  a66 := Tryz.isAgg195
  z66 := Tryz.sizeOf195
  v66 := Tryz.zeroValue195
  t70 := Tryz.underlying198
  a70 := Tryz.isAgg198
  z70 := Tryz.sizeOf198
  v70 := Tryz.zeroValue198
  t76 := Tryz.underlying207
  a76 := Tryz.isAgg207
  z76 := Tryz.sizeOf207
  v76 := Tryz.zeroValue207
  t77 := Tryz.underlying62
  a77 := Tryz.isAgg62
  z77 := Tryz.sizeOf62
  v77 := Tryz.zeroValue62 }
theorem scompare_enters : ∀ args w, (callFunc 53 args).run Tryz.prog w = .ok (.enter 53 args) w := enters_of Tryz.func53 (by kernel_rfl) rfl
/-- what is asked of a span in a row at g -/
structure OkR (w : World) (g : Nat) (y : Spn) : Prop where
  hd : Hd 0 w y.A y.c y.l
  ap : ∀ a, y.A = some a → a.block ≠ g
  few : y.l.length ≤ 40
abbrev Rs (w : World) (g : Nat) := { y : Spn // OkR w g y }
def ecf (w : World) (g : Nat) (x y : Rs w g) : Int := cp x.1.pn y.1.pn
def enR (w : World) (g : Nat) (x : Rs w g) : List Value := ten x.1
theorem hd_fr {B : Nat} {w w' : World} {A : Option Addr} {c : Nat} {l : List At} {O : List Nat} (h : Hd B w A c l) (f : Wd.Fr O w w') (hd : ∀ a, A = some a → a.block ∉ O) : Hd B w' A c l :=
  B07.Hd.fr h ⟨f.os, f.tape, f.output, f.size, f.block⟩ hd
theorem slt {w : World} {g : Nat} (x y : Rs w g) : ltOf (ecf w g) x y = decide (cp x.1.pn y.1.pn < 0) := rfl
theorem sswo {w : World} {g : Nat} : SWO (ltOf (ecf w g)) := by
  refine ⟨fun x => ?_, fun x y z => ?_, fun x y z => ?_⟩
  · rw [slt, cp_self]
    decide
  · rw [slt, slt, slt]
    intro h k
    have h := of_decide_eq_true h
    have k := of_decide_eq_true k
    have t := cmpS_t3 x.1.pn.1 y.1.pn.1 z.1.pn.1 x.1.pn.2 y.1.pn.2 z.1.pn.2
    refine decide_eq_true ?_
    unfold cp at *
    have := t (by omega) (by omega)
    omega
  · rw [slt, slt, slt]
    intro h k
    have h := of_decide_eq_false h
    have k := of_decide_eq_false k
    refine decide_eq_false ?_
    have e1 := cp_neg x.1.pn y.1.pn
    have e2 := cp_neg y.1.pn z.1.pn
    have e3 := cp_neg x.1.pn z.1.pn
    have := cp_trans (x := z.1.pn) (y := y.1.pn) (z := x.1.pn) (by omega) (by omega)
    omega
section
variable {w : World} {g : Nat} [Inhabited (Rs w g)]
theorem sgrown {dk : Array (Rs w g)} {m : Nat} {os : Array Obj} : w.grownBy (sortWorldK (enR w g) 10 w g 0 m dk os) (some g) := by
  unfold sortWorldK putRowK
  refine ⟨rfl, rfl, rfl, by simp, fun k hk hne => ?_⟩
  rw [heap_grow_old _ _ (by simpa using hk)]
  have : g ≠ k := fun e => hne (by rw [e])
  simp [putRow, mapBlock, Sort.ahead, Array.getElem?_modify, this]
theorem scmplays (size : Nat) : CmpLays Tryz.prog 53 #[] (enR w g) 10 (ecf w g) g 0 size w := fun m os dk _ x y => by
  have f : Wd.Fr [g] w (sortWorldK (enR w g) 10 w g 0 m dk os) := Fr.of_grown sgrown fun k hk => by injection hk with hk; subst hk; simp
  have h1 := hd_fr x.2.hd f fun a ha => by have := x.2.ap a ha; simpa using this
  have h2 := hd_fr y.2.hd f fun a ha => by have := y.2.ap a ha; simpa using this
  refine (compare_any_gw x.1.s y.1.s x.1.A y.1.A x.1.c y.1.c x.1.l y.1.l _ _ _ h1 h2 rfl rfl x.2.few y.2.few).mono fun _ _ ⟨a, b⟩ => ⟨a, ?_⟩
  exact b.grow
theorem sflat (d : Array (Rs w g)) (j : Nat) (hj : j < d.size * 10) : ((d.toList.map (·.1)).flatMap ten)[j]? = some ((flatK (enR w g) 10 d)[j]!) := by
  have hk : j / 10 < d.size := by omega
  have hd : d[j / 10]! = d[j / 10]'hk := getElem!_pos d (j / 10) hk
  rw [get_flatK _ _ _ _ hj, hd]
  have e := tm_at (d.toList.map (·.1)) (j / 10) (by simpa using hk) (j % 10) (by omega)
  rw [show j / 10 * 10 + j % 10 = j by omega] at e
  rw [e]
  simp only [List.getElem_map, Array.getElem_toList, enR]
  rw [List.getElem?_eq_getElem (by rw [ten_len]; omega), getElem!_pos (ten d[j / 10].1) (j % 10) (by rw [ten_len]; omega)]
theorem sholds_own {base n d : Nat} {D : Array (Rs w g)} (h : w.ownsRow base 45 10 (.slice (some ⟨g, 0, none⟩) n d) n ((D.toList.map (·.1)).flatMap ten)) (hn : D.size = n) : HoldsK (enR w g) 10 w g 0 D := by
  subst hn
  intro j hj
  simp only [size_flatK] at hj
  refine ⟨?_, World.ownsRow.frozenAt h _⟩
  rw [Nat.zero_add, World.ownsRow.cellAt h j hj]
  exact sflat D j hj
theorem srd_holds {w' : World} {n d : Nat} {D : Array (Rs w g)} (h : HoldsK (enR w g) 10 w' g 0 D) (hn : D.size = n) (h1 : n ≤ d) (h2 : d ≤ maxLen) : Rd 10 w' (some ⟨g, 0, none⟩) n d ((D.toList.map (·.1)).flatMap ten) := by
  subst hn
  refine ⟨by rw [tm_len]; simp, fun e => (by cases e), h1, h2, fun ad ha i u hu => ?_⟩
  injection ha with ha
  subst ha
  have hi : i < D.size * 10 := by
    have := (List.getElem?_eq_some_iff.1 hu).1
    rw [tm_len] at this
    simpa using this
  have h3 := (h i (by simpa using hi)).1
  rw [sflat D i hi] at hu
  injection hu with hu
  have e : (⟨g, 0, none⟩ : Addr).add i = ⟨g, i, none⟩ := by unfold Addr.add; split <;> simp_all
  rw [e, ← hu]
  rw [Nat.zero_add] at h3
  exact h3
end
theorem sinsnil_any (f : Value) (c : Nat) (w : World) : Calls Tryz.prog 122 #[.slice none 0 c, .int .i64 0, .int .i64 0, f] w fun e w' => e = .returned (.tuple #[]) ∧ w' = w := by
  go_enter Tryz.func122, Tryz.ntmps122
  go_wp2
  refine wp_loop_rounds 1 ?_
  rw [rounds_succ]
  go_wp2
  go_end0
  exact ⟨rfl, rfl⟩
theorem spdqnil_any (f : Value) (c : Nat) (lim : Int) (w : World) : Calls Tryz.prog 95 #[.slice none 0 c, .int .i64 0, .int .i64 0, .int .i64 lim, f] w fun e w' => e = .returned (.tuple #[]) ∧ w' = w := by
  go_enter Tryz.func95, Tryz.ntmps95
  go_wp2
  refine wp_loop_rounds 1 ?_
  rw [rounds_succ]
  go_wp2_with (go_at_call 122; refine (sinsnil_any f c _).mono ?_; rintro e w1 ⟨rfl, rfl⟩)
  go_returns
  exact ⟨rfl, rfl⟩
theorem bitlen_any (n : Nat) (W : World) (hn : n ≤ 100000) : Calls Tryz.prog 81 #[.int .u64 (n : Int)] W fun e w' => e = .returned (.int .i64 (Lib.bitLen n : Nat)) ∧ w' = W := by
  have h := Any.bits_Len (SlLaysF0.n15.bits (P := Tryz.prog) (ρ := sren) { slays6 with }) (n : Int) W (by omega) (by omega)
  rwa [Int.toNat_natCast] at h
theorem ssortnil_any (f : Value) (c : Nat) (w : World) : Calls Tryz.prog 77 #[.slice none 0 c, f] w fun e w' => e = .returned (.tuple #[]) ∧ w' = w := by
  have hl : ∀ W, Calls Tryz.prog 81 #[.int .u64 0] W fun e w' => e = .returned (.int .i64 (Lib.bitLen 0 : Nat)) ∧ w' = W := fun W => bitlen_any 0 W (by omega)
  go_enter Tryz.func77, Tryz.ntmps77
  go_wp2_with (first | (go_at_call 81; refine (hl _).mono ?_; rintro e w' ⟨rfl, rfl⟩) | (go_at_call 95; refine (spdqnil_any _ _ _ _).mono ?_; rintro e w' ⟨rfl, rfl⟩))
  go_returns
  exact ⟨rfl, rfl⟩
theorem ssorted {w : World} {g : Nat} [Inhabited (Rs w g)] {d0 d1 : Array (Rs w g)} (hp : PermIn 0 d0.size d0 d1) (hs : SortedIn (ltOf (ecf w g)) 0 d0.size d1) : d1.toList.Perm d0.toList ∧ d1.toList.Pairwise fun x y => cp x.1.pn y.1.pn ≤ 0 := by
  obtain ⟨h1, _, h3⟩ := hp
  rw [Array.extract_eq_self_of_le (by omega), Array.extract_eq_self_of_le (Nat.le_refl _)] at h3
  refine ⟨h3, List.pairwise_iff_getElem.2 fun i j hi hj hij => ?_⟩
  simp only [Array.length_toList] at hi hj
  have h := hs i j (Nat.zero_le _) hij (by omega)
  rw [slt, getElem!_pos d1 i hi, getElem!_pos d1 j hj] at h
  have h := of_decide_eq_false h
  have e := cp_neg d1[i].1.pn d1[j].1.pn
  simp only [Array.getElem_toList]
  omega
/-- what the sort leaves -/
def SsOut (w : World) (B : Option Addr) (n d : Nat) (ys : List Spn) (e : Ending) (w' : World) : Prop :=
  e = .returned (.tuple #[]) ∧ ∃ zs : List Spn, zs.Perm ys ∧ (zs.Pairwise fun x y => cp x.pn y.pn ≤ 0) ∧ Rd 10 w' B n d (zs.flatMap ten) ∧ Wd.Fr (B.map (·.block)).toList w w'
theorem attach_list {p : Spn → Prop} : ∀ (ys : List Spn), (∀ y ∈ ys, p y) → ∃ l : List { y : Spn // p y }, l.map (·.1) = ys
  | [], _ => ⟨[], rfl⟩
  | y :: ys, h => by
    obtain ⟨l, hl⟩ := attach_list ys fun z hz => h z (List.mem_cons_of_mem _ hz)
    exact ⟨⟨y, h y (List.mem_cons_self ..)⟩ :: l, by rw [List.map_cons, hl]⟩
theorem ssort_at {w : World} {B : Option Addr} {n d base : Nat} {ys : List Spn} (h : w.ownsRow base 45 10 (.slice B n d) n (ys.flatMap ten)) (hn : ys.length = n) (hm : n ≤ 100000)
    (ho : ∀ y ∈ ys, Hd 0 w y.A y.c y.l ∧ y.l.length ≤ 40 ∧ ∀ a, y.A = some a → ∀ b, B = some b → a.block ≠ b.block) :
    Calls Tryz.prog 77 #[.slice B n d, .func (.func 53) #[] #[]] w (SsOut w B n d ys) := by
  rcases h.2 with ⟨hv, h0⟩ | ⟨g, cap, cur, hv, hb, hg, hnc, hcm, hcs, ht⟩
  · injection hv with h1 h2 h3
    subst h1 h2 h3
    have hl : ys = [] := List.eq_nil_of_length_eq_zero hn
    subst hl
    refine (ssortnil_any _ 0 w).mono ?_
    rintro e w' ⟨rfl, rfl⟩
    exact ⟨rfl, [], List.Perm.refl _, List.Pairwise.nil, Rd.nil 10 _, Fr.refl _ _⟩
  · injection hv with h1 h2 h3
    subst h1 h3
    by_cases hz : ys = []
    · subst hz
      simp at hn
      subst hn
      haveI : Inhabited (Rs w g) := ⟨⟨⟨⟨0, 0, 0, ⟨#[]⟩, ⟨#[]⟩, 0, 0, 0, 0⟩, none, 0, []⟩, ⟨Hd.nil _ _, fun a ha => (by cases ha), by simp⟩⟩⟩
      have hH : HoldsK (enR w g) 10 w g 0 (#[] : Array (Rs w g)) := sholds_own (D := #[]) h rfl
      have hlt : g < w.heap.size := (h.lt g rfl).2
      have hs := AnyQ.slices_SortFunc slays6 10 (fun w => by kernel_rfl) (fun w => by kernel_rfl) (enR w g) (fun x => ten_len x.1) (fun x => ten_one x.1) (ecf w g) sswo 53 #[] g 0 d (#[] : Array (Rs w g)) w scompare_enters (scmplays _) hH hlt (by simp)
      refine hs.mono ?_
      rintro e w' ⟨rfl, d', m, os, hp, hso, rfl⟩
      have hd' : d' = #[] := Array.eq_empty_of_size_eq_zero (by rw [hp.1]; rfl)
      subst hd'
      exact ⟨rfl, [], List.Perm.refl _, List.Pairwise.nil, ⟨rfl, fun e => (by cases e), hnc, hcm, fun ad ha i u hu => (by simp at hu)⟩, Fr.of_grown sgrown fun k hk => by injection hk with hk; subst hk; simp⟩
    · obtain ⟨l, hl⟩ := attach_list (p := OkR w g) ys fun y hy => ⟨(ho y hy).1, fun a ha => (ho y hy).2.2 a ha _ rfl, (ho y hy).2.1⟩
      have hne : l ≠ [] := fun e => hz (by rw [← hl, e]; rfl)
      haveI : Inhabited (Rs w g) := ⟨l.head hne⟩
      have hln : l.length = n := by rw [← hn, ← hl]; simp
      have hH : HoldsK (enR w g) 10 w g 0 l.toArray := sholds_own (D := l.toArray) (by simpa [hl] using h) (by simpa using hln)
      have hlt : g < w.heap.size := (h.lt g rfl).2
      have hs := AnyQ.slices_SortFunc slays6 10 (fun w => by kernel_rfl) (fun w => by kernel_rfl) (enR w g) (fun x => ten_len x.1) (fun x => ten_one x.1) (ecf w g) sswo 53 #[] g 0 d l.toArray w scompare_enters (scmplays _) hH hlt (by rw [List.size_toArray, hln]; omega)
      rw [List.size_toArray, hln] at hs
      refine hs.mono ?_
      rintro e w' ⟨rfl, d', m, os, hp, hso, rfl⟩
      have hsz : d'.size = n := by rw [hp.1, List.size_toArray, hln]
      obtain ⟨p1, p2⟩ := ssorted (d0 := l.toArray) (by rw [List.size_toArray, hln]; exact hp) (by rw [List.size_toArray, hln]; exact hso)
      refine ⟨rfl, d'.toList.map (·.1), ?_, ?_, ?_, ?_⟩
      · rw [← hl]
        exact p1.map _
      · exact List.pairwise_map.2 p2
      · refine srd_holds ?_ hsz hnc hcm
        exact holdsK_sortWorldK_c (enR w g) 10 w g 0 l.toArray d' m os hH hlt (by rw [hsz, List.size_toArray, hln])
      · exact Fr.of_grown sgrown fun k hk => by injection hk with hk; subst hk; simp
end Go.Proofs.YtdmibolbpgondaaGreat.X15
end

section
set_option linter.unusedSimpArgs false
set_option linter.unusedVariables false
namespace Go.Proofs.YtdmibolbpgondaaGreat.X15
open Go.RowKit Go.Lib Go.Maps Go.Proofs.YtdmibolbpgondaaGreat.Wd Go.Proofs.YtdmibolbpgondaaGreat.P06
open Go.Proofs.YtdmibolbpgondaaGreat.B07 (Pn OkN OkA OkP Spn)
open Go.Proofs.YtdmibolbpgondaaGreat.D09 (cp)
open Go.Proofs.YtdmibolbpgondaaGreat.U12 (It Lt putm dropm insm mem_dropm putm_perm putm_sorted dropm_sorted)

abbrev MT : Nat := 4611686018427387904
/-- a span that may be -/
structure Okx (x : Pn) : Prop where
  n : OkN x.1
  e : x.1.t1 ≤ 4611686018427387904
  r : Nr x
theorem Okx.tn {x : Pn} (h : Okx x) : (tn x : Int) = x.1.T ∧ (tn x : Int) ≤ 18446744073709551615 := by
  have h1 := h.n.a0
  have h2 := h.n.a1
  unfold X15.tn
  omega
theorem Okx.idn {x : Pn} (h : Okx x) : (idn x : Int) = x.1.I ∧ (idn x : Int) ≤ 18446744073709551615 := by
  have h1 := h.n.b0
  have h2 := h.n.b1
  unfold X15.idn
  omega
theorem Okx.en {x : Pn} (h : Okx x) : (en x : Int) = x.1.t1 ∧ en x ≤ MT := by
  have h1 := h.n.e0
  have h2 := h.e
  unfold X15.en MT
  omega
theorem ke_nat {x y : Pn} (hx : Okx x) (hy : Okx y) : Ke x y ↔ tn x = tn y ∧ idn x = idn y := by
  have h1 := hx.tn.1
  have h2 := hx.idn.1
  have h3 := hy.tn.1
  have h4 := hy.idn.1
  unfold Ke
  omega
theorem mem_putm {m : List It} {x y : It} : y ∈ putm m x ↔ y = x ∨ (y ∈ m ∧ y.1 ≠ x.1) := by
  rw [(putm_perm m x).mem_iff, List.mem_cons, mem_dropm]
/-! ### traces behind a put, behind a take -/
theorem trace_put_other {L : List Pn} (h : So L) {s : Pn} {u : Nat} (hu : u ≠ tn s) : trace (put L s) u = trace L u := by
  refine so_one (trace_so (put_so h s) u) (trace_so h u) fun x => ?_
  rw [mem_trace, mem_trace, mem_put]
  constructor
  · rintro ⟨rfl | ⟨h1, _⟩, h2⟩
    · exact absurd h2.symm hu
    · exact ⟨h1, h2⟩
  · rintro ⟨h1, h2⟩
    refine ⟨.inr ⟨h1, fun e => hu ?_⟩, h2⟩
    rw [← h2]
    unfold tn
    rw [e.1]
theorem trace_put_same {L : List Pn} (h : So L) (s : Pn) : trace (put L s) (tn s) = put (trace L (tn s)) s := by
  refine so_one (trace_so (put_so h s) _) (put_so (trace_so h _) s) fun x => ?_
  rw [mem_trace, mem_put, mem_put, mem_trace]
  constructor
  · rintro ⟨rfl | ⟨h1, h2⟩, h3⟩
    · exact .inl rfl
    · exact .inr ⟨⟨h1, h3⟩, h2⟩
  · rintro (rfl | ⟨⟨h1, h3⟩, h2⟩)
    · exact ⟨.inl rfl, rfl⟩
    · exact ⟨.inr ⟨h1, h2⟩, h3⟩
theorem trs_put {L : List Pn} (s : Pn) : trs (put L s) = insr (tn s) (trs L) := by
  refine rise_one (trs_rise _) (insr_rise (trs_rise _)) fun u => ?_
  rw [mem_trs, mem_insr, mem_trs]
  constructor
  · rintro ⟨x, hx, rfl⟩
    rcases mem_put.1 hx with rfl | ⟨h1, _⟩
    · exact .inl rfl
    · exact .inr ⟨x, h1, rfl⟩
  · rintro (rfl | ⟨x, h1, rfl⟩)
    · exact ⟨s, mem_put.2 (.inl rfl), rfl⟩
    · by_cases k : Ke x s
      · refine ⟨s, mem_put.2 (.inl rfl), ?_⟩
        unfold tn
        rw [k.1]
      · exact ⟨x, mem_put.2 (.inr ⟨h1, k⟩), rfl⟩
theorem trace_rest_other {L : List Pn} {t u : Nat} (hu : u ≠ t) : trace (rest L t) u = trace L u := by
  unfold trace rest
  rw [List.filter_filter]
  refine List.filter_congr fun x _ => ?_
  by_cases e : tn x = u
  · simp [e, hu]
  · simp [e]
theorem trs_rest {L : List Pn} (t : Nat) : trs (rest L t) = (trs L).filter fun u => decide (u ≠ t) := by
  refine rise_one (trs_rise _) ((trs_rise _).filter _) fun u => ?_
  rw [mem_trs, List.mem_filter, mem_trs]
  constructor
  · rintro ⟨x, hx, rfl⟩
    obtain ⟨h1, h2⟩ := mem_rest.1 hx
    exact ⟨⟨x, h1, rfl⟩, by simpa using h2⟩
  · rintro ⟨⟨x, h1, rfl⟩, h2⟩
    exact ⟨x, mem_rest.2 ⟨h1, by simpa using h2⟩, rfl⟩
theorem filter_ne_len {l : List Nat} (h : l.Pairwise (· < ·)) {t : Nat} (ht : t ∈ l) : (l.filter fun u => decide (u ≠ t)).length + 1 = l.length := by
  induction l with
  | nil => cases ht
  | cons v l ih =>
    have h1 := List.pairwise_cons.1 h
    rcases List.mem_cons.1 ht with rfl | ht
    · have e : l.filter (fun u => decide (u ≠ t)) = l := List.filter_eq_self.2 fun x hx => by have := h1.1 x hx; simp; omega
      rw [List.filter_cons, if_neg (by simp), e, List.length_cons]
    · have hv : v ≠ t := fun e => by have := h1.1 t ht; omega
      rw [List.filter_cons, if_pos (by simpa using hv), List.length_cons, List.length_cons, ih h1.2 ht]
theorem insr_in {t : Nat} {l : List Nat} (h : l.Pairwise (· < ·)) (ht : t ∈ l) : insr t l = l := rise_one (insr_rise h) h fun x => by rw [mem_insr]; exact ⟨fun h => h.elim (fun e => e ▸ ht) id, .inr⟩
theorem insr_out {t : Nat} {l : List Nat} (ht : t ∉ l) : (insr t l).length = l.length + 1 := by
  induction l with
  | nil => simp [insr]
  | cons v l ih =>
    have h1 : t ≠ v := fun e => ht (by rw [e]; exact List.mem_cons_self ..)
    have h2 : t ∉ l := fun e => ht (List.mem_cons_of_mem _ e)
    unfold insr
    simp only [if_neg h1]
    split
    · simp
    · rw [List.length_cons, ih h2, List.length_cons]
/-- the deadlines behind a put, behind a take -/
theorem dqs_put {G : Nat} {L : List Pn} (h : So L) (s : Pn) : putm (dqs G L) (tn s, dl G (put L s) (tn s)) = dqs G (put L s) := by
  refine lt_one (putm_sorted (dqs_sorted G L) _) (dqs_sorted _ _) fun y => ?_
  rw [mem_putm, mem_dqs, mem_dqs, trs_put]
  constructor
  · rintro (rfl | ⟨⟨u, h1, rfl⟩, h2⟩)
    · exact ⟨tn s, mem_insr.2 (.inl rfl), rfl⟩
    · refine ⟨u, mem_insr.2 (.inr h1), ?_⟩
      unfold dl
      rw [trace_put_other h h2]
  · rintro ⟨u, h1, rfl⟩
    by_cases e : u = tn s
    · subst e
      exact .inl rfl
    · refine .inr ⟨⟨u, (mem_insr.1 h1).resolve_left e, ?_⟩, e⟩
      unfold dl
      rw [trace_put_other h e]
theorem dqs_rest {G : Nat} (L : List Pn) (t : Nat) : dropm (dqs G L) t = dqs G (rest L t) := by
  refine lt_one (dropm_sorted (dqs_sorted G L) _) (dqs_sorted _ _) fun y => ?_
  rw [mem_dropm, mem_dqs, mem_dqs, trs_rest]
  constructor
  · rintro ⟨⟨u, h1, rfl⟩, h2⟩
    refine ⟨u, List.mem_filter.2 ⟨h1, by simpa using h2⟩, ?_⟩
    unfold dl
    rw [trace_rest_other h2]
  · rintro ⟨u, h1, rfl⟩
    obtain ⟨h2, h3⟩ := List.mem_filter.1 h1
    have h3 : u ≠ t := by simpa using h3
    refine ⟨⟨u, h2, ?_⟩, h3⟩
    unfold dl
    rw [trace_rest_other h3]

/-- what the room means, with the traces ts open -/
structure Sm (w : World) (col : Nat → Nat) (p : Pr) (L : List Pn) (ts : List Nat) : Prop where
  so : So L
  ok : ∀ x ∈ L, Okx x
  bi : ∀ t, (p.bi t).isSome = true ↔ t ∈ ts
  qi : ∀ t, (p.qi t).isSome = true ↔ t ∈ ts
  nt : p.Nt = ts.length
  ne : p.Ne = ts.length
  fi : ∀ t ∈ ts, ∀ x ∈ trace L t, ∃ y : Spn, y.pn = x ∧ p.fi t (idn x) = some (sval y) ∧ Hd 0 w y.A y.c y.l ∧ ∀ a, y.A = some a → col a.block = 0
  fn : ∀ t ∈ ts, ∀ i v, p.fi t i = some v → ∃ x ∈ trace L t, idn x = i
  ni : ∀ t ∈ ts, p.Ni t = (trace L t).length
  mi : ∀ t ∈ ts, ∀ y, y ∈ p.mi t ↔ ∃ x ∈ trace L t, y = (idn x, MT - en x)
  dq : p.dq = dqs p.G L
section
variable {w w' : World} {col col' : Nat → Nat} {p p' : Pr} {L : List Pn} {ts : List Nat}
theorem hd_fs {A : Option Addr} {c : Nat} {l : List At} (h : Hd 0 w A c l) (F : Fs w w' col col') (hc : ∀ a, A = some a → col a.block = 0) : Hd 0 w' A c l ∧ ∀ a, A = some a → col' a.block = 0 := by
  refine ⟨hd_fr h F.fr fun a ha hm => (mem_ow.1 hm).2.1 (hc a ha), fun a ha => ?_⟩
  have h1 := (B07.Hd.lt h a ha).2
  have h2 := F.old a.block h1
  have h3 := hc a ha
  by_cases e : col' a.block = 0
  · exact e
  · exact absurd h3 (h2.1 e)
theorem Sm.fs (h : Sm w col p L ts) (F : Fs w w' col col') : Sm w' col' p L ts :=
  ⟨h.so, h.ok, h.bi, h.qi, h.nt, h.ne, fun t ht x hx => by
    obtain ⟨y, h1, h2, h3, h4⟩ := h.fi t ht x hx
    obtain ⟨h5, h6⟩ := hd_fs h3 F h4
    exact ⟨y, h1, h2, h5, h6⟩, h.fn, h.ni, h.mi, h.dq⟩
theorem Sm.nums (h : Sm w col p L ts) (n m : Nat) : Sm w col { p with n := n, h := m } L ts := ⟨h.so, h.ok, h.bi, h.qi, h.nt, h.ne, h.fi, h.fn, h.ni, h.mi, h.dq⟩
/-- of a value in a trace's map: whose it is -/
theorem Sm.val (h : Sm w col p L ts) {t i : Nat} {v : Value} (ht : t ∈ ts) (hv : p.fi t i = some v) : ∃ y : Spn, v = sval y ∧ y.pn ∈ trace L t ∧ idn y.pn = i ∧ Hd 0 w y.A y.c y.l ∧ ∀ a, y.A = some a → col a.block = 0 := by
  obtain ⟨x, hx, rfl⟩ := h.fn t ht i v hv
  obtain ⟨y, h1, h2, h3, h4⟩ := h.fi t ht x hx
  rw [hv] at h2
  refine ⟨y, Option.some.inj h2, by rw [h1]; exact hx, by rw [h1], h3, h4⟩
theorem same_id {L : List Pn} (hs : So L) (ho : ∀ x ∈ L, Okx x) {t : Nat} {x y : Pn} (hx : x ∈ trace L t) (hy : y ∈ trace L t) (e : idn x = idn y) : x = y := by
  obtain ⟨h1, h2⟩ := mem_trace.1 hx
  obtain ⟨h3, h4⟩ := mem_trace.1 hy
  exact so_key hs h1 h3 ((ke_nat (ho x h1) (ho y h3)).2 ⟨by rw [h2, h4], e⟩)
/-- one more trace is open, with no span so far -/
theorem Sm.mid (h : Sm w col p L ts) {t b q : Nat} (ht : t ∉ ts) (hL : trace L t = []) (hts : ts.Pairwise (· < ·)) :
    Sm w col { p with bi := up p.bi t (some b), qi := up p.qi t (some q), Nt := p.Nt + 1, Ne := p.Ne + 1, fi := up p.fi t (fun _ => none), Ni := up p.Ni t 0, mi := up p.mi t [] } L (insr t ts) := by
  have hm : ∀ u, u ∈ insr t ts → u ≠ t → u ∈ ts := fun u hu hn => (mem_insr.1 hu).resolve_left hn
  refine ⟨h.so, h.ok, fun u => ?_, fun u => ?_, ?_, ?_, fun u hu x hx => ?_, fun u hu i v hv => ?_, fun u hu => ?_, fun u hu y => ?_, h.dq⟩
  · by_cases e : u = t
    · subst e; simp [up_same, mem_insr]
    · dsimp only; rw [up_other _ e, h.bi, mem_insr]; simp [e]
  · by_cases e : u = t
    · subst e; simp [up_same, mem_insr]
    · dsimp only; rw [up_other _ e, h.qi, mem_insr]; simp [e]
  · dsimp only; rw [insr_out ht, h.nt]
  · dsimp only; rw [insr_out ht, h.ne]
  · by_cases e : u = t
    · subst e; rw [hL] at hx; cases hx
    · dsimp only; rw [up_other _ e]; exact h.fi u (hm u hu e) x hx
  · by_cases e : u = t
    · subst e
      have hv : up p.fi u (fun _ => none) u i = some v := hv
      rw [up_same] at hv
      cases hv
    · have hv : up p.fi t (fun _ => none) u i = some v := hv
      rw [up_other _ e] at hv
      exact h.fn u (hm u hu e) i v hv
  · by_cases e : u = t
    · subst e; dsimp only; rw [up_same, hL]; rfl
    · dsimp only; rw [up_other _ e]; exact h.ni u (hm u hu e)
  · by_cases e : u = t
    · subst e; dsimp only; rw [up_same, hL]; simp
    · dsimp only; rw [up_other _ e]; exact h.mi u (hm u hu e) y
/-- a span put in an open trace -/
theorem Sm.put (h : Sm w col p L ts) (y : Spn) (hok : Okx y.pn) (hd : Hd 0 w y.A y.c y.l) (hc : ∀ a, y.A = some a → col a.block = 0) (hts : ts = insr (tn y.pn) (trs L)) :
    Sm w col { p with fi := up p.fi (tn y.pn) (upf (p.fi (tn y.pn)) (idn y.pn) (some (sval y))), Ni := up p.Ni (tn y.pn) (upn (p.fi (tn y.pn)) (p.Ni (tn y.pn)) (idn y.pn)), mi := up p.mi (tn y.pn) (putm (p.mi (tn y.pn)) (idn y.pn, MT - en y.pn)), dq := putm p.dq (tn y.pn, dl p.G (X15.put L y.pn) (tn y.pn)) } (X15.put L y.pn) (trs (X15.put L y.pn)) := by
  have htt : tn y.pn ∈ ts := by rw [hts]; exact mem_insr.2 (.inl rfl)
  have hsame := trace_put_same h.so y.pn
  have hoth : ∀ u, u ≠ tn y.pn → trace (X15.put L y.pn) u = trace L u := fun u hu => trace_put_other h.so hu
  have hmem : ∀ x, x ∈ trace (X15.put L y.pn) (tn y.pn) ↔ x = y.pn ∨ (x ∈ trace L (tn y.pn) ∧ idn x ≠ idn y.pn) := fun x => by
    rw [hsame, mem_put]
    constructor
    · rintro (e | ⟨h1, h2⟩)
      · exact .inl e
      · refine .inr ⟨h1, fun e => h2 ((ke_nat (h.ok x (mem_trace.1 h1).1) hok).2 ⟨(mem_trace.1 h1).2, e⟩)⟩
    · rintro (e | ⟨h1, h2⟩)
      · exact .inl e
      · exact .inr ⟨h1, fun k => h2 ((ke_nat (h.ok x (mem_trace.1 h1).1) hok).1 k).2⟩
  rw [trs_put, ← hts]
  refine ⟨put_so h.so _, fun x hx => ?_, h.bi, h.qi, h.nt, h.ne, fun u hu x hx => ?_, fun u hu i v hv => ?_, fun u hu => ?_, fun u hu z => ?_, ?_⟩
  · rcases mem_put.1 hx with rfl | ⟨h1, _⟩
    · exact hok
    · exact h.ok x h1
  · by_cases e : u = tn y.pn
    · subst e
      dsimp only
      rw [up_same]
      rcases (hmem x).1 hx with rfl | ⟨h1, h2⟩
      · exact ⟨y, rfl, upf_same _ _ _, hd, hc⟩
      · obtain ⟨z, h3, h4, h5, h6⟩ := h.fi _ htt x h1
        exact ⟨z, h3, by rw [upf_other _ h2]; exact h4, h5, h6⟩
    · dsimp only
      rw [up_other _ e]
      rw [hoth u e] at hx
      exact h.fi u hu x hx
  · by_cases e : u = tn y.pn
    · subst e
      have hv : up p.fi (tn y.pn) (upf (p.fi (tn y.pn)) (idn y.pn) (some (sval y))) (tn y.pn) i = some v := hv
      rw [up_same] at hv
      by_cases e2 : i = idn y.pn
      · subst e2
        exact ⟨y.pn, (hmem _).2 (.inl rfl), rfl⟩
      · rw [upf_other _ e2] at hv
        obtain ⟨x, h1, rfl⟩ := h.fn _ htt i v hv
        exact ⟨x, (hmem x).2 (.inr ⟨h1, e2⟩), rfl⟩
    · have hv : up p.fi (tn y.pn) (upf (p.fi (tn y.pn)) (idn y.pn) (some (sval y))) u i = some v := hv
      rw [up_other _ e] at hv
      rw [hoth u e]
      exact h.fn u hu i v hv
  · by_cases e : u = tn y.pn
    · subst e
      dsimp only
      rw [up_same, hsame]
      unfold upn
      cases hf : p.fi (tn y.pn) (idn y.pn) with
      | none =>
        have hno : ∀ x ∈ trace L (tn y.pn), ¬ Ke x y.pn := fun x hx k => by
          obtain ⟨z, _, h4, _⟩ := h.fi _ htt x hx
          rw [((ke_nat (h.ok x (mem_trace.1 hx).1) hok).1 k).2, hf] at h4
          cases h4
        rw [(put_new hno).1, h.ni _ htt]
        rfl
      | some v =>
        obtain ⟨x, h1, h2⟩ := h.fn _ htt _ v hf
        have hk : Ke x y.pn := (ke_nat (h.ok x (mem_trace.1 h1).1) hok).2 ⟨(mem_trace.1 h1).2, h2⟩
        rw [(put_old (trace_so h.so _) h1 hk).1, h.ni _ htt]
        rfl
    · dsimp only
      rw [up_other _ e, hoth u e]
      exact h.ni u hu
  · by_cases e : u = tn y.pn
    · subst e
      dsimp only
      rw [up_same, mem_putm, h.mi _ htt]
      constructor
      · rintro (rfl | ⟨⟨x, h1, rfl⟩, h2⟩)
        · exact ⟨y.pn, (hmem _).2 (.inl rfl), rfl⟩
        · exact ⟨x, (hmem x).2 (.inr ⟨h1, h2⟩), rfl⟩
      · rintro ⟨x, hx, rfl⟩
        rcases (hmem x).1 hx with rfl | ⟨h1, h2⟩
        · exact .inl rfl
        · exact .inr ⟨⟨x, h1, rfl⟩, h2⟩
    · dsimp only
      rw [up_other _ e, hoth u e]
      exact h.mi u hu z
  · dsimp only
    rw [h.dq, dqs_put h.so]
/-- a trace taken off -/
theorem Sm.take (h : Sm w col p L (trs L)) {t : Nat} (ht : t ∈ trs L) :
    Sm w col { p with bi := up p.bi t none, Nt := dnn (fun t => (p.bi t).map mapv) p.Nt t, qi := up p.qi t none, Ne := dnn (fun t => (p.qi t).map ptrv) p.Ne t, dq := dropm p.dq t } (rest L t) (trs (rest L t)) := by
  have hm : ∀ {u}, u ∈ trs (rest L t) ↔ u ∈ trs L ∧ u ≠ t := fun {u} => by rw [trs_rest, List.mem_filter]; simp
  have hb : ∀ (f : Nat → Option Nat) (k : Nat → Value) (N : Nat), (f t).isSome = true → N = (trs L).length → dnn (fun t => (f t).map k) N t = (trs (rest L t)).length := fun f k N h1 h2 => by
    unfold dnn
    have e : ((f t).map k).isSome = true := by simpa using h1
    dsimp only
    rw [e, if_pos rfl, trs_rest, h2]
    have := filter_ne_len (trs_rise L) ht
    omega
  refine ⟨rest_so h.so _, fun x hx => h.ok x (mem_rest.1 hx).1, fun u => ?_, fun u => ?_, hb _ _ _ ((h.bi t).2 ht) h.nt, hb _ _ _ ((h.qi t).2 ht) h.ne, fun u hu x hx => ?_, fun u hu i v hv => ?_, fun u hu => ?_, fun u hu y => ?_, ?_⟩
  · by_cases e : u = t
    · subst e; dsimp only; rw [up_same, hm]; simp
    · dsimp only; rw [up_other _ e, h.bi, hm]; simp [e]
  · by_cases e : u = t
    · subst e; dsimp only; rw [up_same, hm]; simp
    · dsimp only; rw [up_other _ e, h.qi, hm]; simp [e]
  · rw [trace_rest_other (hm.1 hu).2] at hx
    exact h.fi u (hm.1 hu).1 x hx
  · rw [trace_rest_other (hm.1 hu).2]
    exact h.fn u (hm.1 hu).1 i v hv
  · rw [trace_rest_other (hm.1 hu).2]
    exact h.ni u (hm.1 hu).1
  · rw [trace_rest_other (hm.1 hu).2]
    exact h.mi u (hm.1 hu).1 y
  · dsimp only
    rw [h.dq, dqs_rest]
/-- the first of a trace's queue: the span with the greatest End -/
theorem head_mx {m : List It} {X : List Pn} (hs : m.Pairwise Lt) (hm : ∀ y, y ∈ m ↔ ∃ x ∈ X, y = (idn x, MT - en x)) (hX : X ≠ []) (ho : ∀ x ∈ X, en x ≤ MT) : ∃ i m', m = (i, MT - mx X) :: m' := by
  cases hm' : m with
  | nil =>
    obtain ⟨x, hx⟩ := List.exists_mem_of_ne_nil _ hX
    have := (hm _).2 ⟨x, hx, rfl⟩
    rw [hm'] at this
    cases this
  | cons z m2 =>
    subst hm'
    obtain ⟨x, hx, rfl⟩ := (hm z).1 (List.mem_cons_self ..)
    have e : mx X = en x := by
      refine mx_of (fun y hy => ?_) ⟨x, hx, rfl⟩
      have h1 := (hm _).2 ⟨y, hy, rfl⟩
      have h2 := ho x hx
      have h3 := ho y hy
      rcases List.mem_cons.1 h1 with h4 | h4
      · injection h4 with _ h4
        omega
      · have h5 := (List.pairwise_cons.1 hs).1 _ h4
        rcases h5 with h5 | h5
        · have h5 : MT - en x < MT - en y := h5
          omega
        · have h5 : MT - en x = MT - en y := h5.1
          omega
    exact ⟨idn x, m2, by rw [e]⟩
end
end Go.Proofs.YtdmibolbpgondaaGreat.X15
end
