/-
  How large a span is: shard.Size and the document's.
  The iterators: maps.Keys; slices.AppendSeq and slices.Collect of numbers.
-/
import Derived.Test.YtdmibolbpgondaaGreatKX15Pure
import Derived.Test.YtdmibolbpgondaaGreatKB7Sps
import Derived.Test.YtdmibolbpgondaaGreatKX15Map
import Derived.RangeFuncNested
import Derived.RangeFuncBound
import Derived.RangeFuncLeaves
import Derived.Shelf.Abstract
import Derived.Shelf.RegionOpen
import Derived.Sort.MapsRangeIn
import Derived.WalkKit
import Derived.OwnWalkIn
import Derived.TacticsInMore
import Derived.LoopNIn
import Derived.LoopIn
import Derived.Maps.AppendAt
section
set_option linter.unusedSimpArgs false
set_option linter.unusedVariables false
namespace Go.Proofs.YtdmibolbpgondaaGreat.X15
open Go.RowKit Go.Lib Go.Sort Go.Proofs.YtdmibolbpgondaaGreat.Wd Go.Proofs.YtdmibolbpgondaaGreat.V04 Go.Proofs.YtdmibolbpgondaaGreat.P06
open Go.Proofs.YtdmibolbpgondaaGreat.B07 (Pn OkN OkA OkP Spn)

/-- small enough to be looked at -/
structure Nr (x : Pn) : Prop where
  sv : x.1.sv.size ≤ 5000
  nm : x.1.nm.size ≤ 5000
  few : x.2.length ≤ 40
  at_ : ∀ a ∈ x.2, a.key.size ≤ 300 ∧ a.S.size ≤ 5000
theorem nr_of {x : Pn} (h : far x.1 x.2 = false) : Nr x := by
  unfold far at h
  simp only [Bool.or_eq_false_iff, decide_eq_false_iff_not, List.any_eq_false, Bool.or_eq_true, decide_eq_true_eq, not_or] at h
  exact ⟨by omega, by omega, by omega, fun a ha => by have := h.2 a ha; omega⟩
theorem szA_le : ∀ (l : List At), (∀ a ∈ l, a.key.size ≤ 300 ∧ a.S.size ≤ 5000) → szA l ≤ l.length * 5316
  | [], _ => by simp [szA]
  | a :: l, h => by
    have h1 := szA_le l fun b hb => h b (List.mem_cons_of_mem _ hb)
    have h2 := h a (List.mem_cons_self ..)
    rw [szA, List.length_cons]
    omega
theorem szA_mono (l : List At) (k : Nat) : szA (l.take k) ≤ szA l := by
  have h := szA_app (l.take k) (l.drop k)
  rw [List.take_append_drop] at h
  omega
theorem Nr.sz {x : Pn} (h : Nr x) : sz x ≤ 300000 := by
  have h1 := szA_le x.2 h.at_
  have h2 := h.few
  have h3 := h.sv
  have h4 := h.nm
  unfold X15.sz
  have : x.2.length * 5316 ≤ 40 * 5316 := Nat.mul_le_mul_right _ h2
  omega
theorem sz_pos (x : Pn) : 64 ≤ sz x := by unfold sz; omega
theorem held_le {L : List Pn} (h : ∀ x ∈ L, Nr x) : held L ≤ L.length * 300000 := by
  induction L with
  | nil => simp [held]
  | cons x L ih =>
    have h1 := ih fun y hy => h y (List.mem_cons_of_mem _ hy)
    have h2 := (h x (List.mem_cons_self ..)).sz
    rw [held, List.length_cons]
    omega
set_option maxRecDepth 20000 in
set_option maxHeartbeats 2000000 in
theorem size_any (s : Sp) (A : Option Addr) (c n z : Nat) (l : List At) (w : World) (h : Ats w A c l) (hn : l.length = n) (hr : Nr (s, l)) (hz : sz (s, l) = z) :
    Calls Tryz.prog 25 #[spv s (.slice A n c)] w fun e w' => e = .returned (.int .i64 (z : Int)) ∧ Below w.heap.size w w' := by
  have HN := Lib.hid hn
  have hm := hr.few
  have hzl := hr.sz
  rw [hz] at hzl
  have h0 : z = 64 + s.sv.size + s.nm.size + szA l := hz.symm
  have hn' : n ≤ 40 := by rw [← hn]; exact hm
  have b0 : Below w.heap.size w (w.alloc (.cells (spc s (.slice A n c)) 45)) := by go_grown
  have hA : Ats (w.alloc (.cells (spc s (.slice A n c)) 45)) A c l := h.below b0
  have HX := Lib.hid (fun k (hk : k < l.length) => szA_take hk)
  have HM := Lib.hid (fun k => szA_mono l k)
  obtain ⟨u, hu⟩ : ∃ u, 64 + s.sv.size + s.nm.size = u := ⟨_, rfl⟩
  have HU := Lib.hid hu
  rw [hu] at h0
  have H0 := Lib.hid h0
  have hul : u ≤ 300000 := by omega
  have k1 : (64 : Int) + (s.sv.size : Int) + (s.nm.size : Int) = (u : Int) := by omega
  have hrest : Hid (u = u + szA (l.take 0)) := Lib.hid (by simp [szA])
  clear hn hm hz hu h0 hr h
  go_enter Tryz.func25, Tryz.ntmps25
  go_wp2
  obtain ⟨X, hX⟩ : ∃ X, w.alloc (.cells (spc s (.slice A n c)) 45) = X := ⟨_, rfl⟩
  rw [hX] at hA b0 ⊢
  clear hX
  go_loopw [3, 17] (fun v i wr => ∃ k m : Nat, v = .int .i64 (m : Int) ∧ i = .int .i64 k ∧ k ≤ n ∧ m ≤ 300000 ∧ Hid (m = u + szA (l.take k)) ∧ Below X.heap.size X wr) (fun _ i _ => n - (intOf i).toNat)
  case atStart => exact ⟨0, u, rfl, rfl, Nat.zero_le _, hul, hrest, Below.refl _ _⟩
  case round =>
    obtain ⟨k, m, rfl, rfl, hk, hmm, HMM, hb⟩ := hrel
    by_cases hlt : k < n
    · have hltz : (k : Int) < (n : Int) := by omega
      have hkl : k < l.length := by rw [un HN]; exact hlt
      obtain ⟨ad, p, rfl, hp, F⟩ := (hA.below hb).get hkl
      have hs := un HX k hkl
      have hs1 := un HM (k + 1)
      have hu0 := un H0
      have hmm2 := un HMM
      have f0 := F.c0
      have f1 := F.c1
      have f2 := F.c2
      have f3 : wr.cell? ⟨p.block, p.off + 1 + 2, none⟩ = some (.string l[k].S) := F.c3
      have f3' := F.c3
      obtain ⟨m2, hm2⟩ : ∃ m2, u + szA (l.take (k + 1)) = m2 := ⟨_, rfl⟩
      have HM2 : Hid (m2 = u + szA (l.take (k + 1))) := Lib.hid hm2.symm
      have hz2 : m2 ≤ 300000 := by omega
      have e2 : m2 = m + (16 + l[k].key.size + l[k].S.size) := by omega
      clear F hs hs1 hu0 hmm2 hm2
      generalize l[k] = x at *
      obtain ⟨a, ha⟩ : ∃ a, x.key.size = a := ⟨_, rfl⟩
      obtain ⟨b, hb'⟩ : ∃ b, x.S.size = b := ⟨_, rfl⟩
      rw [ha, hb'] at e2
      have bx := below_box wr (abox 86 x) (Nat.le_refl _)
      have e3 : (m : Int) + (16 + (a : Int) + (b : Int)) = (m2 : Int) := by omega
      have e4 : a ≤ 300000 ∧ b ≤ 300000 := by omega
      obtain ⟨e4, e5⟩ := e4
      clear e2
      go_wp2
      go_roundw
      case rel => exact ⟨k + 1, m2, rfl, by go_num, by omega, hz2, HM2, hb.trans (bx.mono hb.size)⟩
      case measure => first | go_num | (simp [intOf]; omega)
    · have hltz : ¬ ((k : Int) < (n : Int)) := by omega
      have hkn : k = n := by omega
      have hfin : m = z := by
        have h1 := un HMM
        have h2 := un H0
        rw [List.take_of_length_le (by rw [un HN]; omega)] at h1
        omega
      subst hfin
      have HB := Lib.hid (b0.trans (hb.mono b0.size))
      go_wp2
      go_ret
      exact ⟨rfl, HB.out⟩
end Go.Proofs.YtdmibolbpgondaaGreat.X15
end

section
set_option linter.unusedSimpArgs false
set_option linter.unusedVariables false
namespace Go.Proofs.YtdmibolbpgondaaGreat.X15
open Go.RowKit Go.Lib Go.Maps Go.Shelf Go.Proofs.YtdmibolbpgondaaGreat.Wd
open Go.Proofs.YtdmibolbpgondaaGreat.U12 (ik ik_inj ik_key law key_ok)
attribute [local go_sem] Oper.semAt_some

/-- the keys that have come: none twice; those that are no longer to come -/
def Got (D : DataW Value) (left : Lit → Bool) (ks : List Nat) : Prop := ks.Nodup ∧ ∀ x, x ∈ ks ↔ (Maps.has D (ik x) = true ∧ left (ik x) = false)
theorem same_ik (x y : Nat) : (ik x).sameKey (ik y) = decide (x = y) := by
  by_cases e : x = y
  · subst e
    rw [WideAt.sameKey_self (ik_key x)]
    simp
  · cases h : (ik x).sameKey (ik y)
    · simp [e]
    · exact absurd (ik_inj (WideAt.sameKey_eq h)) e
theorem Got.start (D : DataW Value) : Got D (Maps.has D) [] := ⟨List.nodup_nil, fun x => by cases Maps.has D (ik x) <;> simp⟩
theorem Got.step {D : DataW Value} {left : Lit → Bool} {ks : List Nat} (h : Got D left ks) {x : Nat} {y : DataW Value} (hlk : left (ik x) = true) (hat : ∀ zd, D.atKey (ik x) zd = y) : Got D (fun z => left z && !z.sameKey (ik x)) (ks ++ [x]) := by
  have hhas : Maps.has D (ik x) = true := Maps.has_true_of_atKey hat
  have hnew : x ∉ ks := fun hx => by have := ((h.2 x).1 hx).2; rw [hlk] at this; cases this
  refine ⟨List.nodup_append.2 ⟨h.1, by simp, fun a ha b hb => by simp at hb; subst hb; exact fun e => hnew (e ▸ ha)⟩, fun y => ?_⟩
  by_cases hy : y = x
  · subst hy; simp [hhas, same_ik]
  · simp [h.2 y, hy, same_ik]
theorem key_inv {key : Value} {kl : Lit} (h : keyOf Tryz.prog 22 key = some kl) : ∃ x : Nat, key = .int .u64 (x : Int) ∧ kl = ik x ∧ (x : Int) ≤ 18446744073709551615 := by
  cases key <;> simp [keyOf, mapKey, Tryz.underlying22] at h
  rename_i q a
  obtain ⟨⟨rfl, hw⟩, rfl⟩ := h
  have hw : 0 ≤ a ∧ a ≤ 18446744073709551615 := by simpa [Lit.wf, IntKind.min, IntKind.max, IntKind.signed, IntKind.bits] using hw
  refine ⟨a.toNat, ?_, ?_, by omega⟩
  · rw [Int.toNat_of_nonneg hw.1]
  · unfold ik; rw [Int.toNat_of_nonneg hw.1]
/-- all keys have come -/
def AllK (f : Nat → Option Value) (ks : List Nat) : Prop := ks.Nodup ∧ ∀ x, x ∈ ks ↔ (f x).isSome = true
abbrev encU (x : Nat) : Value := .int .u64 (x : Int)

set_option maxRecDepth 100000 in
set_option maxHeartbeats 1000000 in
theorem keys1_in (F : Fence) (n : Nat) (hf : F.fn 67) (hro : F.round = none) (hn : 1 ≤ n) (l Bm b N : Nat) (f : Nat → Option Value) (J Jx : List Nat → World → Prop)
    (hY : ∀ pre x W, J pre W → pre.length < N → YieldAt F (n - 1) Tryz.prog l #[encU x] W fun e W' =>
      (e = .returned (.bool true) ∧ J (pre ++ [x]) W' ∧ KeepsWalks W W') ∨ (e = .returned (.bool false) ∧ Jx (pre ++ [x]) W'))
    (W : World) (hJ : AbidesFrom W.heap.size J) (hm : W.cell? ⟨Bm, 0, none⟩ = some (.map (some b))) (hmp : Mp W b f N) (h0 : J [] W) :
    CallsIn F n Tryz.prog 67 #[.func (.yield l) #[] #[], .pointer (some ⟨Bm, 0, none⟩)] W fun e W' => (∃ v, e = .returned v) ∧
      ((∃ ks, AllK f ks ∧ J ks W') ∨ (∃ pre, True ∧ Jx pre W')) := by
  obtain ⟨D0, hown, hD⟩ := hmp
  have hsz := hD.size
  refine callsIn_of_wp Tryz.func67 rfl hf ?_ hro
  simp only [Tryz.ntmps67, List.size_toArray, List.length_cons, List.length_nil, Nat.reduceAdd, Nat.reduceSub, Array.replicate_succ, Array.replicate_zero, List.push_toArray, List.append_toArray, List.nil_append, List.cons_append]
  gi_wp2_with (first
    | (gi_at_range; refine wpListIn_range_own _ rfl _ 99 rfl 22 98 law Tryz.underlying99 _ b N _ rfl hown ?_; intro w0 hrg0 hg0 hs0)
    | gi_in)
  go_frame
  gi_loopw [3] (fun _ wr => ∃ (left : Lit → Bool) (cnt : Nat) (ks : List Nat), wr.ranges Tryz.prog 22 Hv b W.heap.size N D0 left cnt ∧ ks.length + cnt ≤ N ∧ Got D0 left ks ∧ J ks wr)
    (fun _ wr => wr.rangeLeft b W.heap.size)
  case atStart =>
    exact ⟨_, _, [], hrg0, by simp [hsz], Got.start D0, hJ [] W w0 none h0 hg0 (fun r e => by cases e)⟩
  case round =>
    obtain ⟨left, cnt, ks, hrg, hcs, hC, hJs⟩ := hrel
    gi_wp2_with (first
      | (gi_at_next; refine wpListIn_next_ranges _ rfl _ rfl 22 law Hv encU id (fun key kl hk => by obtain ⟨x, hx, _⟩ := key_inv hk; exact ⟨x, hx⟩) (fun v _ _ => ⟨v, rfl⟩) b W.heap.size N _ _ _ rfl hrg ?_ ?_)
      | gi_in)
    · intro hc0 hl0
      gi_wp2
      go_end0
      exact ⟨⟨_, rfl⟩, .inl ⟨ks, ⟨hC.1, fun x => by rw [hC.2 x, hl0, hD.has]; simp⟩, hJs⟩⟩
    · intro x c kl yd yp w2 cnt2 hkey hlk hv hat hrg2 hlt hg2 hs2 hen
      obtain ⟨x', ex, rfl, _⟩ := key_inv hkey
      obtain rfl : x = x' := by have e := (Value.int.inj ex).2; omega
      have hJ2 : J ks w2 := hJ ks wr w2 (some W.heap.size) hJs hg2 (fun r e => by cases e; exact ⟨Nat.le_refl _, hrg.iter_walk⟩)
      obtain ⟨fn, tmps, assign, body, hy, hR⟩ := hY ks x w2 hJ2 (by omega)
      clear hs2
      gi_wp2
      refine hR.mono ?_
      have hC2 := hC.step hlk hat
      rintro e W3 (⟨rfl, hJ3, hk3⟩ | ⟨rfl, hJx3⟩)
      · gi_wp2
        have hrg3 := hrg2.of_walks hk3
        go_roundw
        case rel => exact ⟨_, cnt2, ks ++ [x], hrg3, by simp; omega, hC2, hJ3⟩
        case measure => rw [hrg3.left_eq, hrg.left_eq]; exact hlt
      · gi_wp2
        refine bodyPost_ret (results_none rfl _ _ _) rfl ?_
        exact ⟨⟨_, rfl⟩, .inr ⟨ks ++ [x], trivial, hJx3⟩⟩
theorem keys_stops (F : Fence) (n : Nat) (hf : F.fn 67) (hro : F.round = none) (hn : 1 ≤ n) (Bm b N : Nat) (f : Nat → Option Value) (w : World) (hBm : Bm < w.heap.size)
    (hm : w.cell? ⟨Bm, 0, none⟩ = some (.map (some b))) (hmp : Mp w b f N) :
    SeqStops F n Tryz.prog 67 #[.pointer (some ⟨Bm, 0, none⟩)] encU (AllK f) (fun _ => True) N w := fun l J Jx W hW hJ _ hY h0 =>
  keys1_in F n hf hro hn l Bm b N f J Jx hY W hJ ((hW.cell (p := ⟨Bm, 0, none⟩) hBm).trans hm) (hmp.below hW) h0
set_option maxHeartbeats 1000000 in
/-- maps.Keys -/
theorem keys_in (F : Fence) (n : Nat) (hf : F.fn 47) (hro : F.round = none) (mb : Option Nat) (w : World) :
    CallsIn F n Tryz.prog 47 #[.map mb] w fun e w' => e = .returned (.func (.func 67) #[] #[.pointer (some ⟨w.heap.size, 0, none⟩)]) ∧ w' = w.alloc (.cells #[.map mb] 99) := by
  refine callsIn_of_wp Tryz.func47 rfl hf ?_ hro
  simp only [Tryz.ntmps47, List.size_toArray, List.length_cons, List.length_nil, Nat.reduceAdd, Nat.reduceSub, Array.replicate_succ, Array.replicate_zero, List.push_toArray, List.append_toArray, List.nil_append, List.cons_append]
  gi_wp2
  go_ret
  exact ⟨rfl, rfl⟩
theorem u64_info : (Tryz.prog.info? 22).map (fun i => (i.zero, i.size, i.bytes)) = some (some (.int .u64 0), 1, 8) := by kernel_rfl
theorem ownsRow_low {W : World} {base base' : Nat} {e : TypeId} {size : Nat} {v : Value} {k : Nat} {xs : List Value} (h : W.ownsRow base e size v k xs) (hb : base' ≤ base) : W.ownsRow base' e size v k xs := row_base h fun k hk => by have := (h.lt k hk).1; omega
set_option maxRecDepth 100000 in
set_option maxHeartbeats 2000000 in
/-- slices.AppendSeq, of numbers -/
theorem appu_in (F : Fence) (n : Nat) (hf : F.fn 84) (hro : F.round = none) (hn : 2 ≤ n) (g : Nat) (lb : Array Value) (hFg : F.fn g) (eg : ∀ args w, (callFunc g args).run Tryz.prog w = .ok (.enter g args) w)
    (S Sp : List Nat → Prop) (N : Nat) (hN : N ≤ 1000000) (w : World) (hseq : SeqStops F (n - 1) Tryz.prog g lb encU S Sp N w) :
    CallsIn F n Tryz.prog 84 #[.slice none 0 0, .func (.func g) #[] lb] w fun e w' => ∃ (v : Value) (ks : List Nat), e = .returned v ∧ S ks ∧ w'.ownsRow w.heap.size 22 1 v ks.length (ks.map encU) ∧ Below w.heap.size w w' := by
  have h1 : 1 ≤ n := by omega
  obtain ⟨i0, hi, hz0, hz1, hz2⟩ := info_parts u64_info
  refine callsIn_of_wp_marks Tryz.func84 rfl hf ?_ hro
  simp only [Tryz.ntmps84, List.size_toArray, List.length_cons, List.length_nil, Nat.reduceAdd, Nat.reduceSub, Array.replicate_succ, Array.replicate_zero, List.push_toArray, List.append_toArray, List.nil_append, List.cons_append]
  gi_wp2
  refine wpIn_rangeFunc_ownF hro h1 (gf := g) (lb := lb) rfl hFg eg hseq walksK_t walksK_b ((Below.refl _ w).alloc (Nat.le_refl _) _) (fun _ => rfl)
    (fun pre W => (∃ v, Boxed W w.heap.size 57 v ∧ W.ownsRow w.heap.size 22 1 v pre.length (pre.map encU) ∧ True) ∧ Below w.heap.size w W)
    (fun _ _ _ => False)
    (OwnFrom.and (Own.from (holdsRow_own w.heap.size w.heap.size 57 22 1 (fun pre : List Nat => pre.length) (fun pre => pre.map encU) (fun _ _ => True)) _) (ownFrom_below (Nat.le_refl _) (by simp)))
    (fun _ _ _ _ _ hs _ _ => hs)
    ⟨⟨.slice none 0 0, Boxed.new w _ _, World.ownsRow_nil _ _ _ _, trivial⟩, (Below.refl _ w).alloc (Nat.le_refl _) _⟩
    (fun x => { tmps := #[.slice none 0 0, .func (.func g) #[] lb, .pointer (some ⟨w.heap.size, 0, none⟩), undef, .slice none 0 0, encU x, .func (.func g) #[] lb, encU x, undef, undef, undef, undef, undef], defers := [] }) ?assign ?body ?done ?stop
  case assign =>
    intro l x W K hK
    gi_wp2
    exact hK
  case body =>
    rintro l pre x W ⟨⟨v, hv, hrow, _⟩, hB⟩ hlt
    have hc := hv.cell
    have hfz := hv.frozen
    gi_wp2_with (first
      | (gi_at_builtin; refine wpListIn_append_own _ rfl _ _ 57 rfl w.heap.size 22 i0 (.int .u64 0) 1 8 Tryz.underlying57 hi hz0 hz1 hz2 rfl (by decide) _ _ _ rfl (hrow.alloc _) ⟨W.heap.size, 0, none⟩ 1 1 [encU x] rfl rfl (cell_one_new _ _ _) (by simp [Value.oneCell']) (by unfold maxLen; omega) (by omega) (by have := hB.size; simp; omega) ?_; intro v' w1 hown' hgrow _; obtain ⟨g', cap', rfl⟩ := ownsRow_succ hown'; obtain ⟨hv1, hv2, hr2, hk2, hb2⟩ := hv.appended (by decide) hrow hB.size (Nat.le_refl _) hown' hgrow; have hc1 := hv1.cell; have hf1 := hv1.frozen)
      | gi_in)
    exact ⟨hk2, hk2.walks, ⟨⟨_, hv2, by simpa using hr2, trivial⟩, hB.trans hb2⟩⟩
  case done =>
    rintro D ks W hD hS ⟨⟨v, hv, hrow, _⟩, hB⟩ hK
    have hc := hv.cell
    gi_wp2
    refine ⟨by simp, .inl ⟨_, _, rfl, run_takeDeferred hK, ?_⟩⟩
    refine ⟨_, results_tmp rfl _ _ _, v, ks, rfl, hS, ownsRow_putObj hrow _ hK rfl, hB.trans (belowK_b (w := w) (Nat.le_refl _) W D _ _ (by simp at hD; omega) hK rfl rfl)⟩
  case stop =>
    rintro D c pre W hD _ h _
    exact h.elim
set_option maxHeartbeats 1000000 in
/-- slices.Collect, of numbers -/
theorem colu_in (F : Fence) (n : Nat) (hf : F.fn 65) (hf2 : F.fn 84) (hro : F.round = none) (hn : 3 ≤ n) (g : Nat) (lb : Array Value) (hFg : F.fn g) (eg : ∀ args w, (callFunc g args).run Tryz.prog w = .ok (.enter g args) w)
    (S Sp : List Nat → Prop) (N : Nat) (hN : N ≤ 1000000) (w : World) (hseq : SeqStops F (n - 1 - 1) Tryz.prog g lb encU S Sp N w) :
    CallsIn F n Tryz.prog 65 #[.func (.func g) #[] lb] w fun e w' => ∃ (v : Value) (ks : List Nat), e = .returned v ∧ S ks ∧ w'.ownsRow w.heap.size 22 1 v ks.length (ks.map encU) ∧ Below w.heap.size w w' := by
  have h1 : 1 ≤ n := by omega
  refine callsIn_of_wp Tryz.func65 rfl hf ?_ hro
  simp only [Tryz.ntmps65, List.size_toArray, List.length_cons, List.length_nil, Nat.reduceAdd, Nat.reduceSub, Array.replicate_succ, Array.replicate_zero, List.push_toArray, List.append_toArray, List.nil_append, List.cons_append]
  gi_wp2_with (gi_at_call 84; refine (appu_in F (n - 1) hf2 hro (by omega) g lb hFg eg S Sp N hN _ hseq).mono ?_; rintro e w' ⟨v, ks, rfl, hS, hrow, hb⟩)
  go_ret
  exact ⟨v, ks, rfl, hS, hrow, hb⟩
end Go.Proofs.YtdmibolbpgondaaGreat.X15
end
