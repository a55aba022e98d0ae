/-
  slices.Sorted(maps.Keys(m)) of an empty map; Traces of no shard.
  A row of numbers that is sorted in its place: the world behind draws, exchanges and new blocks; cmp.Less.
  Numbers in their places: the insertion sort, the range turned round.
  Numbers in their places: the heap sort.
  Parting a range about a number; what its two sides, sorted, make of the whole.
-/
import Derived.Test.YtdmibolbpgondaaGreatKX15Size
import Derived.Test.YtdmibolbpgondaaGreatKX15SortS
import Derived.Test.YtdmibolbpgondaaGreatKX15Shd
import Derived.Test.YtdmibolbpgondaaGreatKFrs
import Derived.WalkKit
import Derived.BigQuiet
import Derived.BigGuard
import Derived.BigCall
import Derived.Deep.QuietTactic
import Derived.Sort.Walk13a
import Derived.Sort.AssemblyPlain
import Derived.CellFam
import Derived.Deep.CutRange
import Derived.Handy
section
set_option linter.unusedSimpArgs false
set_option linter.unusedVariables false
namespace Go.Proofs.YtdmibolbpgondaaGreat.X15
open Go.RowKit Go.Lib Go.Maps Go.Proofs.YtdmibolbpgondaaGreat.Wd Go.Proofs.YtdmibolbpgondaaGreat.P06
attribute [local go_sem] Oper.semAt_some
theorem oins_nil (A : Option Addr) (c : Nat) (w : World) : Calls Tryz.prog 108 #[.slice A 0 c, .int .i64 0, .int .i64 0] w fun e w' => e = .returned (.tuple #[]) ∧ w' = w := by
  go_enter Tryz.func108, Tryz.ntmps108
  go_wp2
  refine wp_loop_rounds 1 ?_
  rw [rounds_succ]
  go_wp2
  go_end0
  exact ⟨rfl, rfl⟩
theorem opdq_nil (A : Option Addr) (c : Nat) (lim : Int) (w : World) : Calls Tryz.prog 85 #[.slice A 0 c, .int .i64 0, .int .i64 0, .int .i64 lim] w fun e w' => e = .returned (.tuple #[]) ∧ w' = w := by
  go_enter Tryz.func85, Tryz.ntmps85
  go_wp2
  refine wp_loop_rounds 1 ?_
  rw [rounds_succ]
  go_wp2_with (go_at_call 108; refine (oins_nil A c _).mono ?_; rintro e w1 ⟨rfl, rfl⟩)
  go_returns
  exact ⟨rfl, rfl⟩
theorem osort_nil (A : Option Addr) (c : Nat) (w : World) : Calls Tryz.prog 66 #[.slice A 0 c] w fun e w' => e = .returned (.tuple #[]) ∧ w' = w := by
  have hl : ∀ W, Calls Tryz.prog 81 #[.int .u64 0] W fun e w' => e = .returned (.int .i64 (Lib.bitLen 0 : Nat)) ∧ w' = W := fun W => bitlen_any 0 W (by omega)
  go_enter Tryz.func66, Tryz.ntmps66
  go_wp2_with (first | (go_at_call 81; refine (hl _).mono ?_; rintro e w' ⟨rfl, rfl⟩) | (go_at_call 85; refine (opdq_nil _ _ _ _).mono ?_; rintro e w' ⟨rfl, rfl⟩))
  go_returns
  exact ⟨rfl, rfl⟩
set_option maxRecDepth 100000 in
set_option maxHeartbeats 2000000 in
theorem sortedu_nil {w : World} {b N Bm : Nat} (hm : w.cell? ⟨Bm, 0, none⟩ = some (.map (some b))) (h : Mp w b (fun _ => none) N) (hN : N ≤ 10000) :
    Calls Tryz.prog 46 #[.func (.func 67) #[] #[.pointer (some ⟨Bm, 0, none⟩)]] w fun e w' => (∃ A c, e = .returned (.slice A 0 c)) ∧ Below w.heap.size w w' := by
  refine (callsIn_wide (n := 9)).1 ?_
  have hBm : Bm < w.heap.size := World.block_lt_of_cell? _ _ hm
  have hst := keys_stops Fence.wide 6 trivial rfl (by omega) Bm b N (fun _ => none) w hBm hm h
  have hcol := colu_in Fence.wide 8 trivial trivial rfl (by omega) _ _ trivial (enters_of Tryz.func67 (by kernel_rfl) rfl) (AllK fun _ => none) (fun _ => True) N (by omega) w hst
  refine callsIn_of_wp Tryz.func46 rfl trivial ?_ rfl
  simp only [Tryz.ntmps46, List.size_toArray, List.length_cons, List.length_nil, Nat.reduceAdd, Nat.reduceSub, Array.replicate_succ, Array.replicate_zero, List.push_toArray, List.append_toArray, List.nil_append, List.cons_append]
  gi_wp2_with (refine ⟨trivial, ?_⟩; gi_at_call 65; refine hcol.mono ?_; rintro e w1 ⟨v, ks, rfl, hall, hrow, hb⟩; obtain ⟨A, c, rfl⟩ := own_form hrow)
  have hk : ks = [] := List.eq_nil_iff_forall_not_mem.2 fun x hx => by
    have := (hall.2 x).1 hx
    cases this
  subst hk
  dsimp only [List.length_nil]
  gi_wp2_with (refine ⟨trivial, ?_⟩; gi_at_call 66; refine (callsIn_wide.2 (osort_nil A c w1)).mono ?_; rintro e w2 ⟨rfl, rfl⟩)
  go_ret
  exact ⟨⟨_, _, rfl⟩, hb⟩
set_option maxRecDepth 20000 in
set_option maxHeartbeats 2000000 in
theorem traces_nil (w : World) : Calls Tryz.prog 23 #[.pointer none] w fun e w' => (∃ A c, e = .returned (.slice A 0 c)) ∧ Below w.heap.size w w' := by
  have ha := sall_nil w
  go_enter Tryz.func23, Tryz.ntmps23
  go_wp2_with fail
  refine ha.mono ?_
  rintro e w1 ⟨col, p, rfl, hR, hE, hb⟩
  have c5 := hR.cl.c5
  have hmt := hR.mt
  rw [hE.bi, hE.nt] at hmt
  have bx : Below w1.heap.size w1 (w1.alloc (.cells #[.map (some p.bt)] 99)) := (Below.refl _ _).alloc (Nat.le_refl _) _
  have hs := sortedu_nil (w := w1.alloc (.cells #[.map (some p.bt)] 99)) (Bm := w1.heap.size) (b := p.bt) (N := 0) (by simp) (hmt.below bx) (by omega)
  have HB := Lib.hid (hb.trans (bx.mono hb.size))
  clear hR hE hmt ha hb bx
  go_wp2_with fail
  refine ((callsIn_wide (n := 8)).1 (keys_in Fence.wide 8 trivial rfl (some p.bt) w1)).mono ?_
  rintro e w2 ⟨rfl, rfl⟩
  go_wp2_with fail
  refine hs.mono ?_
  rintro e w3 ⟨⟨A, c, rfl⟩, hb⟩
  have HB2 := Lib.hid (HB.out.trans (hb.mono HB.out.size))
  clear hb HB hs
  go_wp2
  go_returns
  exact ⟨⟨A, c, rfl⟩, HB2.out⟩
end Go.Proofs.YtdmibolbpgondaaGreat.X15
end

section
set_option linter.unusedSimpArgs false
set_option linter.unusedVariables false
namespace Go.Proofs.YtdmibolbpgondaaGreat.Ou
open Go.Sort Go.RowKit Go.Lib
abbrev eU : Int → Value := Value.int .u64
/-- the world is w, but for the N numbers from blk, off on, which are d's; and new blocks -/
structure Rs (w : World) (blk off N : Nat) (d : Array Int) (W : World) : Prop where
  at_ : At eU w blk off d W
  sz : d.size = N
  lt : blk < w.heap.size
  h0 : ∃ d0, Holds eU w blk off d0 ∧ d0.size = N
section
variable {w W : World} {blk off N : Nat} {d : Array Int}
theorem Rs.of (h : Holds eU w blk off d) (hb : blk < w.heap.size) : Rs w blk off d.size d w := ⟨At.refl h, rfl, hb, d, h, rfl⟩
theorem Rs.holds (h : Rs w blk off N d W) : Holds eU W blk off d ∧ blk < W.heap.size := by
  obtain ⟨d0, h0, hs⟩ := h.h0
  exact h.at_.holds h0 (h.sz.trans hs.symm) h.lt
theorem Rs.cell (h : Rs w blk off N d W) {t : Nat} (ht : t < N) : W.cell? ⟨blk, off + t, none⟩ = some (.int .u64 d[t]!) := (h.holds.1 t (by rw [h.sz]; exact ht)).1
theorem Rs.frozen (h : Rs w blk off N d W) {t : Nat} (ht : t < N) : W.frozen? ⟨blk, off + t, none⟩ = false := (h.holds.1 t (by rw [h.sz]; exact ht)).2
theorem Rs.base (h : Rs w blk off N d W) : w.heap.size ≤ W.heap.size := by
  obtain ⟨n, os, rfl⟩ := h.at_
  simp [grow]
theorem Rs.dn (h : Rs w blk off N d W) (q : Nat) : Rs w blk off N d (W.drewN q) := ⟨h.at_.ahead q, h.sz, h.lt, h.h0⟩
theorem Rs.drew (h : Rs w blk off N d W) : Rs w blk off N d W.drew := ⟨h.at_.ahead 1, h.sz, h.lt, h.h0⟩
theorem Rs.swp (h : Rs w blk off N d W) {i j : Nat} (hi : i < N) (hj : j < N) {u v : Int} (hu : u = d[i]!) (hv : v = d[j]!) : Rs w blk off N (swp d i j) ((W.setCell ⟨blk, off + i, none⟩ (.int .u64 v)).setCell ⟨blk, off + j, none⟩ (.int .u64 u)) := by
  subst hu hv
  have e := putRow_swp eU W blk off d i j (by rw [h.sz]; exact hi) (by rw [h.sz]; exact hj)
  rw [putRow_self eU W blk off d h.holds.1] at e
  exact ⟨h.at_.step h.lt (size_swp _ _ _) ⟨0, e⟩, by rw [size_swp]; exact h.sz, h.lt, h.h0⟩
theorem Rs.alloc (h : Rs w blk off N d W) (o : Obj) : Rs w blk off N d (W.alloc o) :=
  ⟨h.at_.stepG h.lt rfl ⟨0, #[o], by rw [alloc_eq_grow]; congr 1; exact (putRow_self eU W blk off d h.holds.1).symm⟩, h.sz, h.lt, h.h0⟩
theorem Rs.other (h : Rs w blk off N d W) {b : Nat} (hb : w.heap.size ≤ b) (o : Nat) (v : Value) : Rs w blk off N d (W.setCell ⟨b, o, none⟩ v) := by
  obtain ⟨n, os, e⟩ := h.at_
  refine ⟨⟨n, os.modify (b - w.heap.size) (onCells (·.setIfInBounds o v)), ?_⟩, h.sz, h.lt, h.h0⟩
  rw [e, setCell_eq, mapBlock_grow_new _ _ _ _ (by simpa using hb)]
  simp
end
/-- what a call leaves that sorts: the row turned about within a .. b -/
def PmOut (w : World) (blk off N a b : Nat) (d : Array Int) (e : Ending) (W' : World) : Prop := e = .returned (.tuple #[]) ∧ ∃ d', Rs w blk off N d' W' ∧ PermIn a b d d'
def SoOut (w : World) (blk off N a b : Nat) (d : Array Int) (e : Ending) (W' : World) : Prop := e = .returned (.tuple #[]) ∧ ∃ d', Rs w blk off N d' W' ∧ PermIn a b d d' ∧ SortedIn ltInt a b d'
theorem nan_any (z : Int) (W : World) : Calls Tryz.prog 107 #[.int .u64 z] W fun e w' => e = .returned (.bool false) ∧ w' = W := by
  go_enter Tryz.func107, Tryz.ntmps107
  go_wp2
  go_ret
  exact ⟨by simp, rfl⟩
theorem less_any (x y : Int) (W : World) : Calls Tryz.prog 114 #[.int .u64 x, .int .u64 y] W fun e w' => e = .returned (.bool (ltInt x y)) ∧ w' = W := by
  go_enter Tryz.func114, Tryz.ntmps114
  go_wp2_with (go_at_call 107; refine (nan_any _ _).mono ?_; rintro e w' ⟨rfl, rfl⟩)
  go_ret
  exact ⟨rfl, rfl⟩
end Go.Proofs.YtdmibolbpgondaaGreat.Ou
end

section
set_option linter.unusedSimpArgs false
set_option linter.unusedVariables false
namespace Go.Proofs.YtdmibolbpgondaaGreat.Ou
open Go.Sort Go.RowKit Go.Lib
section
variable {α : Type} [Inhabited α] (lt : α → α → Bool)
theorem inn_go {a j : Nat} {d : Array α} (hj : a < j) (hl : lt d[j]! d[j - 1]! = true) : insInner lt a j d = insInner lt a (j - 1) (swp d j (j - 1)) := by
  cases j with
  | zero => omega
  | succ k =>
    simp only [Nat.add_sub_cancel] at *
    rw [insInner, if_pos (by simp only [hl, Bool.and_true]; exact decide_eq_true hj)]
theorem inn_stop {a j : Nat} {d : Array α} (h : ¬ a < j ∨ lt d[j]! d[j - 1]! = false) : insInner lt a j d = d := by
  cases j with
  | zero => rw [insInner]
  | succ k =>
    simp only [Nat.add_sub_cancel] at h
    rw [insInner, if_neg]
    rcases h with h | h
    · simp only [Bool.and_eq_true, decide_eq_true_eq]; exact fun k => h k.1
    · simp [h]
theorem out_go {a b i : Nat} {d : Array α} (h : i < b) : insOuter lt a b i d = insOuter lt a b (i + 1) (insInner lt a i d) := by rw [insOuter, if_pos h]
theorem out_stop {a b i : Nat} {d : Array α} (h : ¬ i < b) : insOuter lt a b i d = d := by rw [insOuter, if_neg h]
end
set_option maxRecDepth 20000 in
set_option maxHeartbeats 2000000 in
theorem ins_any {w W : World} {blk off N c a b : Nat} {d : Array Int} (h : Rs w blk off N d W) (hab : a ≤ b) (hb : b ≤ N) (hN : N ≤ 100000) :
    Calls Tryz.prog 108 #[.slice (some ⟨blk, off, none⟩) N c, .int .i64 (a : Int), .int .i64 (b : Int)] W (SoOut w blk off N a b d) := by
  have H0 := Lib.hid h
  clear h
  go_enter Tryz.func108, Tryz.ntmps108
  go_wp2
  go_loopw [6] (fun vi wr => ∃ (i : Nat) (dk : Array Int), vi = .int .i64 (i : Int) ∧ a < i ∧ i ≤ b + 1 ∧ Hid (Rs w blk off N dk wr) ∧ Hid (insOuter ltInt a b i dk = insOuter ltInt a b (a + 1) d)) (fun vi _ => b + 1 - (intOf vi).toNat)
  case atStart => exact ⟨a + 1, d, by go_num, by omega, by omega, H0, Lib.hid rfl⟩
  case round =>
    obtain ⟨i, dk, rfl, hai, hib, HR, HO⟩ := hrel
    by_cases hlt : i < b
    · have hltz : (i : Int) < (b : Int) := by omega
      go_wp2_with fail
      go_loopw [7] (fun vj wr2 => ∃ (j : Nat) (dj : Array Int), vj = .int .i64 (j : Int) ∧ a ≤ j ∧ j ≤ i ∧ Hid (Rs w blk off N dj wr2) ∧ Hid (insInner ltInt a j dj = insInner ltInt a i dk)) (fun vj _ => (intOf vj).toNat)
      case atStart => exact ⟨i, dk, rfl, by omega, Nat.le_refl _, HR, Lib.hid rfl⟩
      case round =>
        obtain ⟨j, dj, rfl, haj, hji, HR2, HI⟩ := hrel
        obtain ⟨G, hG⟩ : ∃ G : Nat → Int, ∀ t, G t = dj[t]! := ⟨fun t => dj[t]!, fun _ => rfl⟩
        have hcw : ∀ t, t < N → wr.cell? ⟨blk, off + t, none⟩ = some (.int .u64 (G t)) := fun t ht => by rw [hG]; exact HR2.out.cell ht
        have hfw : ∀ t, t < N → wr.frozen? ⟨blk, off + t, none⟩ = false := fun t ht => HR2.out.frozen ht
        have HG := Lib.hid hG
        clear hG
        have OUT := Lib.hid (show (¬ a < j ∨ ltInt (G j) (G (j - 1)) = false) → Hid (insOuter ltInt a b (i + 1) dj = insOuter ltInt a b (a + 1) d) from fun hs => Lib.hid (by
          rw [← HO.out, out_go ltInt hlt, ← HI.out, inn_stop ltInt (by rw [← HG.out, ← HG.out]; exact hs)]))
        by_cases hja : a < j
        · have hjaz : (a : Int) < (j : Int) := by omega
          go_wp2_with fail
          go_quiet (first | (go_at_call 114; refine Calls.quiet_of_same (less_any _ _ _)))
          go_wp2
          · have hl : ltInt (G j) (G (j - 1)) = true := by assumption
            go_region
            all_goals go_wp2
            go_roundw
            case rel =>
              refine ⟨j - 1, swp dj j (j - 1), by congr 1; omega, by omega, by omega, Lib.hid ?_, Lib.hid ?_⟩
              · have := (HR2.out.dn nq).swp (i := j) (j := j - 1) (by omega) (by omega) (HG.out _) (HG.out _)
                exact this.drew
              · rw [← HI.out, inn_go ltInt hja (by rw [← HG.out, ← HG.out]; exact hl)]
            case measure => simp [intOf]; omega
          · have hl : ltInt (G j) (G (j - 1)) = false := by assumption
            go_roundw
            case rel => exact ⟨i + 1, dj, by go_num, by omega, by omega, Lib.hid (HR2.out.dn nq), OUT.out (.inr hl)⟩
            case measure => simp [intOf]; omega
        · have hjaz : decide ((a : Int) < (j : Int)) = false := decide_eq_false (by omega)
          go_wp2_with fail
          go_quiet (fail)
          go_wp2
          go_roundw
          case rel => exact ⟨i + 1, dj, by go_num, by omega, by omega, Lib.hid (HR2.out.dn nq), OUT.out (.inl hja)⟩
          case measure => simp [intOf]; omega
    · have hltz : ¬ (i : Int) < (b : Int) := by omega
      go_wp2
      go_end0
      have e := insertionSort_holds (lt := ltInt) swo_ltInt d a b hab (by rw [H0.out.sz]; exact hb)
      unfold Sort.insertionSort at e
      rw [← HO.out, out_stop ltInt hlt] at e
      exact ⟨rfl, dk, HR.out, e⟩
set_option maxRecDepth 20000 in
set_option maxHeartbeats 2000000 in
theorem rev_any {w W : World} {blk off N c a b : Nat} {d : Array Int} (h : Rs w blk off N d W) (hab : a < b) (hb : b ≤ N) (hN : N ≤ 100000) :
    Calls Tryz.prog 112 #[.slice (some ⟨blk, off, none⟩) N c, .int .i64 (a : Int), .int .i64 (b : Int)] W (PmOut w blk off N a b d) := by
  have H0 := Lib.hid h
  clear h
  go_enter Tryz.func112, Tryz.ntmps112
  go_wp2
  go_loopw [6, 7] (fun vi vj wr => ∃ (i j : Nat) (dk : Array Int), vi = .int .i64 (i : Int) ∧ vj = .int .i64 (j : Int) ∧ a ≤ i ∧ j < b ∧ i ≤ j + 1 ∧ Hid (Rs w blk off N dk wr ∧ PermIn a b d dk)) (fun vi vj _ => (intOf vj).toNat + 1 - (intOf vi).toNat)
  case atStart => exact ⟨a, b - 1, d, rfl, by go_num, Nat.le_refl _, by omega, by omega, Lib.hid ⟨H0.out, permIn_refl _ _ _⟩⟩
  case round =>
    obtain ⟨i, j, dk, rfl, rfl, hai, hjb, hij, HR⟩ := hrel
    by_cases hlt : i < j
    · have hltz : (i : Int) < (j : Int) := by omega
      obtain ⟨G, hG⟩ : ∃ G : Nat → Int, ∀ t, G t = dk[t]! := ⟨fun t => dk[t]!, fun _ => rfl⟩
      have hcw : ∀ t, t < N → wr.cell? ⟨blk, off + t, none⟩ = some (.int .u64 (G t)) := fun t ht => by rw [hG]; exact HR.out.1.cell ht
      have hfw : ∀ t, t < N → wr.frozen? ⟨blk, off + t, none⟩ = false := fun t ht => HR.out.1.frozen ht
      have HG := Lib.hid hG
      clear hG
      go_wp2_with fail
      go_region
      all_goals go_wp2
      go_roundw
      case rel =>
        refine ⟨i + 1, j - 1, swp dk i j, by go_num, by go_num, by omega, by omega, by omega, Lib.hid ⟨?_, ?_⟩⟩
        · exact (HR.out.1.swp (i := i) (j := j) (by omega) (by omega) (HG.out _) (HG.out _)).drew
        · exact permIn_trans _ _ _ _ _ HR.out.2 (swp_permIn _ a b i j hai (by omega) (by omega) hjb (by rw [HR.out.1.sz]; exact hb))
      case measure => simp [intOf]; omega
    · have hltz : ¬ (i : Int) < (j : Int) := by omega
      go_wp2
      go_end0
      exact ⟨rfl, dk, HR.out.1, HR.out.2⟩
end Go.Proofs.YtdmibolbpgondaaGreat.Ou
end

section
set_option linter.unusedSimpArgs false
set_option linter.unusedVariables false
namespace Go.Proofs.YtdmibolbpgondaaGreat.Ou
open Go.Sort Go.RowKit Go.Lib
section
variable {α : Type} [Inhabited α] (lt : α → α → Bool)
/-- the greater child -/
def chd (d : Array α) (hi F root : Nat) : Nat := if 2 * root + 2 < hi ∧ lt d[F + (2 * root + 1)]! d[F + (2 * root + 2)]! = true then 2 * root + 2 else 2 * root + 1
theorem chd_lt {d : Array α} {hi F root : Nat} (h : 2 * root + 1 < hi) : root < chd lt d hi F root ∧ chd lt d hi F root < hi := by
  unfold chd
  split <;> omega
theorem sift_end {d : Array α} {hi F root : Nat} (h : ¬ 2 * root + 1 < hi) : siftDown lt hi F root d = d := by rw [siftDown, dif_pos (by omega)]
theorem sift_step {d : Array α} {hi F root : Nat} (h : 2 * root + 1 < hi) : siftDown lt hi F root d = if lt d[F + root]! d[F + chd lt d hi F root]! = true then siftDown lt hi F (chd lt d hi F root) (swp d (F + root) (F + chd lt d hi F root)) else d := by
  have e : F + (2 * root + 1) + 1 = F + (2 * root + 2) := by omega
  rw [siftDown, dif_neg (by omega), e]
  unfold chd
  by_cases h2 : 2 * root + 2 < hi
  · cases h3 : lt d[F + (2 * root + 1)]! d[F + (2 * root + 2)]!
    · cases h4 : lt d[F + root]! d[F + (2 * root + 1)]! <;> simp [h2, h3, h4]
    · cases h4 : lt d[F + root]! d[F + (2 * root + 2)]! <;> simp [h2, h3, h4]
  · cases h4 : lt d[F + root]! d[F + (2 * root + 1)]! <;> simp [h2, h4]
theorem sift_size (hi F : Nat) : ∀ (n root : Nat) (d : Array α), hi - root ≤ n → (siftDown lt hi F root d).size = d.size := by
  intro n
  induction n with
  | zero => intro root d h; rw [sift_end lt (by omega)]
  | succ n ih =>
    intro root d h
    by_cases h1 : 2 * root + 1 < hi
    · have hc := chd_lt lt (d := d) (F := F) h1
      rw [sift_step lt h1]
      split
      · rw [ih _ _ (by omega), size_swp]
      · rfl
    · rw [sift_end lt h1]
end
def SfOut (w : World) (blk off N : Nat) (d : Array Int) (e : Ending) (W' : World) : Prop := e = .returned (.tuple #[]) ∧ Rs w blk off N d W'
set_option maxRecDepth 20000 in
set_option maxHeartbeats 4000000 in
theorem sift_any {w W : World} {blk off N c lo hi F : Nat} {d : Array Int} (h : Rs w blk off N d W) (hlo : lo ≤ hi) (hb : F + hi ≤ N) (hN : N ≤ 100000) :
    Calls Tryz.prog 137 #[.slice (some ⟨blk, off, none⟩) N c, .int .i64 (lo : Int), .int .i64 (hi : Int), .int .i64 (F : Int)] W (SfOut w blk off N (siftDown ltInt hi F lo d)) := by
  have H0 := Lib.hid h
  clear h
  go_enter Tryz.func137, Tryz.ntmps137
  go_wp2
  go_loopw [8] (fun v8 wr => ∃ (root : Nat) (dk : Array Int), v8 = .int .i64 (root : Int) ∧ root ≤ hi ∧ Hid (Rs w blk off N dk wr) ∧ Hid (siftDown ltInt hi F root dk = siftDown ltInt hi F lo d)) (fun v8 _ => hi - (intOf v8).toNat)
  case atStart => exact ⟨lo, d, rfl, hlo, H0, Lib.hid rfl⟩
  case round =>
    obtain ⟨root, dk, rfl, hr, HR, HE⟩ := hrel
    by_cases h1 : 2 * root + 1 < hi
    · have h1z : ¬ ((hi : Int) ≤ 2 * (root : Int) + 1) := by omega
      obtain ⟨G, hG⟩ : ∃ G : Nat → Int, ∀ t, G t = dk[t]! := ⟨fun t => dk[t]!, fun _ => rfl⟩
      have hcw : ∀ t, t < N → wr.cell? ⟨blk, off + t, none⟩ = some (.int .u64 (G t)) := fun t ht => by rw [hG]; exact HR.out.cell ht
      have HG := Lib.hid hG
      obtain ⟨ch, hch⟩ : ∃ ch, chd ltInt dk hi F root = ch := ⟨_, rfl⟩
      have hcl := chd_lt ltInt (d := dk) (F := F) h1
      rw [hch] at hcl
      have hstep := sift_step ltInt (d := dk) (F := F) h1
      rw [hch, HE.out] at hstep
      have HS := Lib.hid hstep
      have hcd : ∃ tb : Bool, ((2 * root + 2 < hi ∧ ltInt (G (F + (2 * root + 1))) (G (F + (2 * root + 2))) = tb) ∨ (¬ 2 * root + 2 < hi ∧ tb = false)) ∧ ((tb = true ∧ ch = 2 * root + 2) ∨ (tb = false ∧ ch = 2 * root + 1)) := by
        rw [hG, hG, ← hch]
        unfold chd
        by_cases k : 2 * root + 2 < hi
        · exact ⟨ltInt dk[F + (2 * root + 1)]! dk[F + (2 * root + 2)]!, .inl ⟨k, rfl⟩, by cases e : ltInt dk[F + (2 * root + 1)]! dk[F + (2 * root + 2)]! <;> simp [k, e]⟩
        · exact ⟨false, .inr ⟨k, rfl⟩, by simp [k]⟩
      obtain ⟨tb, hc1, hc2⟩ := hcd
      have HC := Lib.hid hc1
      have HC2 := Lib.hid hc2
      obtain ⟨g1, g2⟩ := hcl
      clear hG hch hstep hc1 hc2
      go_wp2_with fail
      go_cut [36] from 11 to 75 (fun v wx => v = .bool tb ∧ Hid (Rs w blk off N dk wx))
      case first =>
        rcases HC.out with ⟨k1, k2⟩ | ⟨k1, rfl⟩
        · have k1z : 2 * (root : Int) + 1 + 1 < (hi : Int) := by omega
          go_quiet (first | (go_at_call 114; refine Calls.quiet_of_same (less_any _ _ _)))
          go_wp2_with fail
          go_meet
          exact ⟨congrArg Value.bool k2, Lib.hid (HR.out.dn nq)⟩
        · have k1z : decide (2 * (root : Int) + 1 + 1 < (hi : Int)) = false := decide_eq_false (by omega)
          go_quiet (fail)
          go_wp2_with fail
          go_meet
          exact ⟨rfl, Lib.hid (HR.out.dn nq)⟩
      case rest =>
       clear hcw HR HC
       obtain ⟨rfl, HR⟩ := hcut
       go_upto_if 36 with fail
       go_cut [9] from 11 to 75 (fun v9 wx => v9 = .int .i64 (ch : Int) ∧ wx = wc)
       case first =>
        rcases HC2.out with ⟨rfl, rfl⟩ | ⟨rfl, rfl⟩
        · go_wp2_with fail
          go_meet
          exact ⟨by first | rfl | (congr 1 <;> omega), rfl⟩
        · go_wp2_with fail
          go_meet
          exact ⟨by first | rfl | (congr 1 <;> omega), rfl⟩
       case rest =>
        obtain ⟨rfl, rfl⟩ := hcut
        have hcw : ∀ t, t < N → wc.cell? ⟨blk, off + t, none⟩ = some (.int .u64 (G t)) := fun t ht => by rw [HG.out]; exact HR.out.cell ht
        go_wp2_with fail
        go_quiet (first | (go_at_call 114; refine Calls.quiet_of_same (less_any _ _ _)))
        have HR2 : Hid (Rs w blk off N dk (wc.drewN nq)) := Lib.hid (HR.out.dn nq)
        clear hcw HR
        generalize wc.drewN nq = wd at HR2 ⊢
        have hcw : ∀ t, t < N → wd.cell? ⟨blk, off + t, none⟩ = some (.int .u64 (G t)) := fun t ht => by rw [HG.out]; exact HR2.out.cell ht
        have hfw : ∀ t, t < N → wd.frozen? ⟨blk, off + t, none⟩ = false := fun t ht => HR2.out.frozen ht
        cases hl : ltInt (G (F + root)) (G (F + ch)) with
        | false =>
          have hl2 : ltInt dk[F + root]! dk[F + ch]! = false := by rw [← HG.out, ← HG.out]; exact hl
          go_wp2_with fail
          go_returns
          refine ⟨rfl, ?_⟩
          have := HS.out
          rw [hl2, if_neg (by decide)] at this
          rw [this]
          exact HR2.out
        | true =>
          have hl2 : ltInt dk[F + root]! dk[F + ch]! = true := by rw [← HG.out, ← HG.out]; exact hl
          go_wp2_with fail
          go_region
          all_goals go_wp2
          go_roundw
          case rel =>
            refine ⟨ch, swp dk (F + root) (F + ch), rfl, by omega, Lib.hid ?_, Lib.hid ?_⟩
            · exact (HR2.out.swp (i := F + root) (j := F + ch) (by omega) (by omega) (HG.out _) (HG.out _)).drew
            · have := HS.out
              rw [hl2, if_pos rfl] at this
              exact this.symm
          case measure => simp [intOf]; omega
    · have h1z : (hi : Int) ≤ 2 * (root : Int) + 1 := by omega
      go_wp2
      go_end0
      refine ⟨rfl, ?_⟩
      rw [← HE.out, sift_end ltInt h1]
      exact HR.out
set_option maxRecDepth 20000 in
set_option maxHeartbeats 4000000 in
theorem heap_any {w W : World} {blk off N c a b : Nat} {d : Array Int} (h : Rs w blk off N d W) (hab : a < b) (hb : b ≤ N) (hN : N ≤ 100000) :
    Calls Tryz.prog 109 #[.slice (some ⟨blk, off, none⟩) N c, .int .i64 (a : Int), .int .i64 (b : Int)] W (SoOut w blk off N a b d) := by
  obtain ⟨n, hn⟩ : ∃ n, b - a = n := ⟨_, rfl⟩
  have e1 : (b : Int) - (a : Int) = (n : Int) := by omega
  obtain ⟨m, hm⟩ : ∃ m, (n - 1) / 2 = m := ⟨_, rfl⟩
  have e2 : ((n : Int) - 1).tdiv 2 = (m : Int) := by rw [Int.tdiv_eq_ediv_of_nonneg (by omega)]; omega
  have e3 : ((n : Int) - 1) / 2 = (m : Int) := by omega
  have H0 := Lib.hid h
  have hz := h.sz
  clear h
  go_enter Tryz.func109, Tryz.ntmps109
  go_wp2
  go_loopw [9] (fun v9 wr => ∃ (k : Nat) (dk : Array Int), v9 = .int .i64 ((k : Int) - 1) ∧ k ≤ m + 1 ∧ Hid (Rs w blk off N dk wr) ∧ Hid (heapBuild ltInt n a k dk = heapBuild ltInt n a (m + 1) d)) (fun v9 _ => ((intOf v9) + 1).toNat)
  case atStart => exact ⟨m + 1, d, by go_num, Nat.le_refl _, H0, Lib.hid rfl⟩
  case round =>
    obtain ⟨k, dk, rfl, hk, HR, HE⟩ := hrel
    cases k with
    | zero =>
      have hB : Hid (dk = heapBuild ltInt n a (m + 1) d) := Lib.hid HE.out
      have e0 : ((0 : Nat) : Int) - 1 = -1 := rfl
      rw [e0]
      go_wp2
      go_loopw [10] (fun v10 wr2 => ∃ (k : Nat) (dj : Array Int), v10 = .int .i64 ((k : Int) - 1) ∧ k ≤ n ∧ Hid (Rs w blk off N dj wr2) ∧ Hid (heapPop ltInt a k dj = heapPop ltInt a n dk)) (fun v10 _ => ((intOf v10) + 1).toNat)
      case atStart => exact ⟨n, dk, by go_num, Nat.le_refl _, HR, Lib.hid rfl⟩
      case round =>
        obtain ⟨k, dj, rfl, hk, HR2, HE2⟩ := hrel
        cases k with
        | zero =>
          rw [e0]
          go_wp2
          go_end0
          have e : dj = heapSort ltInt d a b := by
            unfold Sort.heapSort
            rw [hn, hm, ← hB.out, ← HE2.out]
            rfl
          have q := heapSort_holds (lt := ltInt) swo_ltInt d a b (Nat.le_of_lt hab) (by omega)
          rw [← e] at q
          exact ⟨rfl, dj, HR2.out, q⟩
        | succ k =>
          obtain ⟨G, hG⟩ : ∃ G : Nat → Int, ∀ t, G t = dj[t]! := ⟨fun t => dj[t]!, fun _ => rfl⟩
          have hcw : ∀ t, t < N → wr.cell? ⟨blk, off + t, none⟩ = some (.int .u64 (G t)) := fun t ht => by rw [hG]; exact HR2.out.cell ht
          have hfw : ∀ t, t < N → wr.frozen? ⟨blk, off + t, none⟩ = false := fun t ht => HR2.out.frozen ht
          have HG := Lib.hid hG
          clear hG
          have e4 : ((k + 1 : Nat) : Int) - 1 = (k : Int) := by omega
          rw [e4]
          rcases Nat.eq_zero_or_pos k with hk0 | hkp
          · subst hk0
            go_wp2_with fail
            go_region
            go_wp2_with fail
            have hs := (HR2.out.swp (i := a) (j := a) (by omega) (by omega) (HG.out _) (HG.out _)).drew
            refine (sift_any (c := c) (lo := 0) (hi := 0) (F := a) hs (Nat.le_refl _) (by omega) hN).mono ?_
            rintro e w1 ⟨rfl, hw1⟩
            have HW := Lib.hid hw1
            clear hw1 hs
            go_wp2
            go_roundw
            case rel => exact ⟨0, _, by simp, by omega, Lib.hid HW.out, Lib.hid HE2.out⟩
            case measure => simp [intOf]
          · go_wp2_with fail
            go_region
            go_wp2_with fail
            have hs := (HR2.out.swp (i := a) (j := a + k) (by omega) (by omega) (HG.out _) (HG.out _)).drew
            refine (sift_any (c := c) (lo := 0) (hi := k) (F := a) hs (Nat.zero_le _) (by omega) hN).mono ?_
            rintro e w1 ⟨rfl, hw1⟩
            have HW := Lib.hid hw1
            clear hw1 hs
            go_wp2
            go_roundw
            case rel => exact ⟨k, _, rfl, by omega, Lib.hid HW.out, Lib.hid HE2.out⟩
            case measure => first | (simp [intOf]; done) | (simp [intOf]; omega)
    | succ k =>
      have e4 : ((k + 1 : Nat) : Int) - 1 = (k : Int) := by omega
      rw [e4]
      have hs := HR.out
      go_wp2_with fail
      refine (sift_any (c := c) (lo := k) (hi := n) (F := a) hs (by omega) (by omega) hN).mono ?_
      rintro e w1 ⟨rfl, hw1⟩
      have HW := Lib.hid hw1
      clear hw1 hs
      go_wp2
      go_roundw
      case rel => exact ⟨k, _, rfl, by omega, Lib.hid HW.out, Lib.hid HE.out⟩
      case measure => first | (simp [intOf]; done) | (simp [intOf]; omega)
end Go.Proofs.YtdmibolbpgondaaGreat.Ou
end

section
set_option linter.unusedSimpArgs false
set_option linter.unusedVariables false
namespace Go.Proofs.YtdmibolbpgondaaGreat.Ou
open Go.Sort
theorem lt_of {x y : Int} (h : ltInt x y = true) : x < y := of_decide_eq_true h
theorem le_of {x y : Int} (h : ltInt x y = false) : y ≤ x := by have := of_decide_eq_false h; omega
theorem swp_l {d : Array Int} {i j : Nat} (hi : i < d.size) (hj : j < d.size) : (swp d i j)[i]! = d[j]! := by
  rw [swp_get d hi hj i]
  by_cases h : i = j
  · subst h; simp
  · simp [h]
theorem swp_r {d : Array Int} {i j : Nat} (hi : i < d.size) (hj : j < d.size) : (swp d i j)[j]! = d[i]! := by
  rw [swp_get d hi hj j]; simp
theorem swp_o {d : Array Int} {i j t : Nat} (hi : i < d.size) (hj : j < d.size) (h1 : t ≠ i) (h2 : t ≠ j) : (swp d i j)[t]! = d[t]! := by
  rw [swp_get d hi hj t]; simp [h1, h2]
/-- half way: what lies ahead of i goes left, what lies behind j does not -/
structure Pt (lf : Int → Bool) (P : Int) (d : Array Int) (a b i j : Nat) (dk : Array Int) : Prop where
  pm : PermIn a b d dk
  eq : dk[a]! = P
  up : ∀ t, a < t → t < i → lf dk[t]! = true
  dn : ∀ t, j < t → t < b → lf dk[t]! = false
  ai : a < i
  ij : i ≤ j + 1
  jb : j < b
section
variable {lf : Int → Bool} {P : Int} {d dk : Array Int} {a b i j : Nat}
theorem Pt.start {pv : Nat} (hp : a ≤ pv) (hb : pv < b) (hs : b ≤ d.size) (hP : d[pv]! = P) : Pt lf P d a b (a + 1) (b - 1) (swp d a pv) :=
  ⟨swp_permIn _ a b a pv (Nat.le_refl _) (by omega) hp hb hs, by rw [swp_l (by omega) (by omega), hP], fun t h1 h2 => by omega, fun t h1 h2 => by omega, by omega, by omega, by omega⟩
theorem Pt.goU (h : Pt lf P d a b i j dk) (hij : i ≤ j) (hl : lf dk[i]! = true) : Pt lf P d a b (i + 1) j dk :=
  ⟨h.pm, h.eq, fun t h1 h2 => by
    by_cases e : t = i
    · rw [e]; exact hl
    · exact h.up t h1 (by omega), h.dn, by have := h.ai; omega, by omega, h.jb⟩
theorem Pt.goD (h : Pt lf P d a b i j dk) (hij : i ≤ j) (hl : lf dk[j]! = false) : Pt lf P d a b i (j - 1) dk :=
  ⟨h.pm, h.eq, h.up, fun t h1 h2 => by
    by_cases e : t = j
    · rw [e]; exact hl
    · exact h.dn t (by omega) h2, h.ai, by have := h.ai; omega, by have := h.jb; omega⟩
theorem Pt.lt (h : Pt lf P d a b i j dk) (hij : i ≤ j) (h1 : lf dk[i]! = false) (h2 : lf dk[j]! = true) : i < j := by
  by_cases e : i = j
  · rw [e, h2] at h1; cases h1
  · omega
theorem Pt.goS (h : Pt lf P d a b i j dk) (hs : b ≤ d.size) (hij : i ≤ j) (h1 : lf dk[i]! = false) (h2 : lf dk[j]! = true) : Pt lf P d a b (i + 1) (j - 1) (swp dk i j) := by
  have hlt := h.lt hij h1 h2
  have ai := h.ai
  have jb := h.jb
  have hz : dk.size = d.size := h.pm.1
  refine ⟨permIn_trans _ _ _ _ _ h.pm (swp_permIn _ a b i j (by omega) (by omega) (by omega) jb (by omega)), by rw [swp_o (by omega) (by omega) (by omega) (by omega)]; exact h.eq, fun t k1 k2 => ?_, fun t k1 k2 => ?_, by omega, by omega, by omega⟩
  · by_cases e : t = i
    · rw [e, swp_l (by omega) (by omega)]; exact h2
    · rw [swp_o (by omega) (by omega) e (by omega)]; exact h.up t k1 (by omega)
  · by_cases e : t = j
    · rw [e, swp_r (by omega) (by omega)]; exact h1
    · rw [swp_o (by omega) (by omega) (by omega) e]; exact h.dn t (by omega) k2
end
/-- what partitionOrdered leaves -/
structure Po (d : Array Int) (a b m : Nat) (d4 : Array Int) : Prop where
  pm : PermIn a b d d4
  am : a ≤ m
  mb : m < b
  lo : ∀ t, a ≤ t → t < m → ltInt d4[t]! d4[m]! = true
  hi : ∀ t, m < t → t < b → ltInt d4[t]! d4[m]! = false
theorem Pt.fin {P : Int} {d dk : Array Int} {a b i j : Nat} (h : Pt (fun x => ltInt x P) P d a b i j dk) (hs : b ≤ d.size) (hij : j < i) : Po d a b j (swp dk j a) := by
  have ai := h.ai
  have jb := h.jb
  have ij := h.ij
  have hz : dk.size = d.size := h.pm.1
  have e0 : (swp dk j a)[j]! = P := by rw [swp_l (by omega) (by omega)]; exact h.eq
  refine ⟨permIn_trans _ _ _ _ _ h.pm (swp_permIn _ a b j a (by omega) jb (Nat.le_refl _) (by omega) (by omega)), by omega, jb, fun t k1 k2 => ?_, fun t k1 k2 => ?_⟩
  · rw [e0]
    by_cases e : t = a
    · rw [e, swp_r (by omega) (by omega)]
      exact h.up j (by omega) (by omega)
    · rw [swp_o (by omega) (by omega) (by omega) e]
      exact h.up t (by omega) (by omega)
  · rw [e0, swp_o (by omega) (by omega) (by omega) (by omega)]
    exact h.dn t k1 k2
/-- what partitionEqualOrdered leaves -/
structure Pe (d : Array Int) (a b m : Nat) (P : Int) (d4 : Array Int) : Prop where
  pm : PermIn a b d d4
  am : a < m
  mb : m ≤ b
  lo : ∀ t, a ≤ t → t < m → ltInt P d4[t]! = false
  hi : ∀ t, m ≤ t → t < b → ltInt P d4[t]! = true
theorem Pt.fine {P : Int} {d dk : Array Int} {a b i j : Nat} (h : Pt (fun x => !ltInt P x) P d a b i j dk) (hij : j < i) : Pe d a b i P dk := by
  have ai := h.ai
  have jb := h.jb
  have ij := h.ij
  refine ⟨h.pm, ai, by omega, fun t k1 k2 => ?_, fun t k1 k2 => ?_⟩
  · by_cases e : t = a
    · rw [e, h.eq]
      exact swo_ltInt.irrefl P
    · have := h.up t (by omega) k2
      simpa using this
  · have := h.dn t (by omega) k2
    simpa using this
/-- whatever is sorted there, the whole then is -/
def Whole (d : Array Int) (a b : Nat) (dk : Array Int) (a' b' : Nat) : Prop := ∀ R, PermIn a' b' dk R → SortedIn ltInt a' b' R → PermIn a b d R ∧ SortedIn ltInt a b R
theorem Whole.refl (d : Array Int) (a b : Nat) : Whole d a b d a b := fun R h k => ⟨h, k⟩
section
variable {d dk d2 d4 : Array Int} {a b a' b' m : Nat}
theorem Whole.perm (h : Whole d a b dk a' b') (hp : PermIn a' b' dk d2) : Whole d a b d2 a' b' := fun R k1 k2 => h R (permIn_trans _ _ _ _ _ hp k1) k2
theorem Po.below (h : Po dk a' b' m d4) (hb : b' ≤ dk.size) (hB : Below ltInt a' b' dk) : Below ltInt a' m d4 ∧ Below ltInt (m + 1) b' d4 :=
  ⟨(hB.perm hb h.pm).mono (by have := h.mb; omega), .inr fun i h1 h2 => by rw [Nat.add_sub_cancel]; exact h.hi i (by omega) h2⟩
theorem Po.left (h : Po dk a' b' m d4) (hb : b' ≤ dk.size) (hW : Whole d a b dk a' b') {L : Array Int} (hL : PermIn a' m d4 L) (hs : SortedIn ltInt a' m L) : Below ltInt (m + 1) b' L ∧ Whole d a b L (m + 1) b' := by
  have am := h.am
  have mb := h.mb
  have hz : d4.size = dk.size := h.pm.1
  have hzL : L.size = d4.size := hL.1
  have eL : ∀ i, m ≤ i → L[i]! = d4[i]! := fun i hi => hL.2.1 i (.inr hi)
  refine ⟨.inr fun i h1 h2 => by rw [Nat.add_sub_cancel, eL i (by omega), eL m (Nat.le_refl _)]; exact h.hi i (by omega) h2, fun R hR hsR => ?_⟩
  have eR : ∀ i, i ≤ m → R[i]! = L[i]! := fun i hi => hR.2.1 i (.inl (by omega))
  refine hW R (permIn_trans _ _ _ _ _ h.pm (permIn_trans _ _ _ _ _ (permIn_mono _ _ a' m a' b' (Nat.le_refl _) (by omega) (by omega) hL) (permIn_mono _ _ (m + 1) b' a' b' (by omega) (Nat.le_refl _) (by omega) hR))) ?_
  refine sorted_glue swo_ltInt (hs.congr fun i _ hi => eR i (by omega)) hsR (fun i h1 h2 => ?_) (fun i h1 h2 => ?_)
  · rw [eR i (by omega), eR m (Nat.le_refl _), eL m (Nat.le_refl _)]
    exact permIn_all d4 L a' m (fun x => ltInt x d4[m]! = true) (by omega) hL h.lo i h1 h2
  · rw [eR m (Nat.le_refl _), eL m (Nat.le_refl _)]
    exact permIn_all L R (m + 1) b' (fun x => ltInt x d4[m]! = false) (by omega) hR (fun k k1 k2 => by rw [eL k (by omega)]; exact h.hi k (by omega) k2) i (by omega) h2
theorem Po.right (h : Po dk a' b' m d4) (hb : b' ≤ dk.size) (hB : Below ltInt a' b' dk) (hW : Whole d a b dk a' b') {L : Array Int} (hL : PermIn (m + 1) b' d4 L) (hs : SortedIn ltInt (m + 1) b' L) : Below ltInt a' m L ∧ Whole d a b L a' m := by
  have am := h.am
  have mb := h.mb
  have hz : d4.size = dk.size := h.pm.1
  have hzL : L.size = d4.size := hL.1
  have eL : ∀ i, i ≤ m → L[i]! = d4[i]! := fun i hi => hL.2.1 i (.inl (by omega))
  refine ⟨?_, fun R hR hsR => ?_⟩
  · rcases (h.below hb hB).1 with h0 | h0
    · exact .inl h0
    · by_cases ha : a' = 0
      · exact .inl ha
      · exact .inr fun i h1 h2 => by rw [eL i (by omega), eL (a' - 1) (by omega)]; exact h0 i h1 h2
  have eR : ∀ i, m ≤ i → R[i]! = L[i]! := fun i hi => hR.2.1 i (.inr hi)
  refine hW R (permIn_trans _ _ _ _ _ h.pm (permIn_trans _ _ _ _ _ (permIn_mono _ _ (m + 1) b' a' b' (by omega) (Nat.le_refl _) (by omega) hL) (permIn_mono _ _ a' m a' b' (Nat.le_refl _) (by omega) (by omega) hR))) ?_
  refine sorted_glue swo_ltInt hsR (hs.congr fun i hi _ => eR i (by omega)) (fun i h1 h2 => ?_) (fun i h1 h2 => ?_)
  · rw [eR m (Nat.le_refl _), eL m (Nat.le_refl _)]
    exact permIn_all L R a' m (fun x => ltInt x d4[m]! = true) (by omega) hR (fun k k1 k2 => by rw [eL k (by omega)]; exact h.lo k k1 k2) i h1 h2
  · rw [eR i (by omega), eR m (Nat.le_refl _), eL m (Nat.le_refl _)]
    exact permIn_all d4 L (m + 1) b' (fun x => ltInt x d4[m]! = false) (by omega) hL (fun k k1 k2 => h.hi k (by omega) k2) i (by omega) h2
theorem Pe.right {pv : Nat} (h : Pe dk a' b' m dk[pv]! d4) (hb : b' ≤ dk.size) (hp : a' ≤ pv ∧ pv < b') (ha : 0 < a') (hB : Below ltInt a' b' dk) (hn : ltInt dk[a' - 1]! dk[pv]! = false) (hW : Whole d a b dk a' b') : Below ltInt m b' d4 ∧ Whole d a b d4 m b' := by
  have am := h.am
  have mb := h.mb
  have hz : d4.size = dk.size := h.pm.1
  have hge : ∀ i, a' ≤ i → i < b' → ltInt dk[i]! dk[pv]! = false := fun i h1 h2 => by
    rcases hB with h0 | h0
    · omega
    · exact swo_ltInt.ntrans _ _ _ (h0 i h1 h2) hn
  have hge4 := permIn_all dk d4 a' b' (fun x => ltInt x dk[pv]! = false) hb h.pm hge
  refine ⟨.inr fun i h1 h2 => ?_, fun R hR hs => hW R (permIn_trans _ _ _ _ _ h.pm (permIn_mono _ _ m b' a' b' (by omega) (Nat.le_refl _) (by omega) hR)) ?_⟩
  · have k1 := lt_of (h.hi i h1 h2)
    have k2 := le_of (h.lo (m - 1) (by omega) (by omega))
    exact decide_eq_false (by omega)
  · have eR : ∀ i, i < m → R[i]! = d4[i]! := fun i hi => hR.2.1 i (.inl hi)
    refine sorted_glue_eq swo_ltInt dk[pv]! hs (fun i h1 h2 => ?_) (fun i h1 h2 => ?_) (permIn_all d4 R m b' (fun x => ltInt dk[pv]! x = true) (by omega) hR h.hi)
    · rw [eR i h2]; exact h.lo i h1 h2
    · rw [eR i h2]; exact hge4 i h1 (by omega)
end
end Go.Proofs.YtdmibolbpgondaaGreat.Ou
end
