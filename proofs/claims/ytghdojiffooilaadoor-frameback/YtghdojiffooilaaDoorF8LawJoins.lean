/-
  The walk of FrameJoins: whole frames and any bytes behind them.
-/
import Derived.Test.YtghdojiffooilaaDoorF8Alive
import Derived.Test.YtghdojiffooilaaDoorF8All
import Derived.Deep.QuietTactic
import Derived.BigQuiet
namespace Go.Proofs.YtghdojiffooilaaDoor.F08
open Go.RowKit Go.Lib Go.Proofs.YtghdojiffooilaaDoor.Wd
open Go.Proofs.YtghdojiffooilaaDoor.C02 (Tb)

theorem allG_le : ∀ (f : Nat) (b : List UInt8), (allG f b).2.2 ≤ b.length ∧ (allG f b).2.1 ≤ (allG f b).2.2 ∧ (allG f b).1.length ≤ (allG f b).2.2
  | 0, b => by simp [allG]
  | f + 1, b => by
    obtain ⟨x, n, e, hn⟩ : ∃ x n e, nextF b = (x, n, e) := ⟨_, _, _, rfl⟩
    have hc := next_cases hn
    have ih := allG_le f (b.drop n)
    simp only [List.length_drop] at ih
    simp only [allG, hn]
    by_cases h0 : e = 0
    · rw [if_pos h0]
      simp only [List.length_cons]
      omega
    · by_cases h1 : e = 12
      · rw [if_neg h0, if_pos h1]
        dsimp only
        omega
      · rw [if_neg h0, if_neg h1]
        simp
theorem all_le {b : List UInt8} {N : List (List UInt8)} {sp en : Nat} (h : allF b = (N, sp, en)) : en ≤ b.length ∧ sp ≤ en ∧ N.length ≤ en := by
  have := allG_le b.length b
  unfold allF at h
  rw [h] at this
  exact this

/-- where the loop that wraps them is -/
structure CatRel (m : Nat) (L : List (List UInt8)) (k : Nat) (bs : List UInt8) : Prop where
  le : k ≤ L.length
  eq : cat (L.take k) = bs
  small : ∀ x ∈ L.take k, x.length ≤ m
theorem CatRel.start (m : Nat) (L : List (List UInt8)) : CatRel m L 0 [] := ⟨Nat.zero_le _, rfl, by simp⟩
theorem CatRel.step {m : Nat} {L : List (List UInt8)} {k : Nat} {bs : List UInt8} (h : CatRel m L k bs) (hk : k < L.length) (hs : L[k].length ≤ m) : CatRel m L (k + 1) (bs ++ frm L[k]) := by
  refine ⟨by omega, by rw [cat_take L k hk, h.eq], fun x hx => ?_⟩
  rw [List.take_add_one, List.getElem?_eq_getElem hk] at hx
  rcases List.mem_append.1 hx with hx | hx
  · exact h.small x hx
  · simp only [Option.toList_some, List.mem_singleton] at hx
    subst hx
    exact hs
theorem CatRel.len {m : Nat} {L : List (List UInt8)} {k : Nat} {bs : List UInt8} (h : CatRel m L k bs) : bs.length ≤ k * (m + 14) := by
  have := cat_len m (L.take k) h.small
  rw [h.eq] at this
  exact Nat.le_trans this (Nat.mul_le_mul_right _ (by simp; omega))
theorem CatRel.all {m : Nat} {L : List (List UInt8)} {k : Nat} {bs : List UInt8} (h : CatRel m L k bs) (hk : ¬ k < L.length) : cat L = bs ∧ ∀ x ∈ L, x.length ≤ m := by
  have e : L.take k = L := List.take_of_length_le (by omega)
  have h1 := h.eq
  have h2 := h.small
  rw [e] at h1 h2
  exact ⟨h1, h2⟩

set_option maxRecDepth 20000 in
set_option maxHeartbeats 4000000 in
theorem joins_law (A B : Option Addr) (c d len lr : Nat) (L : List (List UInt8)) (rest : List UInt8) (w : World) (hT : Tb w) (ha : Bss w A c L) (hlen : L.length = len) (hr : Bs w B d rest) (hlr : rest.length = lr) :
    Calls Tryd.prog 6 #[.slice A len c, .slice B lr d] w fun e w' => e = .returned (.bool true) ∧ Below w.heap.size w w' := by
  obtain ⟨i0, hi, hq0, hq1, hq2⟩ := info_parts byte_info
  have hlm := Nat.le_trans ha.cap ha.max
  have hrm := Nat.le_trans hr.cap hr.max
  unfold maxLen at hlm hrm
  by_cases hl : len ≤ 20
  · by_cases hl2 : lr ≤ 300
    · have g1 : ¬ (20 : Int) < (len : Int) := by omega
      have g2 : ¬ (300 : Int) < (lr : Int) := by omega
      obtain ⟨N, sp, en, hN⟩ : ∃ N sp en, allF rest = (N, sp, en) := ⟨_, _, _, rfl⟩
      have hNl := all_le hN
      go_enter Tryd.func6, Tryd.ntmps6
      go_wp2_with fail
      refine (alive_any _ hT).mono ?_
      rintro x w1 ⟨rfl, hb1⟩
      have ha1 := ha.below hb1
      have hr1 := hr.below hb1
      have hT1 := hT.below hb1
      clear ha hT hr
      go_wp2_with fail
      go_loopw [5, 6] (fun v i wr => ∃ k bs A' c', v = .slice A' (bs : List UInt8).length c' ∧ i = .int .i64 (k : Nat) ∧ CatRel 300 L k bs ∧
        wr.ownsRow w1.heap.size 5 1 (.slice A' bs.length c') bs.length (Lib.byteCells bs) ∧ Below w1.heap.size w1 wr) (fun _ i _ => len - (RowKit.intOf i).toNat)
      case atStart => exact ⟨0, [], none, 0, rfl, rfl, CatRel.start _ _, World.ownsRow_nil _ _ _ _, Below.refl _ _⟩
      case round =>
        obtain ⟨k, bs, A2, c2, rfl, rfl, hrel, hown, hb⟩ := hrel
        have hk := hrel.le
        have hbl := hrel.len
        by_cases h : k < len
        · obtain ⟨ad, Ai, ci, rfl, hcell1, hB1⟩ := ha1.get (i := k) (by omega)
          have hblk := World.block_lt_of_cell? _ _ hcell1
          have hcell := (hb.cell hblk).trans hcell1
          have hB := hB1.below hb
          by_cases h300 : L[k].length ≤ 300
          · have R := hrel.step (by omega) h300
            obtain ⟨f, hf⟩ : ∃ f, frm L[k] = f := ⟨_, rfl⟩
            have hfl : f.length ≤ 314 := by rw [← hf]; have := frm_le L[k]; omega
            rw [hf] at R
            obtain ⟨x, hx⟩ : ∃ x, L[k] = x := ⟨_, rfl⟩
            rw [hx] at hcell hB h300 hf
            clear hrel hx hcell1 hB1
            go_wp2_with fail
            refine (wrap_own Ai ci x.length x f _ (hT1.below hb) hB rfl (by omega) hf).mono ?_
            rintro y w3 ⟨A3, c3, rfl, hown3, hb3⟩
            have hB3 := Bs.own hown3
            have hown4 := own_below hown hb3
            have hb4 := hb.trans (hb3.mono hb.size)
            clear hown hb hown3 hb3 hcell hB hf
            go_wp2_with (at_builtin; refine wpList_append_rd _ rfl (.tmp 46) (.tmp 47) 22 rfl w1.heap.size 5 i0 _ 1 1 Tryd.underlying22 hi hq0 hq1 hq2 rfl (by decide) _ bs.length (Lib.byteCells bs) rfl hown4 A3 f.length c3 (Lib.byteCells f) rfl hB3 (bc_one _) ?d1 ?d2 ?d3 ?_)
            case d1 => unfold maxLen; omega
            case d2 => omega
            case d3 => exact hb4.size
            intro A4 c4 w4 hown5 hg5
            have hb5 : Below w1.heap.size w1 w4 := hb4.grown hg5 hb4.size (fun k hk => (hown4.lt k hk).1)
            have hown6 : w4.ownsRow w1.heap.size 5 1 (.slice A4 (bs ++ f).length c4) (bs ++ f).length (Lib.byteCells (bs ++ f)) := by rw [bc_app, List.length_append]; exact hown5
            clear hown5 hg5 hown4 hb4
            go_wp2
            go_roundw
            case rel => exact ⟨k + 1, bs ++ f, A4, c4, by simp, by go_num, R, hown6, hb5⟩
            case measure => simp [RowKit.intOf]; omega
          · have h301 : (300 : Int) < (L[k].length : Int) := by omega
            go_wp2
            go_ret
            exact ⟨rfl, hb1.trans (hb.mono hb1.size)⟩
        · obtain ⟨hcat, hsm⟩ := hrel.all (by omega)
          have hall := all_cat L rest (fun x hx => by have := hsm x hx; omega)
          rw [hcat, hN] at hall
          dsimp only at hall
          obtain ⟨n, hn⟩ : ∃ n, bs.length = n := ⟨_, rfl⟩
          obtain ⟨z, hz⟩ : ∃ z, bs ++ rest = z := ⟨_, rfl⟩
          obtain ⟨M, hM⟩ : ∃ M, L ++ N = M := ⟨_, rfl⟩
          have hzl : z.length = n + lr := by rw [← hz, ← hn, ← hlr]; simp
          have hML : M.length = len + N.length := by rw [← hM, ← hlen]; simp
          have hA := fun A c w hT ha => all_any A c (n + lr) z w hT ha hzl (by omega)
          have hR := fun w hT ha => all_any B d lr rest w hT ha hlr (by omega)
          rw [hz, hM, hn] at hall
          simp only [hall] at hA
          simp only [hN] at hR
          have hbb := hb1.trans (hb.mono hb1.size)
          have ha2 := ha1.below hb
          have hr2 := hr1.below hb
          have hT2 := hT1.below hb
          have hB2 := Bs.own hown
          rw [hn] at hbl ⊢
          clear hrel hown hb ha1 hr1 hT1 hb1
          generalize wr = w2 at *
          have hb0 : Below w2.heap.size w2 (w2.alloc (.cells #[] 5)) := (Below.refl _ _).alloc (Nat.le_refl _) _
          have hr0 : Rd 1 (w2.alloc (.cells #[] 5)) A2 n c2 (Lib.byteCells bs) := by have := hB2.below hb0; unfold Bs at this; rw [hn] at this; exact this
          go_wp2_with (at_builtin; refine wpList_append_rd _ rfl (.tmp 50) (.tmp 51) 22 rfl w2.heap.size 5 i0 _ 1 1 Tryd.underlying22 hi hq0 hq1 hq2 rfl (by decide) _ 0 [] rfl (own_empty w2 5) A2 _ c2 (Lib.byteCells bs) rfl hr0 (bc_one _) ?e1 ?e2 ?e3 ?_)
          case e1 => unfold maxLen; omega
          case e2 => omega
          case e3 => simp
          intro A3 c3 w3 hown3 hg3
          have hb3 : Below w2.heap.size w2 w3 := hb0.grown hg3 (by simp) (by simp [Value.ownBlock])
          have hown3' : w3.ownsRow w2.heap.size 5 1 (.slice A3 n c3) n (Lib.byteCells bs) := by simpa using hown3
          have hr3 : Rd 1 w3 B lr d (Lib.byteCells rest) := by have := hr2.below hb3; unfold Bs at this; rw [hlr] at this; exact this
          clear hown3 hg3 hb0 hr0 hB2
          go_wp2_with (at_builtin; refine wpList_append_rd _ rfl (.tmp 52) (.tmp 53) 22 rfl w2.heap.size 5 i0 _ 1 1 Tryd.underlying22 hi hq0 hq1 hq2 rfl (by decide) _ n (Lib.byteCells bs) rfl hown3' B lr d (Lib.byteCells rest) rfl hr3 (bc_one _) ?f1 ?f2 ?f3 ?_)
          case f1 => unfold maxLen; omega
          case f2 => omega
          case f3 => exact hb3.size
          intro A4 c4 w4 hown4 hg4
          have hb4 : Below w2.heap.size w2 w4 := hb3.grown hg4 hb3.size (fun k hk => (hown3'.lt k hk).1)
          have hown4' : w4.ownsRow w2.heap.size 5 1 (.slice A4 z.length c4) z.length (Lib.byteCells z) := by rw [hzl, ← hz, bc_app]; exact hown4
          have hB4 := Bs.own hown4'
          clear hown4 hg4 hown4' hown3' hr3 hb3
          go_wp2_with fail
          refine (hA _ _ _ (hT2.below hb4) hB4).mono ?_
          rintro y w5 ⟨A5, c5, rfl, hM5, hb5⟩
          have hb5' := hb4.trans (hb5.mono hb4.size)
          clear hB4 hb4 hb5 hA
          go_wp2_with fail
          refine (hR _ (hT2.below hb5') (hr2.below hb5')).mono ?_
          rintro y w6 ⟨A6, c6, rfl, hN6, hb6⟩
          have hM6 := hM5.below hb6
          have hb6' := hb5'.trans (hb6.mono hb5'.size)
          have ha6 := ha2.below hb6'
          have hbb6 := hbb.trans (hb6'.mono hbb.size)
          have hMm := Nat.le_trans hM6.cap hM6.max
          unfold maxLen at hMm
          have hMI : (M.length : Int) = (len : Int) + (N.length : Int) := by omega
          have hNm : N.length ≤ 300 := by omega
          clear hM5 hb5' hb6 hb6' hr2 hT2 ha2 hbb hall hN hcat hsm hz hzl
          go_wp2_with fail
          go_loopw [15] (fun i wr => ∃ k, i = .int .i64 (k : Nat) ∧ k ≤ M.length ∧ Below w6.heap.size w6 wr) (fun i _ => M.length - (RowKit.intOf i).toNat)
          case atStart => exact ⟨0, rfl, by omega, Below.refl _ _⟩
          case round =>
            obtain ⟨k, rfl, hk, hb⟩ := hrel
            have hbb := hbb6.trans (hb.mono hbb6.size)
            by_cases h : k < M.length
            · obtain ⟨ad, Ai, ci, rfl, hcell1, hB1⟩ := hM6.get (i := k) h
              have hblk := World.block_lt_of_cell? _ _ hcell1
              have hcellM := (hb.cell hblk).trans hcell1
              have hBM := hB1.below hb
              by_cases h2 : k < len
              · obtain ⟨ad2, Aj, cj, rfl, hcell2, hB2⟩ := ha6.get (i := k) (by omega)
                have hblk2 := World.block_lt_of_cell? _ _ hcell2
                have hcellL := (hb.cell hblk2).trans hcell2
                have hBL := hB2.below hb
                have hx : M[k] = L[k]'(by omega) := by
                  subst hM
                  exact List.getElem_append_left _
                obtain ⟨x, hxx⟩ : ∃ x, L[k]'(by omega) = x := ⟨_, rfl⟩
                rw [hx] at hcellM hBM
                rw [hxx] at hcellM hBM hcellL hBL
                have g3 : decide ((k : Int) < (len : Int)) = true := by simp; omega
                have g4 : decide ((len : Int) ≤ (k : Int)) = false := by simp; omega
                have g5 : decide (k < len) = true := by simp; omega
                have g6 : decide (len ≤ k) = false := by simp; omega
                have hbs := fun n => (bytes_at Ai Aj ci cj x.length x.length x x true (wr.drewN n) (hBM.drewN n) (hBL.drewN n) rfl rfl (by simp)).mono fun _ _ h => (⟨h.1, h.2.symm⟩ : _ ∧ _)
                clear hx hxx hcell1 hcell2 hB1 hB2 hblk hblk2 hBM hBL
                go_wp2_with fail
                go_quiet (first | (go_at_call 11; exact Calls.quiet_of_same (hbs _)))
                go_wp2
                go_roundw
                case rel => exact ⟨k + 1, by go_num, by omega, below_dn hb _⟩
                case measure => simp [RowKit.intOf]; omega
              · obtain ⟨ad6, Aj, cj, rfl, hcell2, hB2⟩ := hN6.get (i := k - len) (by omega)
                have hblk2 := World.block_lt_of_cell? _ _ hcell2
                have hcellN := (hb.cell hblk2).trans hcell2
                have hBN := hB2.below hb
                have hx : M[k] = N[k - len]'(by omega) := by
                  subst hM hlen
                  exact List.getElem_append_right (by omega)
                obtain ⟨x, hxx⟩ : ∃ x, N[k - len]'(by omega) = x := ⟨_, rfl⟩
                rw [hx] at hcellM hBM
                rw [hxx] at hcellM hBM hcellN hBN
                have g3 : decide ((k : Int) < (len : Int)) = false := by simp; omega
                have g4 : decide ((len : Int) ≤ (k : Int)) = true := by simp; omega
                have g5 : decide (k < len) = false := by simp; omega
                have g6 : decide (len ≤ k) = true := by simp; omega
                have p1 : IntKind.i64.wrap ((k : Int) - (len : Int)) = (k : Int) - (len : Int) := IntWalk.i64_in _ (by omega)
                have p2 : (0 : Int) ≤ (k : Int) - (len : Int) := by omega
                have p3 : ((k : Int) - (len : Int)).toNat = k - len := by omega
                have p4 : (k : Int) - (len : Int) < (N.length : Int) := by omega
                have hbs := fun n => (bytes_at Ai Aj ci cj x.length x.length x x true (wr.drewN n) (hBM.drewN n) (hBN.drewN n) rfl rfl (by simp)).mono fun _ _ h => (⟨h.1, h.2.symm⟩ : _ ∧ _)
                clear hx hxx hcell1 hcell2 hB1 hB2 hblk hblk2 hBM hBN
                go_wp2_with fail
                go_quiet (first | (go_at_call 11; exact Calls.quiet_of_same (hbs _)))
                go_wp2
                go_roundw
                case rel => exact ⟨k + 1, by go_num, by omega, below_dn hb _⟩
                case measure => simp [RowKit.intOf]; omega
            · go_wp2
              go_ret
              exact ⟨rfl, hbb⟩
    · have g1 : ¬ (20 : Int) < (len : Int) := by omega
      have g2 : (300 : Int) < (lr : Int) := by omega
      go_enter Tryd.func6, Tryd.ntmps6
      go_wp2_with fail
      refine (alive_any _ hT).mono ?_
      rintro e w1 ⟨rfl, hb1⟩
      go_wp2
      go_ret
      exact ⟨rfl, hb1⟩
  · have h1 : (20 : Int) < len := by omega
    go_enter Tryd.func6, Tryd.ntmps6
    go_wp2_with fail
    refine (alive_any _ hT).mono ?_
    rintro e w1 ⟨rfl, hb1⟩
    go_wp2
    go_ret
    exact ⟨rfl, hb1⟩
end Go.Proofs.YtghdojiffooilaaDoor.F08
