/-
  The walk of FrameBack: what is wrapped comes out again; one spoilt body takes none else along.
-/
import Derived.Test.YtghdojiffooilaaDoorF8LawJoins
import Derived.Test.YtghdojiffooilaaDoorTwoOwn
namespace Go.Proofs.YtghdojiffooilaaDoor.F08
open Go.RowKit Go.Lib Go.Proofs.YtghdojiffooilaaDoor.Wd
open Go.Proofs.YtghdojiffooilaaDoor.C02 (Tb turn turn_len bc_turn own_cell xor_pow pow_mod')

theorem int_info : (Tryd.prog.info? 3).map (fun i => (i.zero, i.size, i.bytes)) = some (some (.int .i64 0), 1, 8) := by kernel_rfl
/-- where each frame begins -/
def starts (L : List (List UInt8)) (k : Nat) : List Nat := (List.range k).map fun i => (cat (L.take i)).length
theorem starts_len (L : List (List UInt8)) (k : Nat) : (starts L k).length = k := by simp [starts]
theorem starts_step (L : List (List UInt8)) (k : Nat) {bs : List UInt8} (h : cat (L.take k) = bs) : starts L (k + 1) = starts L k ++ [bs.length] := by
  simp [starts, List.range_succ, h]
theorem starts_get (L : List (List UInt8)) (k q : Nat) (h : q < k) : (starts L k)[q]? = some (cat (L.take q)).length := by
  simp [starts, h]
/-- as cells -/
def ic (l : List Nat) : List Value := l.map fun n => .int .i64 (n : Nat)
theorem ic_app (a b : List Nat) : ic (a ++ b) = ic a ++ ic b := by simp [ic]

theorem cat_at (L : List (List UInt8)) (q : Nat) (h : q < L.length) : (cat (L.take q)).length + L[q].length + 5 ≤ (cat L).length := by
  have e : cat L = cat (L.take (q + 1)) ++ cat (L.drop (q + 1)) := by rw [← cat_app, List.take_append_drop]
  have h1 := vby_ge L[q].length
  rw [e, cat_take L q h]
  simp only [List.length_append, frm_len]
  omega

set_option maxRecDepth 20000 in
set_option maxHeartbeats 4000000 in
theorem back_law (u v : Nat) (A : Option Addr) (c len : Nat) (L : List (List UInt8)) (w : World) (hu : (u : Int) ≤ 65535) (hv : (v : Int) ≤ 65535) (hT : Tb w) (ha : Bss w A c L) (hlen : L.length = len) :
    Calls Tryd.prog 5 #[.slice A len c, .int .u16 u, .int .u16 v] w fun e w' => e = .returned (.bool true) ∧ Below w.heap.size w w' := by
  obtain ⟨i0, hi, hq0, hq1, hq2⟩ := info_parts byte_info
  obtain ⟨i1, hj, hr0, hr1, hr2⟩ := info_parts int_info
  have hlm := Nat.le_trans ha.cap ha.max
  unfold maxLen at hlm
  by_cases hl : len ≤ 20
  · have g1 : ¬ (20 : Int) < (len : Int) := by omega
    go_enter Tryd.func5, Tryd.ntmps5
    go_wp2_with fail
    refine (alive_any _ hT).mono ?_
    rintro x w1 ⟨rfl, hb1⟩
    have ha1 := ha.below hb1
    have hT1 := hT.below hb1
    clear ha hT
    go_wp2_with fail
    go_loopw [7, 8, 9] (fun p f i wr => ∃ k bs A' c' F d, p = .slice A' (bs : List UInt8).length c' ∧ f = .slice F k d ∧ i = .int .i64 (k : Nat) ∧ CatRel 100 L k bs ∧
      wr.ownsRow w1.heap.size 5 1 (.slice A' bs.length c') bs.length (Lib.byteCells bs) ∧ wr.ownsRow w1.heap.size 3 1 (.slice F k d) k (ic (starts L k)) ∧ Ap (.slice A' bs.length c') (.slice F k d) ∧ Below w1.heap.size w1 wr) (fun _ _ i _ => len - (RowKit.intOf i).toNat)
    case atStart => exact ⟨0, [], none, 0, none, 0, rfl, rfl, rfl, CatRel.start _ _, World.ownsRow_nil _ _ _ _, World.ownsRow_nil _ _ _ _, Ap.nil _, Below.refl _ _⟩
    case round =>
      obtain ⟨k, bs, A2, c2, F, d, rfl, rfl, rfl, hrel, hown, hfr, hap, hb⟩ := hrel
      have hk := hrel.le
      have hbl := hrel.len
      by_cases h : k < len
      · obtain ⟨ad, Ai, ci, rfl, hcell1, hB1⟩ := ha1.get (i := k) (by omega)
        have hblk := World.block_lt_of_cell? _ _ hcell1
        have hcell := (hb.cell hblk).trans hcell1
        have hB := hB1.below hb
        by_cases h100 : L[k].length ≤ 100
        · have R := hrel.step (by omega) h100
          have hst := starts_step L k hrel.eq
          obtain ⟨f, hf⟩ : ∃ f, frm L[k] = f := ⟨_, rfl⟩
          have hfl : f.length ≤ 114 := by rw [← hf]; have := frm_le L[k]; omega
          rw [hf] at R
          obtain ⟨x, hx⟩ : ∃ x, L[k] = x := ⟨_, rfl⟩
          rw [hx] at hcell hB h100 hf
          clear hrel hx hcell1 hB1
          go_wp2_with fail
          refine (wrap_own Ai ci x.length x f _ (hT1.below hb) hB rfl (by omega) hf).mono ?_
          rintro y w3 ⟨A3, c3, rfl, hown3, hb3⟩
          have hB3 := Bs.own hown3
          have hown4 := own_below hown hb3
          have hfr4 := own_below hfr hb3
          have hb4 := hb.trans (hb3.mono hb.size)
          have hne : ∀ ad, A3 = some ad → (Value.slice F k d).ownBlock ≠ some ad.block := fun ad e he => by
            have h1 := (hfr.lt _ he).2
            subst e
            have h2 := (hown3.lt _ rfl).1
            omega
          clear hown hfr hb hown3 hb3 hcell hB hf
          go_wp2_with (at_builtin; refine append_one w3 rfl (.tmp 48) (.tmp 51) 38 rfl w1.heap.size 3 i1 _ 8 Tryd.underlying38 hj hr0 hr1 hr2 rfl (.slice F k d) k (ic (starts L k)) rfl hfr4 (.int .i64 (bs.length : Nat)) _ rfl rfl rfl ?d1 ?d2 ?d3 ?_)
          case d1 => unfold maxLen; omega
          case d2 => omega
          case d3 => exact hb4.size
          intro F5 d5 w5 hfr5 hg5 hat5
          have hb5a : Below w3.heap.size w3 (w3.alloc (.cells #[.int .i64 (bs.length : Nat)] 3)) := (Below.refl _ _).alloc (Nat.le_refl _) _
          have hb5b := hb4.trans (hb5a.mono hb4.size)
          have hK5 := hap.symm.keep (v' := .slice F5 (k + 1) d5) (own_below hown4 hb5a) hg5 (by simpa using hat5)
          have hb5 : Below w1.heap.size w1 w5 := hb5b.grown hg5 hb5b.size (fun k hk => (hfr4.lt k hk).1)
          have hB5 : Bs w5 A3 c3 f := Rd.grown (Bs.below hB3 hb5a) hg5 fun ad ha _ => hne ad ha
          have hfr6 : w5.ownsRow w1.heap.size 3 1 (.slice F5 (k + 1) d5) (k + 1) (ic (starts L (k + 1))) := by rw [hst, ic_app]; exact hfr5
          obtain ⟨hown5, hap5⟩ := hK5
          clear hfr5 hg5 hat5 hb5a hb5b hown4 hfr4 hb4 hne hB3 hap hst
          go_wp2_with (at_builtin; refine append_rd_at _ rfl (.tmp 53) (.tmp 54) 22 rfl w1.heap.size 5 i0 _ 1 1 Tryd.underlying22 hi hq0 hq1 hq2 rfl (by decide) (.slice A2 bs.length c2) bs.length (Lib.byteCells bs) rfl hown5 A3 f.length c3 (Lib.byteCells f) rfl hB5 (bc_one _) ?e1 ?e2 ?e3 ?_)
          case e1 => unfold maxLen; omega
          case e2 => omega
          case e3 => exact hb5.size
          intro A6 c6 w6 hown6 hg6 hat6
          have hb6 : Below w1.heap.size w1 w6 := hb5.grown hg6 hb5.size (fun k hk => (hown5.lt k hk).1)
          have hK6 := hap5.symm.keep (v' := .slice A6 (bs.length + f.length) c6) hfr6 hg6 hat6
          obtain ⟨hfr7, hap7⟩ := hK6
          have hbl2 : (bs ++ f).length = bs.length + f.length := by simp
          have hown7 : w6.ownsRow w1.heap.size 5 1 (.slice A6 (bs ++ f).length c6) (bs ++ f).length (Lib.byteCells (bs ++ f)) := by rw [bc_app, List.length_append]; exact hown6
          rw [← hbl2] at hap7
          clear hown6 hg6 hat6 hown5 hap5 hb5 hfr6 hB5 hbl2
          go_wp2
          go_roundw
          case rel => exact ⟨k + 1, bs ++ f, A6, c6, F5, d5, by simp, by go_num, by go_num, R, hown7, hfr7, hap7, hb6⟩
          case measure => simp [RowKit.intOf]; omega
        · have h301 : (100 : Int) < (L[k].length : Int) := by omega
          go_wp2
          go_ret
          exact ⟨rfl, hb1.trans (hb.mono hb1.size)⟩
      · obtain ⟨hcat, hsm⟩ := hrel.all (by omega)
        have hkl : len = k := by omega
        subst hkl
        have hall := all_whole L (fun x hx => by have := hsm x hx; omega)
        rw [hcat] at hall
        obtain ⟨n, hn⟩ : ∃ n, bs.length = n := ⟨_, rfl⟩
        have hA := fun A c w hT ha => all_any A c n bs w hT ha hn (by omega)
        simp only [hall] at hA
        rw [hn, hlen] at hA
        have hbb := hb1.trans (hb.mono hb1.size)
        rw [hn] at hbl hown hap ⊢
        have hB2 : Bs wr A2 c2 bs := Bs.own (base := w1.heap.size) (e := 5) (by rw [hn]; exact hown)
        have hturn := fun q j r (hq : q < L.length) (hj : j < L[q].length + 4) (hr : r < 8) => all_turned L q j r hq (fun x hx => by have := hsm x hx; omega) hj hr
        have hat := fun q (hq : q < L.length) => cat_at L q hq
        rw [hcat] at hturn hat
        have HT := Lib.hid hturn
        have HA := Lib.hid hat
        have HS := Lib.hid hsm
        clear hrel hall hturn hat hsm
        go_wp2_with fail
        refine (hA _ _ _ (hT1.below hb) hB2).mono ?_
        rintro y w5 ⟨A5, c5, rfl, hM5, hb5⟩
        have hown5 := own_below hown hb5
        have hfr5 := own_below hfr hb5
        have hb5' := hb.trans (hb5.mono hb.size)
        have ha5 := ha1.below hb5'
        have hbb5 := hbb.trans (hb5.mono hbb.size)
        have hT5 := hT1.below hb5'
        clear hB2 hown hfr hb hbb ha1
        go_wp2_with fail
        go_loopw [15] (fun i wr => ∃ k, i = .int .i64 (k : Nat) ∧ k ≤ len ∧ Below w5.heap.size w5 wr) (fun i _ => len - (RowKit.intOf i).toNat)
        case atStart => exact ⟨0, rfl, by omega, Below.refl _ _⟩
        case round =>
          obtain ⟨k, rfl, hk, hb⟩ := hrel
          have hbb := hbb5.trans (hb.mono hbb5.size)
          by_cases h : k < len
          · obtain ⟨ad, Ai, ci, rfl, hcell1, hB1⟩ := hM5.get (i := k) (by omega)
            have hcellM := (hb.cell (World.block_lt_of_cell? _ _ hcell1)).trans hcell1
            have hBM := hB1.below hb
            obtain ⟨ad2, Aj, cj, rfl, hcell2, hB2⟩ := ha5.get (i := k) (by omega)
            have hcellL := (hb.cell (World.block_lt_of_cell? _ _ hcell2)).trans hcell2
            have hBL := hB2.below hb
            obtain ⟨x, hxx⟩ : ∃ x, L[k]'(by omega) = x := ⟨_, rfl⟩
            rw [hxx] at hcellM hBM hcellL hBL
            have hbs := fun n => (bytes_at Ai Aj ci cj x.length x.length x x true (wr.drewN n) (hBM.drewN n) (hBL.drewN n) rfl rfl (by simp)).mono fun _ _ h => (⟨h.1, h.2.symm⟩ : _ ∧ _)
            clear hxx hcell1 hcell2 hB1 hB2 hBM hBL
            go_wp2_with fail
            go_quiet (first | (go_at_call 11; exact Calls.quiet_of_same (hbs _)))
            go_wp2
            go_roundw
            case rel => exact ⟨k + 1, by go_num, by omega, below_dn hb _⟩
            case measure => simp [RowKit.intOf]; omega
          · by_cases h0 : len = 0
            · subst h0
              go_wp2
              go_ret
              exact ⟨rfl, hbb⟩
            · have hownr := own_below hown5 hb
              have hfrr := own_below hfr5 hb
              have hbr := hb5'.trans (hb.mono hb5'.size)
              have har := ha5.below hb
              clear hown5 hfr5 hb5' hb hM5 ha5 hbb5 hA hb5 hT5 hcat
              obtain ⟨q, hq⟩ : ∃ q, u % len = q := ⟨_, rfl⟩
              have hql : q < len := by rw [← hq]; exact Nat.mod_lt _ (by omega)
              have hqL : q < L.length := by omega
              have t1 : (u : Int).tmod (len : Int) = (q : Int) := by rw [Int.tmod_eq_emod_of_nonneg (by omega), ← hq]; simp
              have t2 : (u : Int) % (len : Int) = (q : Int) := by rw [← hq]; simp
              have n1 : ¬ ((len : Int) = 0) := by omega
              have n2 : IntKind.i64.wrap (u : Int) = (u : Int) := IntWalk.i64_in _ (by omega)
              have n3 : IntKind.i64.wrap (q : Int) = (q : Int) := IntWalk.i64_in _ (by omega)
              clear hq
              obtain ⟨x, hx⟩ : ∃ x, L[q]'hqL = x := ⟨_, rfl⟩
              obtain ⟨f0, hf0⟩ : ∃ f0, (cat (L.take q)).length = f0 := ⟨_, rfl⟩
              obtain ⟨j, hjq⟩ : ∃ j, (v / 8) % (x.length + 4) = j := ⟨_, rfl⟩
              obtain ⟨r, hrq⟩ : ∃ r, v % 8 = r := ⟨_, rfl⟩
              have hx100 : x.length ≤ 100 := by rw [← hx]; exact HS.out _ (List.getElem_mem _)
              have hjl : j < x.length + 4 := by rw [← hjq]; exact Nat.mod_lt _ (by omega)
              have hr8 : r < 8 := by omega
              have hend := HA.out q hqL
              rw [hx, hf0, hn] at hend
              have hall2 := HT.out q j r hqL (by rw [hx]; exact hjl) hr8
              rw [hf0, hn] at hall2
              obtain ⟨g, u0, rfl, hg1, hg2, -, -, -⟩ := own_first hfrr (by omega)
              obtain ⟨g', u1, rfl, hg3, hg4, -, -, -⟩ := own_first hownr (by omega)
              have hcf : wr.cell? ⟨g, q, none⟩ = some (.int .i64 (f0 : Nat)) := by
                rw [World.ownsRow.cellAt hfrr q (by omega)]
                simp [ic, starts_get L len q hql, hf0]
              obtain ⟨ad2, Aj, cj, rfl, hcellL, hBL⟩ := har.get (i := q) hqL
              rw [hx] at hcellL
              have e1 : (v : Int) / 8 = ((v / 8 : Nat) : Int) := by omega
              have e2 : ((v / 8 : Nat) : Int) % ((x.length : Int) + 4) = (j : Int) := by rw [← hjq]; simp
              have e3 : (((v / 8 : Nat) : Int)).tmod ((x.length : Int) + 4) = (j : Int) := by rw [Int.tmod_eq_emod_of_nonneg (by omega), ← hjq]; simp
              have n4 : ¬ ((x.length : Int) + 4 = 0) := by omega
              have n5 : IntKind.i64.wrap (v : Int) = (v : Int) := IntWalk.i64_in _ (by omega)
              have n6 : (q : Int) < (len : Int) := by omega
              have n7 : (v / 8 : Nat) ≤ 8191 := by omega
              generalize v / 8 = v8 at *
              clear hBL hfrr
              go_wp2_with fail
              go_quiet (fail)
              have hb6 := below_dn hbr nq
              have hown6 : (wr.drewN nq).ownsRow w1.heap.size 5 1 (.slice (some ⟨g', 0, none⟩) n c2) n (Lib.byteCells bs) := hownr
              clear hownr hbr e1 e2 e3 n1 n2 n3 n4 n5 n6 n7 t1 t2 hcf hcellL har
              generalize wr.drewN nq = w6 at *
              have hpl : f0 + 1 + j < n := by omega
              have hc6 := own_cell hown6 hn (f0 + 1 + j) hpl
              have hf6 := World.ownsRow.frozenAt hown6 (f0 + 1 + j)
              obtain ⟨s1, hs1⟩ : ∃ s1, turn bs (f0 + 1 + j) r = s1 := ⟨_, rfl⟩
              have hsl1 : s1.length = n := by rw [← hs1, turn_len]; exact hn
              have hbc6 := bc_turn bs (f0 + 1 + j) r hr8
              rw [hs1] at hbc6 hall2
              obtain ⟨b0, hb0⟩ : ∃ b0, (bs.getD (f0 + 1 + j) 0).toNat = b0 := ⟨_, rfl⟩
              have hb01 : b0 < 256 := by rw [← hb0]; exact C02.u8_lt _
              rw [hb0] at hc6 hbc6
              obtain ⟨y, hy⟩ : ∃ y, b0 ^^^ 2 ^ r = y := ⟨_, rfl⟩
              have f2 : (v : Int) % 8 = (r : Int) := by omega
              have f3 : (f0 : Int) + 1 + (j : Int) < (n : Int) := by omega
              have f5 := pow_mod' r hr8
              have f6 := xor_pow b0 r y hb01 hr8 hy
              rw [hy] at hbc6
              clear hs1 hb0 hy hrq hjq
              go_wp2_with fail
              have hown7 : (w6.setCell ⟨g', f0 + 1 + j, none⟩ (.int .u8 (y : Int))).ownsRow w1.heap.size 5 1 (.slice (some ⟨g', 0, none⟩) n c2) n (Lib.byteCells s1) := by rw [hbc6]; exact (World.ownsRow.stored hown6 (f0 + 1 + j) _).1
              have hb7 : Below w1.heap.size w1 (w6.setCell ⟨g', f0 + 1 + j, none⟩ (.int .u8 (y : Int))) := hb6.setCell hg3 _
              clear hc6 hf6 f2 f3 f5 f6 hbc6 hown6 hb6
              generalize w6.setCell ⟨g', f0 + 1 + j, none⟩ (.int .u8 (y : Int)) = w7 at *
              have hB7 : Bs w7 (some ⟨g', 0, none⟩) c2 s1 := Bs.own (base := w1.heap.size) (e := 5) (by rw [hsl1]; exact hown7)
              obtain ⟨M, hM⟩ : ∃ M, L.take q ++ L.drop (q + 1) = M := ⟨_, rfl⟩
              have hMl : M.length + 1 = len := by rw [← hM]; simp; omega
              have hA2 := all_any _ c2 n s1 w7 (hT1.below hb7) hB7 hsl1 (by omega)
              simp only [hall2, hM] at hA2
              clear hall2 hM hB7 hown7
              obtain ⟨m, hm⟩ : ∃ m, M.length = m := ⟨_, rfl⟩
              rw [hm] at hA2 hMl
              refine hA2.mono ?_
              rintro z w8 ⟨A8, c8, rfl, -, hb8⟩
              have hb9 := hb1.trans ((hb7.trans (hb8.mono hb7.size)).mono hb1.size)
              have hmI : (m : Int) = (len : Int) - 1 := by omega
              clear hb7 hb8 hA2
              go_wp2
              go_ret
              exact ⟨rfl, hb9⟩
  · have h1 : (20 : Int) < len := by omega
    go_enter Tryd.func5, Tryd.ntmps5
    go_wp2_with fail
    refine (alive_any _ hT).mono ?_
    rintro e w1 ⟨rfl, hb1⟩
    go_wp2
    go_ret
    exact ⟨rfl, hb1⟩
end Go.Proofs.YtghdojiffooilaaDoor.F08
