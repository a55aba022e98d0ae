/-
  The document's list: Put.
-/
import Derived.Test.YtfpecjhgadijlaaU12Ref
set_option linter.unusedSimpArgs false
set_option linter.unusedVariables false
namespace Go.Proofs.Ytfpecjhgadijlaa.U12
open Go.RowKit Go.Lib Go.Maps Go.Proofs.Ytfpecjhgadijlaa.Wd

theorem take_while (p : It → Bool) : ∀ (l : List It) (k : Nat), k ≤ l.length → (∀ j (hj : j < l.length), j < k → p l[j] = true) → (∀ (h : k < l.length), p l[k] = false) → l.takeWhile p = l.take k ∧ l.dropWhile p = l.drop k
  | [], k, hk, _, _ => by simp
  | x :: l, 0, _, _, h2 => by
    have := h2 (by simp)
    simp only [List.getElem_cons_zero] at this
    simp [this]
  | x :: l, k + 1, hk, h1, h2 => by
    have hx := h1 0 (by simp) (by omega)
    simp only [List.getElem_cons_zero] at hx
    have ih := take_while p l k (by simpa using hk) (fun j hj hjk => by have := h1 (j + 1) (by simpa using hj) (by omega); simpa using this) (fun h => by have := h2 (by simpa using h); simpa using this)
    simp [hx, ih.1, ih.2]
theorem insm_cut (m : List It) (x : It) (k : Nat) (hk : k ≤ m.length) (h1 : ∀ j (hj : j < m.length), j < k → Lt m[j] x) (h2 : ∀ (h : k < m.length), ¬ Lt m[k] x) : insm m x = m.take k ++ [x] ++ m.drop k := by
  obtain ⟨e1, e2⟩ := take_while (fun y => decide (Lt y x)) m k hk (fun j hj hjk => decide_eq_true (h1 j hj hjk)) (fun h => decide_eq_false (h2 h))
  unfold insm
  rw [e1, e2]
  simp
section
variable {w w' : World} {A : Option Addr} {c n : Nat} {m : List It}
theorem own_low {base base' : Nat} {e : TypeId} {size k : Nat} {v : Value} {xs : List Value} (h : w.ownsRow base e size v k xs) (hb : base' ≤ base) : w.ownsRow base' e size v k xs := row_base h fun i hi => Nat.le_trans hb (h.lt i hi).1
def rbx (x : It) : Obj := .cells #[.int .u64 (x.1 : Int), .int .u64 (x.2 : Int)] 32
set_option maxRecDepth 20000 in
set_option maxHeartbeats 4000000 in
theorem rput_at (x : It) (h : Its w A c m) (hn : m.length = n) (hm : n ≤ 900) : Calls Try.prog 18 #[.slice A n c, .agg #[.int .u64 (x.1 : Int), .int .u64 (x.2 : Int)]] w (LsOut (putm m x) w) := by
  obtain ⟨i0, hi, hz0, hz1, hz2⟩ := info_of ritem_info
  have hb1 : Below w.heap.size w (w.alloc (rbx x)) := (Below.refl _ _).alloc (Nat.le_refl _) _
  have x0 : (w.alloc (rbx x)).cell? ⟨w.heap.size, 0, none⟩ = some (.int .u64 (x.1 : Int)) := by unfold rbx; go_cell
  have x1 : (w.alloc (rbx x)).cell? ⟨w.heap.size, 1, none⟩ = some (.int .u64 (x.2 : Int)) := by unfold rbx; go_cell
  have hlb : w.heap.size < (w.alloc (rbx x)).heap.size := by simp
  have hd := rdrop_at x.1 (h.below hb1) hn (by omega)
  have hput : putm m x = insm (dropm m x.1) x := rfl
  have hfew : (dropm m x.1).length ≤ n := by rw [← hn]; exact List.length_filter_le _ _
  rw [hput]
  have HB1 := Lib.hid hb1
  clear h hn hput hb1
  generalize dropm m x.1 = l at *
  unfold rbx at *
  go_enter Try.func18, Try.ntmps18
  go_wp2_with fail
  generalize w.alloc (.cells #[.int .u64 (x.1 : Int), .int .u64 (x.2 : Int)] 32) = w1 at *
  refine hd.mono ?_
  rintro e w2 ⟨B, r, d, rfl, hr, hits, hBa, hb2⟩
  have hk0 : w2.heap[w.heap.size]? = w1.heap[w.heap.size]? := hb2.block _ hlb
  have y0 := (World.cell?_of_block (a := ⟨w.heap.size, 0, none⟩) hk0).trans x0
  have y1 := (World.cell?_of_block (a := ⟨w.heap.size, 1, none⟩) hk0).trans x1
  have HI := Lib.hid hits
  have HR := Lib.hid hr
  have HB2 := Lib.hid (HB1.out.trans (hb2.mono HB1.out.size))
  obtain ⟨hmx, hcap, hcm⟩ := its_bounds hits hr
  have I0 := Lib.hid (show (∀ j (hj : j < l.length), j < 0 → Lt l[j] x) ∧ Below w2.heap.size w2 w2 from ⟨fun j hj h => by omega, Below.refl _ _⟩)
  have hrf : r ≤ 900 := by omega
  clear hd x0 x1 hlb hits hBa hb2 hk0 HB1 hfew
  clear hr
  go_wp2
  go_loopw [5] (fun v wr => ∃ (k : Nat), v = .int .i64 (k : Int) ∧ k ≤ r ∧ Hid ((∀ j (hj : j < l.length), j < k → Lt l[j] x) ∧ Below w2.heap.size w2 wr)) (fun v _ => r - (intOf v).toNat)
  case atStart => exact ⟨0, rfl, Nat.zero_le _, I0⟩
  case round =>
    clear I0
    obtain ⟨k, rfl, hk, I⟩ := hrel
    have HB3 := Lib.hid (I.out.2)
    have z0 : (0 : Int) ≤ (k : Int) := by omega
    have z1 : ((k : Int)).toNat = k := by omega
    have hxb : w.heap.size < w2.heap.size := World.block_lt_of_cell? _ _ y0
    have y0 := (I.out.2.cell (p := ⟨w.heap.size, 0, none⟩) hxb).trans y0
    have y1 := (I.out.2.cell (p := ⟨w.heap.size, 1, none⟩) hxb).trans y1
    by_cases hkr : k < r
    · have hkl : k < l.length := by rw [HR.out]; exact hkr
      obtain ⟨ad, p, rfl, hp, a0, a1⟩ := (HI.out.below I.out.2).get hkl
      obtain ⟨y, hy⟩ : ∃ y, l[k] = y := ⟨_, rfl⟩
      rw [hy] at a0 a1
      by_cases hlt : Lt y x
      · have I2 := Lib.hid (show (∀ j (hj : j < l.length), j < k + 1 → Lt l[j] x) from fun j hj h => by
          by_cases e : j = k
          · subst e; rw [hy]; exact hlt
          · exact I.out.1 j hj (by omega))
        have hcase : ((y.2 : Int) < (x.2 : Int)) ∨ (¬ (y.2 : Int) < (x.2 : Int) ∧ (y.2 : Int) = (x.2 : Int) ∧ (y.1 : Int) < (x.1 : Int)) := by unfold Lt at hlt; omega
        clear hy hlt I
        obtain ⟨p1, h1⟩ : ∃ z : Int, (y.1 : Int) = z := ⟨_, rfl⟩
        obtain ⟨p2, h2⟩ : ∃ z : Int, (y.2 : Int) = z := ⟨_, rfl⟩
        obtain ⟨q1, h3⟩ : ∃ z : Int, (x.1 : Int) = z := ⟨_, rfl⟩
        obtain ⟨q2, h4⟩ : ∃ z : Int, (x.2 : Int) = z := ⟨_, rfl⟩
        rw [h1] at a0 hcase
        rw [h2] at a1 hcase
        rw [h3] at y0 hcase
        rw [h4] at y1 hcase
        clear h1 h2 h3 h4
        rcases hcase with h5 | ⟨h5, h6, h7⟩
        · go_wp2_with fail
          go_quiet (fail)
          go_wp2
          go_roundw
          case rel => exact ⟨k + 1, by go_num, by omega, Lib.hid ⟨I2.out, below_dn HB3.out _⟩⟩
          case measure => first | go_num | (simp [intOf]; omega)
        · subst h6
          go_wp2_with fail
          go_quiet (fail)
          go_wp2
          go_roundw
          case rel => exact ⟨k + 1, by go_num, by omega, Lib.hid ⟨I2.out, below_dn HB3.out _⟩⟩
          case measure => first | go_num | (simp [intOf]; omega)
      · have hcase : ((x.2 : Int) < (y.2 : Int)) ∨ (¬ (y.2 : Int) < (x.2 : Int) ∧ (y.2 : Int) = (x.2 : Int) ∧ ¬ (y.1 : Int) < (x.1 : Int)) := by unfold Lt at hlt; omega
        have HC := Lib.hid (insm_cut l x k (by rw [HR.out]; exact hk) (I.out.1) (fun h => by show ¬ Lt l[k] x; rw [hy]; exact hlt))
        have htk := (HI.out.below I.out.2).take k (by rw [HR.out]; exact hk)
        have hdk := (HI.out.below I.out.2).drop k (by rw [HR.out]; exact hk)
        have htl : (l.take k).length = k := by rw [List.length_take, HR.out]; omega
        have hdl : (l.drop k).length = r - k := by rw [List.length_drop, HR.out]
        unfold Its at htk hdk
        rw [htl] at htk
        rw [hdl] at hdk
        clear htl hdl
        clear hy hlt I
        obtain ⟨p1, h1⟩ : ∃ z : Int, (y.1 : Int) = z := ⟨_, rfl⟩
        obtain ⟨p2, h2⟩ : ∃ z : Int, (y.2 : Int) = z := ⟨_, rfl⟩
        obtain ⟨q1, h3⟩ : ∃ z : Int, (x.1 : Int) = z := ⟨_, rfl⟩
        obtain ⟨q2, h4⟩ : ∃ z : Int, (x.2 : Int) = z := ⟨_, rfl⟩
        rw [h1] at a0 hcase
        rw [h2] at a1 hcase
        rw [h3] at y0 hcase
        rw [h4] at y1 hcase
        have H3 := Lib.hid h3
        have H4 := Lib.hid h4
        clear h1 h2 h3 h4
        rcases hcase with h5 | ⟨h5, h6, h7⟩
        · have h8 : ¬ p2 < q2 := by omega
          have h9 : ¬ p2 = q2 := by omega
          go_wp2_with fail
          go_quiet (fail)
          have htk2 := htk.drewN nq
          have hdk2 := hdk.drewN nq
          have y02 : (wr.drewN nq).cell? ⟨w.heap.size, 0, none⟩ = some (.int .u64 q1) := y0
          have y12 : (wr.drewN nq).cell? ⟨w.heap.size, 1, none⟩ = some (.int .u64 q2) := y1
          have HB4 := Lib.hid (HB2.out.trans ((below_dn HB3.out nq).mono HB2.out.size))
          clear htk hdk y0 y1 HB3
          generalize wr.drewN nq = V at *
          have bE : Below V.heap.size V (V.alloc (.cells #[] 32)) := (Below.refl _ _).alloc (Nat.le_refl _) _
          have own0 : (V.alloc (.cells #[] 32)).ownsRow V.heap.size 32 2 (.slice (some ⟨V.heap.size, 0, none⟩) 0 0) 0 [] := World.ownsRow_lit (base := V.heap.size) (size := 2) V #[] 0 (Nat.le_refl _) (by unfold maxLen; omega) rfl
          have ht1 := htk2.below bE
          have dA1 : 0 + k ≤ maxLen := by unfold maxLen; omega
          have dA2 : (0 + k) * 16 ≤ 140737488355328 := by omega
          have dA3 : V.heap.size ≤ (V.alloc (.cells #[] 32)).heap.size := bE.size
          have hio := irow_one (l.take k)
          have hkd : k ≤ d := by omega
          go_wp2_with (at_builtin; refine wpList_append_rd _ rfl (.tmp 47) (.tmp 50) 22 rfl V.heap.size 32 i0 _ 2 16 Try.underlying22 hi hz0 hz1 hz2 rfl (by decide) (.slice (some ⟨V.heap.size, 0, none⟩) 0 0) 0 [] rfl own0 (some ad) k d (irow (l.take k)) rfl ht1 hio dA1 dA2 dA3 ?_)
          intro B3 d3 w3 own3 hg3
          have b3 : Below V.heap.size V w3 := bE.grown hg3 dA3 (fun i hi => (own0.lt i hi).1)
          have hVb : w.heap.size < V.heap.size := World.block_lt_of_cell? _ _ y02
          have y03 := (b3.cell (p := ⟨w.heap.size, 0, none⟩) hVb).trans y02
          have y13 := (b3.cell (p := ⟨w.heap.size, 1, none⟩) hVb).trans y12
          have bL : Below w3.heap.size w3 (w3.alloc (.cells #[.int .u64 q1, .int .u64 q2] 32)) := (Below.refl _ _).alloc (Nat.le_refl _) _
          have own4 := own_below own3 bL
          have hlit : Rd 2 (w3.alloc (.cells #[.int .u64 q1, .int .u64 q2] 32)) (some ⟨w3.heap.size, 0, none⟩) 1 1 (ic x) := by
            rw [← H3.out, ← H4.out]
            exact Rd.own (base := 0) (World.ownsRow_lit (base := 0) (e := 32) (size := 2) w3 #[.int .u64 (x.1 : Int), .int .u64 (x.2 : Int)] 1 (Nat.zero_le _) (by unfold maxLen; omega) rfl)
          have hic : ∀ u ∈ ic x, u.oneCell' = true := by
            intro u hu
            unfold ic at hu
            simp only [List.mem_cons, List.not_mem_nil, or_false] at hu
            rcases hu with rfl | rfl <;> rfl
          have hbx : Below V.heap.size V (w3.alloc (.cells #[.int .u64 q1, .int .u64 q2] 32)) := b3.trans (bL.mono b3.size)
          have dB1 : 0 + k + 1 ≤ maxLen := by unfold maxLen; omega
          have dB2 : (0 + k + 1) * 16 ≤ 140737488355328 := by omega
          have dB3 := hbx.size
          clear own0 ht1 dA1 dA2 dA3 hio hg3 bE y02 y12 own3 b3 htk2 hVb
          have e0 : 0 + k = k := Nat.zero_add k
          simp only [Nat.zero_add] at own4 dB1 dB2
          go_wp2_with (at_builtin; refine wpList_append_rd _ rfl (.tmp 52) (.tmp 54) 22 rfl V.heap.size 32 i0 _ 2 16 Try.underlying22 hi hz0 hz1 hz2 rfl (by decide) (.slice B3 k d3) k ([] ++ irow (l.take k)) rfl own4 (some ⟨w3.heap.size, 0, none⟩) 1 1 (ic x) rfl hlit hic dB1 dB2 dB3 ?_)
          intro B5 d5 w5 own5 hg5
          have b5 : Below V.heap.size V w5 := hbx.grown hg5 dB3 (fun i hi => (own4.lt i hi).1)
          have hr5 := hdk2.below b5
          have dC1 : k + 1 + (r - k) ≤ maxLen := by unfold maxLen; omega
          have dC2 : (k + 1 + (r - k)) * 16 ≤ 140737488355328 := by omega
          have dC3 := b5.size
          have hio := irow_one (l.drop k)
          clear hlit hic dB1 dB2 dB3 bL hbx own4 hg5 y03 y13 hdk2
          have hlen : (insm l x).length = k + 1 + (r - k) := by
            rw [HC.out]
            simp only [List.length_append, List.length_take, List.length_drop, List.length_singleton, HR.out]
            omega
          have HLN := Lib.hid hlen
          clear hlen
          by_cases hdkk : d = k
          · have hr6 : Rd 2 w5 (some ad) 0 0 (irow (l.drop k)) := by
              have h := hr5
              unfold cut2 at h
              rw [if_pos hdkk, show r - k = 0 by omega, show d - k = 0 by omega] at h
              exact h
            have hrk : r = k := by omega
            clear hr5
            go_wp2_with (at_builtin; refine wpList_append_rd _ rfl (.tmp 56) (.tmp 59) 22 rfl V.heap.size 32 i0 _ 2 16 Try.underlying22 hi hz0 hz1 hz2 rfl (by decide) (.slice B5 (k + 1) d5) (k + 1) _ rfl own5 (some ad) 0 0 (irow (l.drop k)) rfl hr6 hio ?dD1 ?dD2 dC3 ?_)
            case dD1 => unfold maxLen; omega
            case dD2 => omega
            intro B7 d7 w7 own7 hg7
            have b7 : Below V.heap.size V w7 := b5.grown hg7 dC3 (fun i hi => (own5.lt i hi).1)
            have hlen2 := HLN.out
            rw [show r - k = 0 by omega] at hlen2
            have F := Lib.hid (LsOut.of (w := w) (w' := w7) (m := insm l x) (B := B7) (n := k + 1 + 0) (d := d7) hlen2 (by rw [HC.out, irow_app, irow_app, List.append_assoc]; exact own_low own7 HB4.out.size) (HB4.out.trans (b7.mono HB4.out.size)))
            clear own5 own7 hg7 b7 b5 hlen2
            go_wp2
            go_ret
            exact F.out
          · have hr6 : Rd 2 w5 (some p) (r - k) (d - k) (irow (l.drop k)) := by
              have h := hr5
              unfold cut2 at h
              rw [if_neg hdkk] at h
              rw [Option.map_some, hp] at h
              exact h
            clear hr5
            have z2 : ¬ (d : Int) = (k : Int) := by omega
            go_wp2_with (at_builtin; refine wpList_append_rd _ rfl (.tmp 56) (.tmp 59) 22 rfl V.heap.size 32 i0 _ 2 16 Try.underlying22 hi hz0 hz1 hz2 rfl (by decide) (.slice B5 (k + 1) d5) (k + 1) _ rfl own5 (some p) (r - k) (d - k) (irow (l.drop k)) rfl hr6 hio dC1 dC2 dC3 ?_)
            intro B7 d7 w7 own7 hg7
            have b7 : Below V.heap.size V w7 := b5.grown hg7 dC3 (fun i hi => (own5.lt i hi).1)
            have F := Lib.hid (LsOut.of (w := w) (w' := w7) (m := insm l x) (B := B7) (n := k + 1 + (r - k)) (d := d7) HLN.out (by rw [HC.out, irow_app, irow_app, List.append_assoc]; exact own_low own7 HB4.out.size) (HB4.out.trans (b7.mono HB4.out.size)))
            clear own5 own7 hg7 b7 b5
            go_wp2
            go_ret
            exact F.out
        · have h6 := h6.symm
          subst h6
          go_wp2_with fail
          go_quiet (fail)
          have htk2 := htk.drewN nq
          have hdk2 := hdk.drewN nq
          have y02 : (wr.drewN nq).cell? ⟨w.heap.size, 0, none⟩ = some (.int .u64 q1) := y0
          have y12 : (wr.drewN nq).cell? ⟨w.heap.size, 1, none⟩ = some (.int .u64 q2) := y1
          have HB4 := Lib.hid (HB2.out.trans ((below_dn HB3.out nq).mono HB2.out.size))
          clear htk hdk y0 y1 HB3
          generalize wr.drewN nq = V at *
          have bE : Below V.heap.size V (V.alloc (.cells #[] 32)) := (Below.refl _ _).alloc (Nat.le_refl _) _
          have own0 : (V.alloc (.cells #[] 32)).ownsRow V.heap.size 32 2 (.slice (some ⟨V.heap.size, 0, none⟩) 0 0) 0 [] := World.ownsRow_lit (base := V.heap.size) (size := 2) V #[] 0 (Nat.le_refl _) (by unfold maxLen; omega) rfl
          have ht1 := htk2.below bE
          have dA1 : 0 + k ≤ maxLen := by unfold maxLen; omega
          have dA2 : (0 + k) * 16 ≤ 140737488355328 := by omega
          have dA3 : V.heap.size ≤ (V.alloc (.cells #[] 32)).heap.size := bE.size
          have hio := irow_one (l.take k)
          have hkd : k ≤ d := by omega
          go_wp2_with (at_builtin; refine wpList_append_rd _ rfl (.tmp 47) (.tmp 50) 22 rfl V.heap.size 32 i0 _ 2 16 Try.underlying22 hi hz0 hz1 hz2 rfl (by decide) (.slice (some ⟨V.heap.size, 0, none⟩) 0 0) 0 [] rfl own0 (some ad) k d (irow (l.take k)) rfl ht1 hio dA1 dA2 dA3 ?_)
          intro B3 d3 w3 own3 hg3
          have b3 : Below V.heap.size V w3 := bE.grown hg3 dA3 (fun i hi => (own0.lt i hi).1)
          have hVb : w.heap.size < V.heap.size := World.block_lt_of_cell? _ _ y02
          have y03 := (b3.cell (p := ⟨w.heap.size, 0, none⟩) hVb).trans y02
          have y13 := (b3.cell (p := ⟨w.heap.size, 1, none⟩) hVb).trans y12
          have bL : Below w3.heap.size w3 (w3.alloc (.cells #[.int .u64 q1, .int .u64 q2] 32)) := (Below.refl _ _).alloc (Nat.le_refl _) _
          have own4 := own_below own3 bL
          have hlit : Rd 2 (w3.alloc (.cells #[.int .u64 q1, .int .u64 q2] 32)) (some ⟨w3.heap.size, 0, none⟩) 1 1 (ic x) := by
            rw [← H3.out, ← H4.out]
            exact Rd.own (base := 0) (World.ownsRow_lit (base := 0) (e := 32) (size := 2) w3 #[.int .u64 (x.1 : Int), .int .u64 (x.2 : Int)] 1 (Nat.zero_le _) (by unfold maxLen; omega) rfl)
          have hic : ∀ u ∈ ic x, u.oneCell' = true := by
            intro u hu
            unfold ic at hu
            simp only [List.mem_cons, List.not_mem_nil, or_false] at hu
            rcases hu with rfl | rfl <;> rfl
          have hbx : Below V.heap.size V (w3.alloc (.cells #[.int .u64 q1, .int .u64 q2] 32)) := b3.trans (bL.mono b3.size)
          have dB1 : 0 + k + 1 ≤ maxLen := by unfold maxLen; omega
          have dB2 : (0 + k + 1) * 16 ≤ 140737488355328 := by omega
          have dB3 := hbx.size
          clear own0 ht1 dA1 dA2 dA3 hio hg3 bE y02 y12 own3 b3 htk2 hVb
          have e0 : 0 + k = k := Nat.zero_add k
          simp only [Nat.zero_add] at own4 dB1 dB2
          go_wp2_with (at_builtin; refine wpList_append_rd _ rfl (.tmp 52) (.tmp 54) 22 rfl V.heap.size 32 i0 _ 2 16 Try.underlying22 hi hz0 hz1 hz2 rfl (by decide) (.slice B3 k d3) k ([] ++ irow (l.take k)) rfl own4 (some ⟨w3.heap.size, 0, none⟩) 1 1 (ic x) rfl hlit hic dB1 dB2 dB3 ?_)
          intro B5 d5 w5 own5 hg5
          have b5 : Below V.heap.size V w5 := hbx.grown hg5 dB3 (fun i hi => (own4.lt i hi).1)
          have hr5 := hdk2.below b5
          have dC1 : k + 1 + (r - k) ≤ maxLen := by unfold maxLen; omega
          have dC2 : (k + 1 + (r - k)) * 16 ≤ 140737488355328 := by omega
          have dC3 := b5.size
          have hio := irow_one (l.drop k)
          clear hlit hic dB1 dB2 dB3 bL hbx own4 hg5 y03 y13 hdk2
          have hlen : (insm l x).length = k + 1 + (r - k) := by
            rw [HC.out]
            simp only [List.length_append, List.length_take, List.length_drop, List.length_singleton, HR.out]
            omega
          have HLN := Lib.hid hlen
          clear hlen
          by_cases hdkk : d = k
          · have hr6 : Rd 2 w5 (some ad) 0 0 (irow (l.drop k)) := by
              have h := hr5
              unfold cut2 at h
              rw [if_pos hdkk, show r - k = 0 by omega, show d - k = 0 by omega] at h
              exact h
            have hrk : r = k := by omega
            clear hr5
            go_wp2_with (at_builtin; refine wpList_append_rd _ rfl (.tmp 56) (.tmp 59) 22 rfl V.heap.size 32 i0 _ 2 16 Try.underlying22 hi hz0 hz1 hz2 rfl (by decide) (.slice B5 (k + 1) d5) (k + 1) _ rfl own5 (some ad) 0 0 (irow (l.drop k)) rfl hr6 hio ?dD1 ?dD2 dC3 ?_)
            case dD1 => unfold maxLen; omega
            case dD2 => omega
            intro B7 d7 w7 own7 hg7
            have b7 : Below V.heap.size V w7 := b5.grown hg7 dC3 (fun i hi => (own5.lt i hi).1)
            have hlen2 := HLN.out
            rw [show r - k = 0 by omega] at hlen2
            have F := Lib.hid (LsOut.of (w := w) (w' := w7) (m := insm l x) (B := B7) (n := k + 1 + 0) (d := d7) hlen2 (by rw [HC.out, irow_app, irow_app, List.append_assoc]; exact own_low own7 HB4.out.size) (HB4.out.trans (b7.mono HB4.out.size)))
            clear own5 own7 hg7 b7 b5 hlen2
            go_wp2
            go_ret
            exact F.out
          · have hr6 : Rd 2 w5 (some p) (r - k) (d - k) (irow (l.drop k)) := by
              have h := hr5
              unfold cut2 at h
              rw [if_neg hdkk] at h
              rw [Option.map_some, hp] at h
              exact h
            clear hr5
            have z2 : ¬ (d : Int) = (k : Int) := by omega
            go_wp2_with (at_builtin; refine wpList_append_rd _ rfl (.tmp 56) (.tmp 59) 22 rfl V.heap.size 32 i0 _ 2 16 Try.underlying22 hi hz0 hz1 hz2 rfl (by decide) (.slice B5 (k + 1) d5) (k + 1) _ rfl own5 (some p) (r - k) (d - k) (irow (l.drop k)) rfl hr6 hio dC1 dC2 dC3 ?_)
            intro B7 d7 w7 own7 hg7
            have b7 : Below V.heap.size V w7 := b5.grown hg7 dC3 (fun i hi => (own5.lt i hi).1)
            have F := Lib.hid (LsOut.of (w := w) (w' := w7) (m := insm l x) (B := B7) (n := k + 1 + (r - k)) (d := d7) HLN.out (by rw [HC.out, irow_app, irow_app, List.append_assoc]; exact own_low own7 HB4.out.size) (HB4.out.trans (b7.mono HB4.out.size)))
            clear own5 own7 hg7 b7 b5
            go_wp2
            go_ret
            exact F.out
    · have HC := Lib.hid (insm_cut l x k (by rw [HR.out]; exact hk) (I.out.1) (fun h => absurd h (by rw [HR.out]; omega)))
      have htk := (HI.out.below I.out.2).take k (by rw [HR.out]; exact hk)
      have hdk := (HI.out.below I.out.2).drop k (by rw [HR.out]; exact hk)
      have htl : (l.take k).length = k := by rw [List.length_take, HR.out]; omega
      have hdl : (l.drop k).length = r - k := by rw [List.length_drop, HR.out]
      unfold Its at htk hdk
      rw [htl] at htk
      rw [hdl] at hdk
      clear htl hdl
      clear I
      have hkr2 : ¬ (k : Int) < (r : Int) := by omega
      obtain ⟨q1, h3⟩ : ∃ z : Int, (x.1 : Int) = z := ⟨_, rfl⟩
      obtain ⟨q2, h4⟩ : ∃ z : Int, (x.2 : Int) = z := ⟨_, rfl⟩
      rw [h3] at y0
      rw [h4] at y1
      have H3 := Lib.hid h3
      have H4 := Lib.hid h4
      clear h3 h4
      go_wp2_with fail
      go_quiet (fail)
      have htk2 := htk.drewN nq
      have hdk2 := hdk.drewN nq
      have y02 : (wr.drewN nq).cell? ⟨w.heap.size, 0, none⟩ = some (.int .u64 q1) := y0
      have y12 : (wr.drewN nq).cell? ⟨w.heap.size, 1, none⟩ = some (.int .u64 q2) := y1
      have HB4 := Lib.hid (HB2.out.trans ((below_dn HB3.out nq).mono HB2.out.size))
      clear htk hdk y0 y1 HB3
      generalize wr.drewN nq = V at *
      have bE : Below V.heap.size V (V.alloc (.cells #[] 32)) := (Below.refl _ _).alloc (Nat.le_refl _) _
      have own0 : (V.alloc (.cells #[] 32)).ownsRow V.heap.size 32 2 (.slice (some ⟨V.heap.size, 0, none⟩) 0 0) 0 [] := World.ownsRow_lit (base := V.heap.size) (size := 2) V #[] 0 (Nat.le_refl _) (by unfold maxLen; omega) rfl
      have ht1 := htk2.below bE
      have dA1 : 0 + k ≤ maxLen := by unfold maxLen; omega
      have dA2 : (0 + k) * 16 ≤ 140737488355328 := by omega
      have dA3 : V.heap.size ≤ (V.alloc (.cells #[] 32)).heap.size := bE.size
      have hio := irow_one (l.take k)
      have hkd : k ≤ d := by omega
      go_wp2_with (at_builtin; refine wpList_append_rd _ rfl (.tmp 47) (.tmp 50) 22 rfl V.heap.size 32 i0 _ 2 16 Try.underlying22 hi hz0 hz1 hz2 rfl (by decide) (.slice (some ⟨V.heap.size, 0, none⟩) 0 0) 0 [] rfl own0 B k d (irow (l.take k)) rfl ht1 hio dA1 dA2 dA3 ?_)
      intro B3 d3 w3 own3 hg3
      have b3 : Below V.heap.size V w3 := bE.grown hg3 dA3 (fun i hi => (own0.lt i hi).1)
      have hVb : w.heap.size < V.heap.size := World.block_lt_of_cell? _ _ y02
      have y03 := (b3.cell (p := ⟨w.heap.size, 0, none⟩) hVb).trans y02
      have y13 := (b3.cell (p := ⟨w.heap.size, 1, none⟩) hVb).trans y12
      have bL : Below w3.heap.size w3 (w3.alloc (.cells #[.int .u64 q1, .int .u64 q2] 32)) := (Below.refl _ _).alloc (Nat.le_refl _) _
      have own4 := own_below own3 bL
      have hlit : Rd 2 (w3.alloc (.cells #[.int .u64 q1, .int .u64 q2] 32)) (some ⟨w3.heap.size, 0, none⟩) 1 1 (ic x) := by
        rw [← H3.out, ← H4.out]
        exact Rd.own (base := 0) (World.ownsRow_lit (base := 0) (e := 32) (size := 2) w3 #[.int .u64 (x.1 : Int), .int .u64 (x.2 : Int)] 1 (Nat.zero_le _) (by unfold maxLen; omega) rfl)
      have hic : ∀ u ∈ ic x, u.oneCell' = true := by
        intro u hu
        unfold ic at hu
        simp only [List.mem_cons, List.not_mem_nil, or_false] at hu
        rcases hu with rfl | rfl <;> rfl
      have hbx : Below V.heap.size V (w3.alloc (.cells #[.int .u64 q1, .int .u64 q2] 32)) := b3.trans (bL.mono b3.size)
      have dB1 : 0 + k + 1 ≤ maxLen := by unfold maxLen; omega
      have dB2 : (0 + k + 1) * 16 ≤ 140737488355328 := by omega
      have dB3 := hbx.size
      clear own0 ht1 dA1 dA2 dA3 hio hg3 bE y02 y12 own3 b3 htk2 hVb
      have e0 : 0 + k = k := Nat.zero_add k
      simp only [Nat.zero_add] at own4 dB1 dB2
      go_wp2_with (at_builtin; refine wpList_append_rd _ rfl (.tmp 52) (.tmp 54) 22 rfl V.heap.size 32 i0 _ 2 16 Try.underlying22 hi hz0 hz1 hz2 rfl (by decide) (.slice B3 k d3) k ([] ++ irow (l.take k)) rfl own4 (some ⟨w3.heap.size, 0, none⟩) 1 1 (ic x) rfl hlit hic dB1 dB2 dB3 ?_)
      intro B5 d5 w5 own5 hg5
      have b5 : Below V.heap.size V w5 := hbx.grown hg5 dB3 (fun i hi => (own4.lt i hi).1)
      have hr5 := hdk2.below b5
      have dC1 : k + 1 + (r - k) ≤ maxLen := by unfold maxLen; omega
      have dC2 : (k + 1 + (r - k)) * 16 ≤ 140737488355328 := by omega
      have dC3 := b5.size
      have hio := irow_one (l.drop k)
      clear hlit hic dB1 dB2 dB3 bL hbx own4 hg5 y03 y13 hdk2
      have hlen : (insm l x).length = k + 1 + (r - k) := by
        rw [HC.out]
        simp only [List.length_append, List.length_take, List.length_drop, List.length_singleton, HR.out]
        omega
      have HLN := Lib.hid hlen
      clear hlen
      by_cases hdkk : d = k
      · have hr6 : Rd 2 w5 B 0 0 (irow (l.drop k)) := by
          have h := hr5
          unfold cut2 at h
          rw [if_pos hdkk, show r - k = 0 by omega, show d - k = 0 by omega] at h
          exact h
        have hrk : r = k := by omega
        clear hr5
        go_wp2_with (at_builtin; refine wpList_append_rd _ rfl (.tmp 56) (.tmp 59) 22 rfl V.heap.size 32 i0 _ 2 16 Try.underlying22 hi hz0 hz1 hz2 rfl (by decide) (.slice B5 (k + 1) d5) (k + 1) _ rfl own5 B 0 0 (irow (l.drop k)) rfl hr6 hio ?dD1 ?dD2 dC3 ?_)
        case dD1 => unfold maxLen; omega
        case dD2 => omega
        intro B7 d7 w7 own7 hg7
        have b7 : Below V.heap.size V w7 := b5.grown hg7 dC3 (fun i hi => (own5.lt i hi).1)
        have hlen2 := HLN.out
        rw [show r - k = 0 by omega] at hlen2
        have F := Lib.hid (LsOut.of (w := w) (w' := w7) (m := insm l x) (B := B7) (n := k + 1 + 0) (d := d7) hlen2 (by rw [HC.out, irow_app, irow_app, List.append_assoc]; exact own_low own7 HB4.out.size) (HB4.out.trans (b7.mono HB4.out.size)))
        clear own5 own7 hg7 b7 b5 hlen2
        go_wp2
        go_ret
        exact F.out
      · have hr6 : Rd 2 w5 (B.map (·.add (k * 2))) (r - k) (d - k) (irow (l.drop k)) := by
          have h := hr5
          unfold cut2 at h
          rw [if_neg hdkk] at h
          exact h
        clear hr5
        have z2 : ¬ (d : Int) = (k : Int) := by omega
        go_wp2_with (at_builtin; refine wpList_append_rd _ rfl (.tmp 56) (.tmp 59) 22 rfl V.heap.size 32 i0 _ 2 16 Try.underlying22 hi hz0 hz1 hz2 rfl (by decide) (.slice B5 (k + 1) d5) (k + 1) _ rfl own5 (B.map (·.add (k * 2))) (r - k) (d - k) (irow (l.drop k)) rfl hr6 hio dC1 dC2 dC3 ?_)
        intro B7 d7 w7 own7 hg7
        have b7 : Below V.heap.size V w7 := b5.grown hg7 dC3 (fun i hi => (own5.lt i hi).1)
        have F := Lib.hid (LsOut.of (w := w) (w' := w7) (m := insm l x) (B := B7) (n := k + 1 + (r - k)) (d := d7) HLN.out (by rw [HC.out, irow_app, irow_app, List.append_assoc]; exact own_low own7 HB4.out.size) (HB4.out.trans (b7.mono HB4.out.size)))
        clear own5 own7 hg7 b7 b5
        go_wp2
        go_ret
        exact F.out
end
end Go.Proofs.Ytfpecjhgadijlaa.U12
