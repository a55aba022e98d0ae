/-
  The walk of HeapPlays.
-/
import Derived.Test.YtephbjomplmkgaaU12DueAt
import Derived.Test.YtephbjomplmkgaaU12Pa
import Derived.Deep.CutRange
import Derived.Deep.CutBlock
set_option linter.unusedSimpArgs false
set_option linter.unusedVariables false
namespace Go.Proofs.Ytephbjomplmkgaa.U12
open Go.RowKit Go.Lib Go.Maps Go.Proofs.Ytephbjomplmkgaa.Wd

theorem rfind_z {w : World} {A : Option Addr} {c n : Nat} {m : List It} (x : Nat) (h : Its w A c m) (hn : m.length = n) :
    Calls Try.prog 9 #[.slice A n c, .int .u64 (x : Int)] w fun e w' => ∃ z : Int, e = .returned (.int .i64 z) ∧ w = w' ∧ isin m x = decide (0 ≤ z) := by
  refine (rfind_at x h hn).mono ?_
  rintro e w' ⟨rfl, ⟨k, hk, rfl, e2⟩ | ⟨hno, rfl⟩⟩
  · exact ⟨_, rfl, rfl, by rw [isin_true.2 ⟨m[k], List.getElem_mem hk, e2⟩]; exact (decide_eq_true (by omega)).symm⟩
  · exact ⟨_, rfl, rfl, by rw [isin_false.2 hno]; rfl⟩
theorem QR.at_out {w0 w : World} {q : Nat} {m : List It} (h : QR w0 w q m) (x : Nat) (hx : (x : Int) ≤ 18446744073709551615) (hr : isin m x = false) :
    Calls Try.prog 17 #[.pointer (some ⟨q, 0, none⟩), .int .u64 (x : Int)] w fun e w' => e = .returned (.tuple #[.int .u64 0, .bool false]) ∧ w = w' := by
  obtain ⟨o, h1, h2, h3⟩ := h
  exact U12.at_out x h1 hx hr
/-- where an id is, and what At and Find tell of it -/
theorem at_find {w0 w : World} {q n c : Nat} {m : List It} {A : Option Addr} (h : QR w0 w q m) (hi : Its w A c m) (hn : m.length = n) (x : Nat) (hx : (x : Int) ≤ 18446744073709551615) :
    (∃ (k : Nat) (hk : k < m.length), (Calls Try.prog 17 #[.pointer (some ⟨q, 0, none⟩), .int .u64 (x : Int)] w fun e w' => e = .returned (.tuple #[.int .u64 (m[k].2 : Int), .bool true]) ∧ w = w') ∧
      (Calls Try.prog 9 #[.slice A n c, .int .u64 (x : Int)] w fun e w' => e = .returned (.int .i64 (k : Int)) ∧ w = w')) ∨
    ((Calls Try.prog 17 #[.pointer (some ⟨q, 0, none⟩), .int .u64 (x : Int)] w fun e w' => e = .returned (.tuple #[.int .u64 0, .bool false]) ∧ w = w') ∧
      (Calls Try.prog 9 #[.slice A n c, .int .u64 (x : Int)] w fun e w' => e = .returned (.int .i64 (-1)) ∧ w = w')) := by
  have hf := rfind_at x hi hn
  cases hb : isin m x with
  | true =>
    obtain ⟨y, hy, e⟩ := isin_true.1 hb
    obtain ⟨k, hk, rfl⟩ := List.getElem_of_mem hy
    refine .inl ⟨k, hk, ?_, ?_⟩
    · have := h.at k hk
      rw [e] at this
      exact this
    · refine hf.mono ?_
      rintro e' w' ⟨rfl, ⟨k2, hk2, rfl, e2⟩ | ⟨hno, rfl⟩⟩
      · have e3 := nodup_ids h.nodup (List.getElem_mem hk2) (List.getElem_mem hk) (e2.trans e.symm)
        have e4 : k2 = k := by
          have hs := h.sorted
          rcases Nat.lt_trichotomy k2 k with h1 | h1 | h1
          · have := List.pairwise_iff_getElem.1 hs k2 k hk2 hk h1
            rw [e3] at this
            exact absurd this (Lt.irrefl _)
          · exact h1
          · have := List.pairwise_iff_getElem.1 hs k k2 hk hk2 h1
            rw [e3] at this
            exact absurd this (Lt.irrefl _)
        subst e4
        exact ⟨rfl, rfl⟩
      · exact absurd e (hno _ (List.getElem_mem hk))
  | false =>
    refine .inr ⟨h.at_out x hx hb, ?_⟩
    refine hf.mono ?_
    rintro e' w' ⟨rfl, ⟨k2, hk2, rfl, e2⟩ | ⟨hno, rfl⟩⟩
    · exact absurd e2 (isin_false.1 hb _ (List.getElem_mem hk2))
    · exact ⟨rfl, rfl⟩
/-- between two acts -/
def PS (w0 w : World) (q : Nat) (m : List It) (A : Option Addr) (c r : Nat) : Prop := PQ w0 w q m m A c ∧ m.length = r
set_option maxRecDepth 20000 in
set_option maxHeartbeats 8000000 in
theorem plays_law (A0 : Option Addr) (c0 n : Nat) (L : List Ac) (w : World) (ha : Acs w A0 c0 L) (hok : ∀ y ∈ L, y.Ok) (hn : L.length = n) :
    Calls Try.prog 3 #[.slice A0 n c0] w fun e w' => e = .returned (.bool true) ∧ Below w.heap.size w w' := by
  have HN := Lib.hid hn
  have HA := Lib.hid ha
  have HOK := Lib.hid hok
  have m1 := ha.max
  have m3 := ha.cap
  have hmx : n ≤ 9223372036854775807 := by rw [hn] at m3; unfold maxLen at m1; omega
  clear hn ha hok m1 m3
  go_enter Try.func3, Try.ntmps3
  go_wp2_with fail
  refine (alive_any _).mono ?_
  rintro e w1 ⟨rfl, b0⟩
  by_cases h2 : (200 : Int) < (n : Int)
  · go_wp2
    go_ret
    exact ⟨rfl, b0⟩
  have B0 := Lib.hid b0
  clear b0
  go_wp2_with fail
  refine (QR.new B0.out).mono ?_
  rintro e w2 ⟨q, rfl, hQ⟩
  have HQ := Lib.hid (show PS w w2 q [] none 0 0 from by
    obtain ⟨o, h1, h2, h3⟩ := hQ
    exact ⟨⟨⟨o, h1, h2, fun a h => by cases h⟩, h3, Its.nil _⟩, rfl⟩)
  clear hQ B0
  go_wp2
  go_loopw [4, 5] (fun v4 v5 wr => ∃ (A : Option Addr) (c r k : Nat) (m : List It), v4 = .slice A r c ∧ v5 = .int .i64 (k : Int) ∧ k ≤ n ∧ r ≤ k ∧ Hid (PS w wr q m A c r)) (fun _ v5 _ => n - (intOf v5).toNat)
  case atStart => exact ⟨none, 0, 0, 0, [], rfl, rfl, Nat.zero_le _, Nat.le_refl _, HQ⟩
  case round =>
    clear HQ
    obtain ⟨A, c, r, k, m, rfl, rfl, hk, hrk, HQ⟩ := hrel
    by_cases hkn : k < n
    · have hkl : k < L.length := by rw [HN.out]; exact hkn
      obtain ⟨ad, p, rfl, hp, x0, x1, x2⟩ := (HA.out.below HQ.out.1.bel).get hkl
      have hyok := HOK.out L[k] (List.getElem_mem hkl)
      generalize L[k] = y at *
      have hPA := HQ.out.1.act y
      have hf := rfind_z y.I hPA.its HQ.out.2
      have k1 := hPA.k1
      have HP := Lib.hid hPA
      have HL := Lib.hid HQ.out.2
      have hz0 : (0 : Int) ≤ (k : Int) := by omega
      have hz1 : ((k : Int)).toNat = k := by omega
      clear HQ hPA
      unfold abx at *
      go_wp2_with fail
      refine hf.mono ?_
      rintro e w3 ⟨z, rfl, rfl, hz⟩
      clear hf x0 x1 x2
      obtain ⟨bB, hbB⟩ : ∃ bB, wr.heap.size = bB := ⟨_, rfl⟩
      rw [hbB] at HP k1 ⊢
      clear hbB
      generalize wr.alloc (.cells #[.int .i64 y.K, .int .u64 (y.I : Int), .int .u64 (y.T : Int)] 29) = W at *
      have k0 := HP.out.k0
      go_upto_block 2 with fail
      go_cut [4] from 24 to 126 (fun u4 wc => ∃ (A' : Option Addr) (r' c' : Nat) (m' : List It), u4 = .slice A' r' c' ∧ r' ≤ r + 1 ∧ m'.length = r' ∧ PA w wc q m' m' A' c' bB y)
      case first =>
        have k0 := HP.out.k0
        have k1 := HP.out.k1
        have k2 := HP.out.k2
        have hrf : r ≤ 200 := by omega
        by_cases hK0 : y.K = 0
        · by_cases hz2 : 0 ≤ z
          · have hi : isin m y.I = true := by rw [hz]; exact decide_eq_true hz2
            have hput := HP.out.put (y.I, y.T) false hyok (by rw [HL.out]; omega) (by rw [hi]; rfl)
            have hzn : ¬ z < 0 := by omega
            clear hz hi
            go_wp2_with fail
            refine hput.mono ?_
            rintro e w3 ⟨rfl, h3⟩
            have hrp := h3.rput (y.I, y.T) r HL.out (by omega)
            have k1 := h3.k1
            have k2 := h3.k2
            have hlen := Lib.hid (putm_len m (y.I, y.T))
            clear hput h3
            go_wp2_with fail
            refine hrp.mono ?_
            rintro e w4 ⟨B, n2, d, rfl, hl, h4⟩
            have H4 := Lib.hid h4
            have HL4 := Lib.hid hl
            clear hrp h4 hl
            go_wp2
            go_meet
            case rel => exact ⟨B, n2, d, putm m (y.I, y.T), rfl, by have := hlen.out; rw [HL4.out, HL.out] at this; exact this, HL4.out, H4.out⟩
          · have hi : isin m y.I = false := by rw [hz]; exact decide_eq_false hz2
            have hput := HP.out.put (y.I, y.T) true hyok (by rw [HL.out]; omega) (by rw [hi]; rfl)
            have hzn : z < 0 := by omega
            clear hz hi hz2
            go_wp2_with fail
            refine hput.mono ?_
            rintro e w3 ⟨rfl, h3⟩
            have hrp := h3.rput (y.I, y.T) r HL.out (by omega)
            have k1 := h3.k1
            have k2 := h3.k2
            have hlen := Lib.hid (putm_len m (y.I, y.T))
            clear hput h3
            go_wp2_with fail
            refine hrp.mono ?_
            rintro e w4 ⟨B, n2, d, rfl, hl, h4⟩
            have H4 := Lib.hid h4
            have HL4 := Lib.hid hl
            clear hrp h4 hl
            go_wp2
            go_meet
            case rel => exact ⟨B, n2, d, putm m (y.I, y.T), rfl, by have := hlen.out; rw [HL4.out, HL.out] at this; exact this, HL4.out, H4.out⟩
        · by_cases hK1 : y.K = 1
          · by_cases hz2 : 0 ≤ z
            · have hi : isin m y.I = true := by rw [hz]; exact decide_eq_true hz2
              have hput := HP.out.drop y.I true hyok.1 hi
              clear hz hi
              go_wp2_with fail
              refine hput.mono ?_
              rintro e w3 ⟨rfl, h3⟩
              have hrp := h3.rdrop y.I r HL.out (by omega)
              have k1 := h3.k1
              have hlen := Lib.hid (show (dropm m y.I).length ≤ m.length from List.length_filter_le _ _)
              clear hput h3
              go_wp2_with fail
              refine hrp.mono ?_
              rintro e w4 ⟨B, n2, d, rfl, hl, h4⟩
              have H4 := Lib.hid h4
              have HL4 := Lib.hid hl
              clear hrp h4 hl
              go_wp2
              go_meet
              case rel => exact ⟨B, n2, d, dropm m y.I, rfl, by have := hlen.out; rw [HL4.out, HL.out] at this; omega, HL4.out, H4.out⟩
            · have hi : isin m y.I = false := by rw [hz]; exact decide_eq_false hz2
              have hput := HP.out.drop y.I false hyok.1 hi
              clear hz hi
              go_wp2_with fail
              refine hput.mono ?_
              rintro e w3 ⟨rfl, h3⟩
              have hrp := h3.rdrop y.I r HL.out (by omega)
              have k1 := h3.k1
              have hlen := Lib.hid (show (dropm m y.I).length ≤ m.length from List.length_filter_le _ _)
              clear hput h3
              go_wp2_with fail
              refine hrp.mono ?_
              rintro e w4 ⟨B, n2, d, rfl, hl, h4⟩
              have H4 := Lib.hid h4
              have HL4 := Lib.hid hl
              clear hrp h4 hl
              go_wp2
              go_meet
              case rel => exact ⟨B, n2, d, dropm m y.I, rfl, by have := hlen.out; rw [HL4.out, HL.out] at this; omega, HL4.out, H4.out⟩
          · by_cases hK2 : y.K = 2
            · clear hz
              obtain ⟨X, hX⟩ : ∃ X, (due m y.T).map (·.1) = X := ⟨_, rfl⟩
              obtain ⟨s, hs⟩ : ∃ s, X.length = s := ⟨_, rfl⟩
              have hu1 := HP.out.until y.T s X hyok.2 hX hs
              have hso := HP.out.qr.sorted
              have hdl : (due m y.T).length = s := by rw [← hs, ← hX, List.length_map]
              have hsr : s ≤ r := by rw [← hdl, ← HL.out]; exact due_le m _
              have HX := Lib.hid (show ∀ i, i < s → ∃ hm : i < m.length, ∃ h1 : i < X.length, X[i] = m[i].1 ∧ m[i].2 ≤ y.T from fun i hi => by
                have h1 : i < X.length := by omega
                obtain ⟨hm, e1⟩ := ids_at hso hX h1
                exact ⟨hm, h1, e1, due_in hso (by omega) hm⟩)
              have HY := Lib.hid (show ∀ i (hm : i < m.length), s ≤ i → y.T < m[i].2 from fun i hm hi => due_out hso (by omega) hm)
              clear hX hs hso hdl
              go_wp2_with fail
              refine hu1.mono ?_
              rintro e w3 ⟨U, ud, rfl, hU, h3⟩
              have HU := Lib.hid hU
              have H3 := Lib.hid h3
              have B0 := Below.refl w3.heap.size w3
              clear hu1 hU h3 k0 k1 k2
              go_wp2
              go_loopw [9] (fun v wr2 => ∃ (j : Nat), v = .int .i64 (j : Int) ∧ j ≤ s ∧ Below w3.heap.size w3 wr2) (fun v _ => s - (intOf v).toNat)
              case atStart => exact ⟨0, rfl, Nat.zero_le _, B0⟩
              case round =>
                clear B0
                obtain ⟨j, rfl, hj, hbw⟩ := hrel
                have k2 := (H3.out.below hbw).k2
                have z0 : (0 : Int) ≤ (j : Int) := by omega
                have z1 : ((j : Int)).toNat = j := by omega
                by_cases hjs : j < s
                · obtain ⟨hm, h1, e1, hle⟩ := HX.out j hjs
                  obtain ⟨ae, rfl, y0, _⟩ := us_at HU.out h1
                  obtain ⟨ad2, p2, rfl, hp2, c0', c1'⟩ := (H3.out.below hbw).its.get hm
                  have a1 := y0 wr hbw
                  rw [e1] at a1
                  have hjr : j < r := by omega
                  clear y0 e1
                  generalize m[j] = x at *
                  have hle2 : (x.2 : Int) ≤ (y.T : Int) := by omega
                  have HB2 := fun nq => below_dn hbw nq
                  clear hle
                  generalize (x.1 : Int) = xi at *
                  generalize (x.2 : Int) = xa at *
                  generalize (y.T : Int) = yt at *
                  go_wp2_with fail
                  go_quiet (fail)
                  go_wp2_with fail
                  go_quiet (fail)
                  go_wp2
                  go_roundw
                  case rel => exact ⟨j + 1, by go_num, by omega, below_dn hbw _⟩
                  case measure => first | go_num | (simp [intOf]; omega)
                · have ejs : j = s := by omega
                  subst ejs
                  by_cases hjr : j < r
                  · have hm : j < m.length := by rw [HL.out]; exact hjr
                    obtain ⟨ad2, p2, rfl, hp2, c0', c1'⟩ := (H3.out.below hbw).its.get hm
                    have hgt := HY.out j hm (Nat.le_refl _)
                    generalize m[j] = x at *
                    have hle2 : ¬ (x.2 : Int) ≤ (y.T : Int) := by omega
                    clear hgt
                    go_wp2_with fail
                    go_quiet (fail)
                    go_wp2
                    go_meet
                    case rel => exact ⟨some ad2, r, c, m, rfl, by omega, HL.out, H3.out.below (below_dn hbw _)⟩
                  · go_wp2_with fail
                    go_quiet (fail)
                    go_wp2
                    go_meet
                    case rel => exact ⟨A, r, c, m, rfl, by omega, HL.out, H3.out.below (below_dn hbw _)⟩
            · by_cases hK3 : y.K = 3
              · clear hz
                cases m with
                | nil =>
                  have hf := HP.out.qr.empty rfl
                  go_wp2_with fail
                  refine hf.mono ?_
                  rintro e w3 ⟨rfl, rfl⟩
                  clear hf
                  go_wp2
                  go_meet
                  case rel => exact ⟨A, r, c, [], rfl, by omega, HL.out, HP.out⟩
                | cons x m3 =>
                  have hf := HP.out.first x m3 rfl
                  have hnum := (HP.out.qr.num x (List.mem_cons_self ..)).1
                  have hrl : m3.length + 1 = r := HL.out
                  go_wp2_with fail
                  refine hf.mono ?_
                  rintro e w3 ⟨rfl, h3⟩
                  have hd := h3.drop x.1 true hnum (isin_true.2 ⟨x, List.mem_cons_self .., rfl⟩)
                  rw [dropm_head h3.qr.nodup] at hd
                  clear hf h3
                  go_wp2_with fail
                  refine hd.mono ?_
                  rintro e w4 ⟨rfl, h4⟩
                  obtain ⟨ad2, p2, rfl, hp2, c0', c1'⟩ := h4.its.get (k := 0) (by simp)
                  have hcap := h4.its.cap
                  have hmax := h4.its.max
                  simp only [List.length_cons, hrl] at hcap
                  have H4 := Lib.hid h4.tail
                  clear hd h4 hp2 c0' c1' k0 k1 k2
                  by_cases hc1 : c = 1
                  · have H5 := Lib.hid (show PA w w4 q m3 m3 (some ad2) 0 bB y from by
                      have := H4.out
                      rw [show cut2 (some ad2) c 1 = some ad2 from if_pos hc1, show c - 1 = 0 by omega] at this
                      exact this)
                    go_wp2
                    go_meet
                    case rel => exact ⟨some ad2, r - 1, 0, m3, rfl, by omega, by omega, H5.out⟩
                  · have H5 := Lib.hid (show PA w w4 q m3 m3 (some (ad2.add 2)) (c - 1) bB y from by
                      have := H4.out
                      rw [show cut2 (some ad2) c 1 = some (ad2.add 2) from if_neg hc1] at this
                      exact this)
                    have hc2 : ¬ (c : Int) = 1 := by omega
                    go_wp2
                    go_meet
                    case rel => exact ⟨some (ad2.add 2), r - 1, c - 1, m3, rfl, by omega, by omega, H5.out⟩
              · clear hz
                go_wp2
                go_meet
                case rel => exact ⟨A, r, c, m, rfl, by omega, HL.out, HP.out⟩
      case rest =>
        obtain ⟨A', r', c', m', rfl, hr', hl', h'⟩ := hcut
        have hr2 : r' ≤ 200 := by omega
        clear HP HL k0 k1 hz
        cases m' with
        | nil =>
          have hr0 : r' = 0 := by rw [← hl']; rfl
          subst hr0
          have hf := h'.qr.empty rfl
          have hl := h'.qr.len 0 rfl
          have haf := at_find h'.qr h'.its hl' y.I hyok.1
          have k1 := h'.k1
          have H' := Lib.hid (show PS w wc q [] A' c' 0 from ⟨h'.pq, rfl⟩)
          clear h' hl'
          go_wp2_with fail
          refine hf.mono ?_
          rintro e w5 ⟨rfl, rfl⟩
          go_wp2_with fail
          refine hl.mono ?_
          rintro e w5 ⟨rfl, rfl⟩
          clear hf hl
          rcases haf with ⟨kk, hkk, _, _⟩ | ⟨ha, hd⟩
          · simp at hkk
          · go_wp2_with fail
            refine ha.mono ?_
            rintro e w5 ⟨rfl, rfl⟩
            go_wp2_with fail
            refine hd.mono ?_
            rintro e w5 ⟨rfl, rfl⟩
            clear ha hd
            go_wp2
            go_roundw
            case rel => exact ⟨A', c', 0, k + 1, [], rfl, by go_num, by omega, by omega, H'⟩
            case measure => first | go_num | (simp [intOf]; omega)
        | cons x m3 =>
          have hf := h'.first x m3 rfl
          have hr0 : 0 < r' := by rw [← hl']; simp
          clear h'
          go_wp2_with fail
          refine hf.mono ?_
          rintro e w5 ⟨rfl, h5⟩
          have hl := h5.qr.len r' hl'
          have haf := at_find h5.qr h5.its hl' y.I hyok.1
          have k1 := h5.k1
          obtain ⟨ad2, p2, rfl, hp2, c0', c1'⟩ := h5.its.get (k := 0) (by simp)
          have ep : p2 = ad2 := by rw [← hp2]; simp [Addr.add]
          subst ep
          simp only [List.getElem_cons_zero] at c0' c1'
          have H' := Lib.hid (show PS w w5 q (x :: m3) (some p2) c' r' from ⟨h5.pq, hl'⟩)
          have HI := Lib.hid h5.its
          have hcap := h5.its.cap
          rw [hl'] at hcap
          have HLL := Lib.hid hl'
          generalize x :: m3 = mm at *
          obtain ⟨xi, hxi⟩ : ∃ z : Int, (x.1 : Int) = z := ⟨_, rfl⟩
          obtain ⟨xa, hxa⟩ : ∃ z : Int, (x.2 : Int) = z := ⟨_, rfl⟩
          rw [hxi] at c0' ⊢
          rw [hxa] at c1' ⊢
          clear hf h5 hl' hp2 hxi hxa
          go_wp2_with fail
          refine hl.mono ?_
          rintro e w6 ⟨rfl, rfl⟩
          clear hl c0' c1'
          rcases haf with ⟨kk, hkk, ha, hd⟩ | ⟨ha, hd⟩
          · obtain ⟨ad3, p3, e3, hp3, d0, d1⟩ := HI.out.get hkk
            cases e3
            generalize mm[kk] = xx at *
            have hkr : kk < r' := by rw [← HLL.out]; exact hkk
            have z2 : (0 : Int) ≤ (kk : Int) := by omega
            have z3 : ((kk : Int)).toNat = kk := by omega
            generalize (xx.2 : Int) = xxa at *
            go_wp2_with fail
            refine ha.mono ?_
            rintro e w7 ⟨rfl, rfl⟩
            go_wp2_with fail
            refine hd.mono ?_
            rintro e w7 ⟨rfl, rfl⟩
            clear ha hd
            go_wp2
            go_roundw
            case rel => exact ⟨some p2, c', r', k + 1, mm, rfl, by go_num, by omega, by omega, H'⟩
            case measure => first | go_num | (simp [intOf]; omega)
          · go_wp2_with fail
            refine ha.mono ?_
            rintro e w7 ⟨rfl, rfl⟩
            go_wp2_with fail
            refine hd.mono ?_
            rintro e w7 ⟨rfl, rfl⟩
            clear ha hd
            go_wp2
            go_roundw
            case rel => exact ⟨some p2, c', r', k + 1, mm, rfl, by go_num, by omega, by omega, H'⟩
            case measure => first | go_num | (simp [intOf]; omega)
    · have hb := Lib.hid HQ.out.1.bel
      go_wp2
      go_ret
      exact ⟨rfl, hb.out⟩
end Go.Proofs.Ytephbjomplmkgaa.U12
