/-
  The walk of CrcParts: the sum by any parts is that of all; what is sealed twice is opened twice.
-/
import Derived.Test.YtlkghiiknipfcaaDoorC02Open
import Derived.Test.YtlkghiiknipfcaaDoorC02Laid
import Derived.Test.YtlkghiiknipfcaaDoorRows2
namespace Go.Proofs.YtlkghiiknipfcaaDoor.C02
open Go.RowKit Go.Lib Go.Proofs.YtlkghiiknipfcaaDoor.Wd

theorem parts_more (a b : List UInt8) : 4294967295 - crc (4294967295 - sumOf a) b = sumOf (a ++ b) := by
  have := crc_lt 4294967295 a (by omega)
  unfold sumOf
  rw [show 4294967295 - (4294967295 - crc 4294967295 a) = crc 4294967295 a from by omega, crc_append]
theorem parts_open (b s : List UInt8) (hs : b ++ tail4 (sumOf b) = s) : openF s = (b, 0) := by
  have h4 : 4 ≤ s.length := by rw [← hs]; simp [tail4]
  have hc : crc 4294967295 s = rest := by rw [← hs]; exact sealed_rest b
  unfold openF
  rw [if_neg (by omega), if_pos ((opens_iff s (s.length - 4) (by omega)).2 hc), ← hs]
  simp [tail4]
def PartsRel (L : List (List UInt8)) (k : Nat) (bs : List UInt8) : Prop := (L.take k).flatten = bs ∧ bs.length ≤ 200 * k
theorem parts_step (L : List (List UInt8)) (k : Nat) (bs : List UInt8) (h : PartsRel L k bs) (hk : k < L.length) (h2 : L[k].length ≤ 200) : PartsRel L (k + 1) (bs ++ L[k]) := by
  obtain ⟨h1, h3⟩ := h
  refine ⟨?_, by simp; omega⟩
  rw [List.take_add_one, List.getElem?_eq_getElem hk, List.flatten_append, h1]
  simp

set_option maxRecDepth 20000 in
set_option maxHeartbeats 4000000 in
theorem parts_law (A : Option Addr) (c len : Nat) (L : List (List UInt8)) (w : World) (hT : Tb w) (ha : Bss w A c L) (hlen : L.length = len) :
    Calls Tryd.prog 6 #[.slice A len c] w fun e w' => e = .returned (.bool true) ∧ Below w.heap.size w w' := by
  obtain ⟨i0, hi, hq0, hq1, hq2⟩ := info_parts byte_info
  have hlm := Nat.le_trans ha.cap ha.max
  unfold maxLen at hlm
  by_cases hl : len ≤ 20
  · go_enter Tryd.func6, Tryd.ntmps6
    go_wp2_with fail
    refine (alive_any _ hT).mono ?_
    rintro x w1 ⟨rfl, hb1⟩
    have ha1 := ha.below hb1
    have hT1 := hT.below hb1
    clear ha hT
    go_wp2_with fail
    go_loopw [3, 4, 5] (fun v n i wr => ∃ k bs A' c', v = .slice A' (bs : List UInt8).length c' ∧ n = .int .u32 (sumOf bs : Nat) ∧ i = .int .i64 (k : Nat) ∧ k ≤ len ∧ PartsRel L k bs ∧
      wr.ownsRow w1.heap.size 5 1 (.slice A' bs.length c') bs.length (byteCells bs) ∧ Below w1.heap.size w1 wr) (fun _ _ i _ => len - (intOf i).toNat)
    case atStart => exact ⟨0, [], none, 0, rfl, rfl, rfl, by omega, ⟨rfl, by simp⟩, World.ownsRow_nil _ _ _ _, Below.refl _ _⟩
    case round =>
      obtain ⟨k, bs, A2, c2, rfl, rfl, rfl, hk, hr, hown, hb⟩ := hrel
      have hbl : bs.length ≤ 4000 := by have := hr.2; omega
      have hm1 := sumOf_lt bs
      obtain ⟨m, hm⟩ : ∃ m, sumOf bs = m := ⟨_, rfl⟩
      rw [hm] at hm1 ⊢
      have HM := Lib.hid hm
      clear hm
      by_cases h : k < len
      · obtain ⟨ad, Ai, ci, rfl, hcell1, hB1⟩ := ha1.get (i := k) (by omega)
        have hblk := World.block_lt_of_cell? _ _ hcell1
        have hcell := (hb.cell hblk).trans hcell1
        have hB := hB1.below hb
        by_cases h200 : L[k].length ≤ 200
        · have R := parts_step L k bs hr (by omega) h200
          have hsum := parts_more bs L[k]
          obtain ⟨x, hx⟩ : ∃ x, L[k] = x := ⟨_, rfl⟩
          rw [hx] at hcell hcell1 hB hB1 h200 R hsum
          rw [HM.out] at hsum
          have hcp := hB.cap
          have hmx := hB.max
          clear hr hx
          go_wp2_with (at_builtin; refine wpList_append_rd _ rfl (.tmp 28) (.tmp 32) 22 rfl w1.heap.size 5 i0 _ 1 1 Tryd.underlying22 hi hq0 hq1 hq2 rfl (by decide) _ bs.length (byteCells bs) rfl hown Ai x.length ci (byteCells x) rfl hB (bc_one _) ?d1 ?d2 ?d3 ?_)
          case d1 => unfold maxLen; omega
          case d2 => omega
          case d3 => exact hb.size
          intro A4 c4 w4 hown4 hg4
          have hb4 : Below w1.heap.size w1 w4 := hb.grown hg4 hb.size (fun k hk => (hown.lt k hk).1)
          have hown5 : w4.ownsRow w1.heap.size 5 1 (.slice A4 (bs ++ x).length c4) (bs ++ x).length (byteCells (bs ++ x)) := by rw [bc_app, List.length_append]; exact hown4
          have hcell4 := (hb4.cell hblk).trans hcell1
          have hB4 := hB1.below hb4
          have hT4 := hT1.below hb4
          clear hown4 hg4 hown hb hcell hB hcell1 hB1 hblk
          obtain ⟨r, hr⟩ : ∃ r, bs ++ x = r := ⟨_, rfl⟩
          have hrl : r.length = bs.length + x.length := by rw [← hr]; simp
          rw [hr] at R hsum hown5
          have HR := Lib.hid hr
          clear hr
          go_wp2_with fail
          refine (more_at Ai ci x.length m x m (sumOf r) _ hT4 hB4 rfl (by omega) rfl (by omega) hsum).mono ?_
          rintro e w5 ⟨rfl, rfl⟩
          rw [hrl] at hown5
          clear hsum
          have HL := Lib.hid hrl
          clear hrl
          go_wp2
          go_roundw
          case rel => exact ⟨k + 1, r, A4, c4, by rw [HL.out], rfl, by go_num, by omega, R, by rw [HL.out]; exact hown5, hb4⟩
          case measure => simp [intOf]; omega
        · have h201 : (200 : Int) < (L[k].length : Int) := by omega
          go_wp2
          go_ret
          exact ⟨rfl, hb1.trans (hb.mono hb1.size)⟩
      · obtain ⟨s1, hs1⟩ : ∃ s1, bs ++ tail4 (sumOf bs) = s1 := ⟨_, rfl⟩
        obtain ⟨s2, hs2⟩ : ∃ s2, s1 ++ tail4 (sumOf s1) = s2 := ⟨_, rfl⟩
        have hl1 : s1.length = bs.length + 4 := by rw [← hs1]; simp [tail4]
        have hl2 : s2.length = bs.length + 8 := by rw [← hs2]; simp [tail4]; omega
        have ho1 := parts_open bs s1 hs1
        have ho2 := parts_open s1 s2 hs2
        have hT2 := hT1.below hb
        have hB2 := Bs.own hown
        have H1 := Lib.hid hs1
        have H2 := Lib.hid hs2
        have Hl1 := Lib.hid hl1
        have Hl2 := Lib.hid hl2
        obtain ⟨n, hn⟩ : ∃ n, bs.length = n := ⟨_, rfl⟩
        rw [hn] at hown hbl hl1 hl2 ⊢
        clear hs1 hs2 hr
        go_wp2_with fail
        refine (seal_at A2 c2 n bs s1 _ hT2 hB2 hn (by omega) H1.out).mono ?_
        rintro e w3 ⟨A3, c3, rfl, hown3, hb3⟩
        have hB3 := Bs.own hown3
        have hbb3 := hb.trans (hb3.mono hb.size)
        rw [hl1]
        go_wp2_with fail
        refine (seal_at A3 c3 (n + 4) s1 s2 _ (hT1.below hbb3) hB3 hl1 (by omega) H2.out).mono ?_
        rintro e w4 ⟨A4, c4, rfl, hown4, hb4⟩
        have hB4 := Bs.own hown4
        have hbb4 := hbb3.trans (hb4.mono hbb3.size)
        rw [hl2]
        clear hown3 hown4 hB3
        go_wp2_with fail
        refine (open_at A4 c4 (n + 8) 0 s2 s1 _ (hT1.below hbb4) hB4 hl2 (by omega) ho2).mono ?_
        rintro e w5 ⟨A5, c5, rfl, hB5, hb5⟩
        have hbb5 := hbb4.trans (hb5.mono hbb4.size)
        rw [hl1]
        clear hB4
        go_wp2_with fail
        refine (open_at A5 c5 (n + 4) 0 s1 bs _ (hT1.below hbb5) hB5 hl1 (by omega) ho1).mono ?_
        rintro e w6 ⟨A6, c6, rfl, hB6, hb6⟩
        have hbb6 := hbb5.trans (hb6.mono hbb5.size)
        rw [hn]
        have hBB : Bs w6 A2 c2 bs := (((hB2.below hb3).below hb4).below hb5).below hb6
        clear hB5 hB2 hb3 hb4 hb5 hb6 hbb3 hbb4 hbb5 hT2 hl1 hl2 ho1 ho2
        go_wp2_with fail
        refine (sum_at A2 c2 n bs m _ (hT1.below hbb6) hBB hn (by omega) HM.out).mono ?_
        rintro e w7 ⟨rfl, rfl⟩
        go_wp2_with fail
        refine (bytes_at A6 A2 c6 c2 n n bs bs true _ hB6 hBB hn hn (by simp)).mono ?_
        rintro e w7 ⟨rfl, rfl⟩
        go_wp2
        go_ret
        exact ⟨rfl, hb1.trans (hbb6.mono hb1.size)⟩
  · have h1 : (20 : Int) < len := by omega
    go_enter Tryd.func6, Tryd.ntmps6
    go_wp2_with fail
    refine (alive_any _ hT).mono ?_
    rintro e w1 ⟨rfl, hb1⟩
    go_wp2
    go_ret
    exact ⟨rfl, hb1⟩
end Go.Proofs.YtlkghiiknipfcaaDoor.C02
