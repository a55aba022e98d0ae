/-
  What Bytes of a table, and the document's Find and Bytes do; what shows tells.
-/
import Derived.Test.YtndcdidepdcmnaaKS05Put
import Derived.Test.YtndcdidepdcmnaaKWords
import Derived.Test.YtndcdidepdcmnaaKV01At
import Derived.Test.YtndcdidepdcmnaaKSame
import Derived.Lib.AppendStr
namespace Go.Proofs.Ytndcdidepdcmnaa.S05
open Go.RowKit Go.Lib Go.Maps Go.Proofs.Ytndcdidepdcmnaa.Wd Go.Proofs.Ytndcdidepdcmnaa.V01

def BRel (L : List ByteArray) (k : Nat) (out : List UInt8) : Prop := vby L.length ++ tx (L.take k) = out ∧ out.length ≤ 10 + k * 5010
theorem b_start (L : List ByteArray) : BRel L 0 (vby L.length) := ⟨by simp [tx], by have := vby_le L.length; omega⟩
theorem b_step (L : List ByteArray) (k : Nat) (out : List UInt8) (h : BRel L k out) (hk : k < L.length) (hz : L[k].size ≤ 5000) : BRel L (k + 1) (out ++ vby L[k].size ++ bs L[k]) := by
  obtain ⟨h1, h2⟩ := h
  have h3 := vby_le L[k].size
  refine ⟨?_, by simp only [List.length_append, bs_len]; omega⟩
  rw [← h1, List.take_add_one, List.getElem?_eq_getElem hk, Option.toList_some, tx_snoc]
  simp [one]
theorem b_end (L : List ByteArray) (k : Nat) (out : List UInt8) (h : BRel L k out) (hk : L.length ≤ k) : out = tb L := by
  rw [← h.1, List.take_of_length_le hk]
  rfl

set_option maxRecDepth 20000 in
set_option maxHeartbeats 2000000 in
theorem bytes_tab (w : World) (p : Nat) (L : List ByteArray) (o : List Nat) (r : List UInt8) (h : Tab w p L o) (hr : tb L = r) :
    Calls Try.prog 24 #[.pointer (some ⟨p, 0, none⟩)] w fun e w' =>
      ∃ A' c', e = .returned (.slice A' r.length c') ∧ w'.ownsRow w.heap.size 5 1 (.slice A' r.length c') r.length (byteCells r) ∧ Below w.heap.size w w' := by
  subst hr
  obtain ⟨i0, hi, hz0, hz1, hz2⟩ := info_parts Wd.byte_info
  have hlen := h.len
  have hsize := h.size
  obtain ⟨A, c, M, h, rfl⟩ := h
  have c0 := h.c0
  have hp : p < w.heap.size := h.lt p (own_p _ _ _)
  have hS : Ss w A c L := Ss.own h.row
  have hst := b_start L
  have hcap := hS.cap
  have hmax := hS.max
  have hend := b_end L
  have hstep := b_step L
  obtain ⟨n, hn⟩ : ∃ n, L.length = n := ⟨_, rfl⟩
  have HN := Lib.hid hn
  rw [hn] at c0 hlen hst hcap
  clear h hn
  go_enter Try.func24, Try.ntmps24
  go_wp2_with fail
  refine (put_at none 0 0 n [] (vby n) n _ (Bs.nil _) rfl rfl (by simp) (by omega) (by omega)).mono ?_
  rintro e w1 ⟨A1, c1, rfl, hown1, hb1⟩
  have d0 := (hb1.cell (p := ⟨p, 0, none⟩) hp).trans c0
  clear c0
  go_wp2_with fail
  go_loopw [3, 20] (fun v i wr => ∃ k out A' c', v = .slice A' (out : List UInt8).length c' ∧ i = .int .i64 (k : Nat) ∧ k ≤ n ∧ BRel L k out ∧
      wr.ownsRow w.heap.size 5 1 (.slice A' out.length c') out.length (byteCells out) ∧ Below w.heap.size w wr) (fun _ i _ => n - (RowKit.intOf i).toNat)
  case atStart => exact ⟨0, vby n, A1, c1, rfl, rfl, by omega, hst, hown1, hb1⟩
  case round =>
    obtain ⟨k, out, A2, c2, rfl, rfl, hk, hR, hown, hb⟩ := hrel
    have hol : out.length ≤ 25000000 := by have := hR.2; omega
    by_cases hkn : k < n
    · have hkL : k < L.length := by rw [HN.out]; exact hkn
      obtain ⟨ad, rfl, hc⟩ := hS.get (k := k) hkL
      have hblk := World.block_lt_of_cell? _ _ hc
      have hz : L[k].size ≤ 4096 := hsize _ (List.getElem_mem _)
      have R := hstep k out hR hkL (by omega)
      have hcr := (hb.cell hblk).trans hc
      obtain ⟨s, hs⟩ : ∃ s, L[k] = s := ⟨_, rfl⟩
      rw [hs] at hc hcr hz R
      clear hs hR hstep hend hst hown1 hb1 d0 hS hsize hkL
      go_wp2_with fail
      refine (put_at none 0 0 s.size [] (vby s.size) s.size _ (Bs.nil _) rfl rfl (by simp) (by omega) (by omega)).mono ?_
      rintro e w3 ⟨A3, c3, rfl, hown3, hb3⟩
      have hown' := own_below hown hb3
      have hB3 := Bs.own hown3
      have hbb : Below w.heap.size w w3 := hb.trans (hb3.mono hb.size)
      have hv10 := vby_le s.size
      clear hown hown3 hb3 hcr
      go_wp2_with (at_builtin; refine wpList_append_rd _ rfl (.tmp 24) (.tmp 28) 25 rfl w.heap.size 5 i0 _ 1 1 Try.underlying25 hi hz0 hz1 hz2 rfl (by decide) _ out.length (byteCells out) rfl hown' A3 (vby s.size).length c3 (byteCells (vby s.size)) rfl hB3 (bc_one _) ?d1 ?d2 ?d3 ?_)
      case d1 => unfold maxLen; omega
      case d2 => omega
      case d3 => exact hbb.size
      intro A4 c4 w4 hown4 hg4
      have hb4 : Below w.heap.size w w4 := hbb.grown hg4 hbb.size (fun k hk => (hown'.lt k hk).1)
      have hcr4 := (hb4.cell hblk).trans hc
      obtain ⟨q, hq⟩ : ∃ q, out ++ vby s.size = q := ⟨_, rfl⟩
      have hql : q.length = out.length + (vby s.size).length := by rw [← hq]; simp
      have hown5 : w4.ownsRow w.heap.size 5 1 (.slice A4 q.length c4) q.length (byteCells q) := by rw [hql, ← hq, bc_app]; exact hown4
      rw [hq] at R
      have HQ := Lib.hid hq
      have hqq : q.length ≤ 25000010 := by omega
      rw [← hql]
      clear hown4 hg4 hown' hB3 hbb hv10 hq hql
      go_wp2_with (at_builtin; refine wpList_append_text _ rfl (.tmp 30) (.tmp 31) 25 9 rfl w.heap.size 5 i0 Try.underlying25 Try.underlying9 hi hz0 hz1 hz2 _ q.length (byteCells q) rfl hown5 s rfl ?e1 ?e2 ?e3 ?_)
      case e1 => unfold maxLen; omega
      case e2 => omega
      case e3 => exact hb4.size
      intro A6 c6 w6 hown6 hg6
      have hb6 : Below w.heap.size w w6 := hb4.grown hg6 hb4.size (fun k hk => (hown5.lt k hk).1)
      have hql : (q ++ bs s).length = q.length + s.size := by rw [List.length_append, bs_len]
      have hown7 : w6.ownsRow w.heap.size 5 1 (.slice A6 (q ++ bs s).length c6) (q ++ bs s).length (byteCells (q ++ bs s)) := by rw [hql, bc_app]; exact hown6
      rw [← hql]
      clear hown6 hg6 hown5 hb4 hcr4 hql
      go_wp2
      go_roundw
      case rel => exact ⟨k + 1, q ++ bs s, A6, c6, rfl, by go_num, by omega, R, hown7, hb6⟩
      case measure => simp [RowKit.intOf]; omega
    · have E := Lib.hid (hend k out hR (by rw [HN.out]; omega))
      clear hR hstep hend hst
      go_wp2
      go_ret
      rw [← E.out]
      exact ⟨A2, c2, rfl, hown, hb⟩
theorem bytes_nil (w : World) : Calls Try.prog 24 #[.pointer none] w fun e w' => e = .returned (.slice none 0 0) ∧ w = w' := by
  go_enter Try.func24, Try.ntmps24
  go_wp2
  go_ret
  exact ⟨rfl, rfl⟩
end Go.Proofs.Ytndcdidepdcmnaa.S05
