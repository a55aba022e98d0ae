/-
  What the document's Wrap does.
-/
import Derived.Test.YtghdojiffooilaaDoorF8Pure
import Derived.Test.YtghdojiffooilaaDoorV01RefPut
import Derived.Test.YtghdojiffooilaaDoorC02Ref
import Derived.Test.YtghdojiffooilaaDoorC02Told
namespace Go.Proofs.YtghdojiffooilaaDoor.F08
open Go.RowKit Go.Lib Go.Proofs.YtghdojiffooilaaDoor.Wd
open Go.Proofs.YtghdojiffooilaaDoor.V01 (vby refput_any)
open Go.Proofs.YtghdojiffooilaaDoor.C02 (tail4 sumOf sumOf_lt refsum_at tail_at tail4_len)

set_option maxRecDepth 20000 in
set_option maxHeartbeats 2000000 in
theorem refwrap_any (A : Option Addr) (c len : Nat) (l r : List UInt8) (w : World) (ha : Bs w A c l) (hlen : l.length = len) (hl : len ≤ 65000) (hr : frm l = r) :
    Calls Tryd.prog 12 #[.slice A len c] w fun x w' => ∃ A' c', x = .returned (.slice A' r.length c') ∧ Bs w' A' c' r ∧ Below w.heap.size w w' := by
  obtain ⟨i0, hi, hq0, hq1, hq2⟩ := info_parts byte_info
  have hlm := Nat.le_trans ha.cap ha.max
  unfold maxLen at hlm
  obtain ⟨m, hm⟩ : ∃ m, sumOf l = m := ⟨_, rfl⟩
  have hm1 := sumOf_lt l
  rw [hm] at hm1
  obtain ⟨v, hv⟩ : ∃ v, vby len = v := ⟨_, rfl⟩
  have hvl : v.length ≤ 10 := by rw [← hv]; exact vby_le _
  have hr' : v ++ l ++ tail4 m = r := by rw [← hr, ← hv, ← hm, ← hlen]; simp [frm]
  have hrl : r.length = v.length + len + 4 := by rw [← hr']; simp [tail4]; omega
  have hp := refput_any len w (by omega)
  rw [hv] at hp
  have HR := Lib.hid hr'
  have HL := Lib.hid hrl
  clear hr hr' hrl hv
  go_enter Tryd.func12, Tryd.ntmps12
  go_wp2_with fail
  refine hp.mono ?_
  rintro x w1 ⟨A1, c1, rfl, hown1, hb1⟩
  have ha1 := ha.below hb1
  have hr0 : Rd 1 w1 A len c (byteCells l) := by have := ha1; unfold Bs at this; rw [hlen] at this; exact this
  go_wp2_with (at_builtin; refine wpList_append_rd _ rfl (.tmp 7) (.tmp 8) 22 rfl w.heap.size 5 i0 _ 1 1 Tryd.underlying22 hi hq0 hq1 hq2 rfl (by decide) _ v.length (byteCells v) rfl hown1 A len c (byteCells l) rfl hr0 (bc_one _) ?d1 ?d2 ?d3 ?_)
  case d1 => unfold maxLen; omega
  case d2 => omega
  case d3 => exact hb1.size
  intro A2 c2 w2 hown2 hg2
  have hb2 : Below w.heap.size w w2 := hb1.grown hg2 hb1.size (fun k hk => (hown1.lt k hk).1)
  have ha2 := ha.below hb2
  clear hr0 hg2 hown1 ha1 hb1
  go_wp2_with fail
  refine (refsum_at A c len l m _ ha2 hlen (by omega) hm).mono ?_
  rintro x w3 ⟨rfl, rfl⟩
  go_wp2_with fail
  refine (tail_at m _ (by omega)).mono ?_
  rintro x w4 ⟨A4, rfl, hB4, hb4⟩
  have hown4 := own_below hown2 hb4
  have hb4' := hb2.trans (hb4.mono hb2.size)
  clear hb4 hb2 hown2 ha2
  go_wp2_with (at_builtin; refine wpList_append_rd _ rfl (.tmp 10) (.tmp 13) 22 rfl w.heap.size 5 i0 _ 1 1 Tryd.underlying22 hi hq0 hq1 hq2 rfl (by decide) _ (v.length + len) (byteCells v ++ byteCells l) rfl hown4 A4 4 4 (byteCells (tail4 m)) rfl hB4 (bc_one _) ?f1 ?f2 ?f3 ?_)
  case f1 => unfold maxLen; omega
  case f2 => omega
  case f3 => exact hb4'.size
  intro A5 c5 w5 hown5 hg5
  have hb5 : Below w.heap.size w w5 := hb4'.grown hg5 hb4'.size (fun k hk => (hown4.lt k hk).1)
  have hown5' : w5.ownsRow w.heap.size 5 1 (.slice A5 r.length c5) r.length (byteCells r) := by
    rw [HL.out, ← HR.out, bc_app, bc_app, List.append_assoc]
    exact hown5
  have hB5 := Bs.own hown5'
  clear hown5 hg5 hown4 hb4' hB4
  go_wp2
  go_ret
  exact ⟨A5, c5, by rw [HL.out]; rfl, hB5, hb5⟩
end Go.Proofs.YtghdojiffooilaaDoor.F08
