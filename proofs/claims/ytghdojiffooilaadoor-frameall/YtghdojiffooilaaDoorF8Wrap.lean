/-
  What frame.Wrap does.
-/
import Derived.Test.YtghdojiffooilaaDoorF8Pure
import Derived.Test.YtghdojiffooilaaDoorF8Mem
import Derived.Test.YtghdojiffooilaaDoorV01At
import Derived.Test.YtghdojiffooilaaDoorC02Laid
import Derived.Test.YtghdojiffooilaaDoorV04Grow
namespace Go.Proofs.YtghdojiffooilaaDoor.F08
open Go.RowKit Go.Lib Go.Proofs.YtghdojiffooilaaDoor.Wd
open Go.Proofs.YtghdojiffooilaaDoor.V01 (vby)
open Go.Proofs.YtghdojiffooilaaDoor.C02 (tail4 sumOf Tb seal_at)

set_option maxRecDepth 20000 in
theorem wrap_long (A : Option Addr) (c len : Nat) (w : World) (h : 65536 < len) :
    Calls Tryd.prog 10 #[.slice A len c] w fun x w' => x = .returned (.tuple #[.slice none 0 0, .int .i64 2]) ∧ w = w' := by
  have h1 : (65536 : Int) < (len : Int) := by omega
  go_enter Tryd.func10, Tryd.ntmps10
  go_wp2
  go_ret2
  exact ⟨rfl, rfl⟩

set_option maxRecDepth 20000 in
set_option maxHeartbeats 1000000 in
theorem wrap_own (A : Option Addr) (c len : Nat) (l r : List UInt8) (w : World) (hT : Tb w) (ha : Bs w A c l) (hlen : l.length = len) (hl : len ≤ 65000) (hr : frm l = r) :
    Calls Tryd.prog 10 #[.slice A len c] w fun x w' => ∃ A' c', x = .returned (.tuple #[.slice A' r.length c', .int .i64 0]) ∧
      w'.ownsRow w.heap.size 5 1 (.slice A' r.length c') r.length (Lib.byteCells r) ∧ Below w.heap.size w w' := by
  have h1 : ¬ (65536 : Int) < (len : Int) := by omega
  obtain ⟨v, hv⟩ : ∃ v, vby l.length = v := ⟨_, rfl⟩
  have hvl : v.length ≤ 10 := by rw [← hv]; exact vby_le _
  obtain ⟨s, hs⟩ : ∃ s, l ++ tail4 (sumOf l) = s := ⟨_, rfl⟩
  have hsl : s.length = len + 4 := by rw [← hs]; simp [tail4]; omega
  have hrs : v ++ s = r := by rw [← hv, ← hs]; exact hr
  have hrl : r.length = v.length + s.length := by rw [← hrs]; simp
  have HL := Lib.hid hrl
  have HS := Lib.hid hrs
  have HT := Lib.hid hs
  rw [hlen] at hv
  clear hrl hrs hs hr
  go_enter Tryd.func10, Tryd.ntmps10
  go_wp2_with fail
  refine (V01.put_at none 0 0 (len : Int) [] v len w (Bs.nil w) rfl rfl (by simpa using hv) (by omega) (by omega)).mono ?_
  rintro x w1 ⟨A1, c1, rfl, hown1, hb1⟩
  have hB1 := Bs.own hown1
  clear hown1
  go_wp2_with fail
  refine (seal_at A c len l s _ (hT.below hb1) (ha.below hb1) hlen (by omega) HT.out).mono ?_
  rintro x w2 ⟨A2, c2, rfl, hown2, hb2⟩
  have hB2 := Bs.own hown2
  have hB1' := hB1.below hb2
  have hbb := hb1.trans (hb2.mono hb1.size)
  clear hown2 hB1 hb1 hb2
  obtain ⟨w3, hw3⟩ : ∃ w3, w2.alloc (.cells #[.slice A1 v.length c1, .slice A2 (len + 4) c2] 22) = w3 := ⟨_, rfl⟩
  have k0 : w3.cell? ⟨w2.heap.size, 0, none⟩ = some (.slice A1 v.length c1) := by rw [← hw3]; exact World.cell?_alloc_mark w2 _ _ (0, 0) 0
  have k1 : w3.cell? ⟨w2.heap.size, 1, none⟩ = some (.slice A2 (len + 4) c2) := by rw [← hw3]; exact World.cell?_alloc_mark w2 _ _ (0, 0) 1
  have hb3 : Below w2.heap.size w2 w3 := by rw [← hw3]; exact (Below.refl _ _).alloc (Nat.le_refl _) _
  have HW := Lib.hid hw3
  have hcc := V04.concat_at A1 A2 c1 c2 v.length (len + 4) v s w2.heap.size w3 k0 k1 (hB1'.below hb3) (hB2.below hb3) rfl hsl (by omega) (by omega)
  rw [HS.out, ← hsl, ← HL.out] at hcc
  have hbb3 := hbb.trans (hb3.mono hbb.size)
  clear hw3 k0 k1 hB1' hB2 hT ha
  go_wp2_with fail
  rw [HW.out]
  refine hcc.mono ?_
  rintro x w4 ⟨A4, c4, rfl, hown4, hb4⟩
  have hbb4 := hbb3.trans (hb4.mono hbb3.size)
  have hown4' := own_low hown4 hbb3.size
  go_wp2
  go_ret2
  exact ⟨A4, c4, rfl, hown4', hbb4⟩
end Go.Proofs.YtghdojiffooilaaDoor.F08
