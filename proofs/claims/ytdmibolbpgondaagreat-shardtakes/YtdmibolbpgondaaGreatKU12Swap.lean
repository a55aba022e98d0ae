/-
  Swap of the items.
-/
import Derived.Test.YtdmibolbpgondaaGreatKU12Less
import Derived.Test.YtdmibolbpgondaaGreatKP06Region
import Derived.BigRegion
set_option linter.unusedSimpArgs false
set_option linter.unusedVariables false
namespace Go.Proofs.YtdmibolbpgondaaGreat.U12
open Go.RowKit Go.Lib Go.Maps Go.Proofs.YtdmibolbpgondaaGreat.Wd

section
variable {w w' : World} {p c b N : Nat} {A : Option Addr} {K : Nat → It} {D : DataW Unit}
theorem drew_below (w : World) : Below w.heap.size w w.drew := (Below.refl _ _).drew
/-- a place told in the map -/
theorem Im.tell {x i : Nat} (h : Im w p A c b N K D) (hx : (x : Int) ≤ 18446744073709551615) (hi : i ≤ 100000) (hs : Maps.size D ≤ 100000) :
    ∃ w', (Instr.mapUpdate 136 (.map (some b)) (.int .u64 (x : Int)) (.int .i64 (i : Int))).run Tryz.prog w = .ok () w' ∧ Im w' p A c b N K (D.put (ik x) (U12.num i)) ∧ Fr (own p A b) w w' ∧ Maps.size (D.put (ik x) (U12.num i)) ≤ Maps.size D + 1 := by
  obtain ⟨w', hrun, hown, hturn⟩ := h.map.store law Tryz.underlying136 (by unfold maxLen; omega) (key_ok hx) (num_ok hi)
  obtain ⟨h2, F⟩ := h.turn hown hturn.grown
  exact ⟨w', hrun, h2, F, hown.size_le⟩
set_option maxRecDepth 20000 in
set_option maxHeartbeats 1000000 in
theorem swap_at (h : Im w p A c b N K D) (i j : Nat) (hi : i < N) (hj : j < N) (hij : i ≠ j) (hP : Pl D K N) (hn : Nd K N) :
    Calls Tryz.prog 169 #[.pointer (some ⟨p, 0, none⟩), .int .i64 (i : Int), .int .i64 (j : Int)] w fun e w' => e = .returned (.tuple #[]) ∧ ∃ D', Im w' p A c b N (sw K i j) D' ∧ Pl D' (sw K i j) N ∧ Fr (own p A b) w w' := by
  have c0 := h.c0
  have c1 := h.c1
  have hN := h.few
  obtain ⟨g, rfl, i0, i1, hf, hc, hm⟩ := h.get hi
  obtain ⟨_, e, j0, j1, _⟩ := h.get hj
  cases e
  have ni := h.num i hi
  have nj := h.num j hj
  obtain ⟨h1, F1⟩ := h.set hi nj
  obtain ⟨h2, F2⟩ := h1.set hj ni
  rw [sw_up1 K hij] at h2
  have F2 := F1.then F2
  have hPs := Lib.hid (hP.sw hn hi hj hij)
  have hsz := hP.size
  have y0 : (0 : Int) ≤ (i : Int) := by omega
  have y1 : ((i : Int)).toNat = i := by omega
  have y2 : (0 : Int) ≤ (j : Int) := by omega
  have y3 : ((j : Int)).toNat = j := by omega
  have z0 := hf (i * 2)
  have z1 := hf (i * 2 + 1)
  have z2 := hf (j * 2)
  have z3 := hf (j * 2 + 1)
  have ei := sw_i K i j
  have ej := sw_j K i j
  clear h h1 F1 hf hP hn
  unfold iput at h2 F2
  generalize K i = x at *
  generalize K j = y at *
  generalize sw K i j = L at *
  have H2 := Lib.hid h2
  have G2 := Lib.hid F2
  have EI := Lib.hid ei
  have EJ := Lib.hid ej
  have SZ := Lib.hid hsz
  clear h2 F2 ei ej hsz
  go_enter Tryz.func169, Tryz.ntmps169
  go_wp2_with fail
  go_region
  obtain ⟨V, hV⟩ : ∃ V, ((((w.setCell ⟨g, i * 2, none⟩ (.int .u64 (y.1 : Int))).setCell ⟨g, i * 2 + 1, none⟩ (.int .u64 (y.2 : Int))).setCell ⟨g, j * 2, none⟩ (.int .u64 (x.1 : Int))).setCell ⟨g, j * 2 + 1, none⟩ (.int .u64 (x.2 : Int))).drew = V := ⟨_, rfl⟩
  rw [hV]
  have A1 : Im V p (some ⟨g, 0, none⟩) c b N L D := hV ▸ (H2.out).below (drew_below _)
  have G1 : Fr (own p (some ⟨g, 0, none⟩) b) w V := hV ▸ ⟨G2.out.os, G2.out.tape, G2.out.output, G2.out.size, G2.out.block⟩
  clear hV H2 G2 c0 c1 i0 i1 j0 j1 z0 z1 z2 z3
  have A2 := A1.below (drew_below V)
  obtain ⟨V3, hrun, A3, G3, hs3⟩ := A2.tell (x := y.1) (i := i) nj.1 (by omega) (by rw [SZ.out]; omega)
  have c0 := A1.c0
  have c1 := A1.c1
  obtain ⟨_, e, i0, _⟩ := A1.get hi
  cases e
  rw [EI.out] at i0
  have A4 := A3.below (drew_below V3)
  obtain ⟨V5, hrun5, A5, G5, _⟩ := A4.tell (x := x.1) (i := j) ni.1 (by omega) (by rw [SZ.out] at hs3; omega)
  have d0 := A3.c0
  have d1 := A3.c1
  obtain ⟨_, e, j0, _⟩ := A3.get hj
  cases e
  rw [EJ.out] at j0
  have G : Fr (own p (some ⟨g, 0, none⟩) b) w V5 := (G1.then ((Fr.of_below _ (drew_below V)).then G3)).then ((Fr.of_below _ (drew_below V3)).then G5)
  clear A1 A2 A3 A4 G1 G3 G5 hs3
  go_wp2_with fail
  go_region
  clear c0 c1 i0 hrun
  go_wp2_with fail
  go_region
  clear d0 d1 j0 hrun5
  go_wp2
  go_returns
  exact ⟨rfl, _, A5, hPs.out, G⟩
end
end Go.Proofs.YtdmibolbpgondaaGreat.U12
