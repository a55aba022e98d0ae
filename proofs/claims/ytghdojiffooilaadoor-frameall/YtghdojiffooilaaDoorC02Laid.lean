/-
  What the row's condition on the table gives the walks.
-/
import Derived.Test.YtghdojiffooilaaDoorC02More
import Derived.MakeChecks
import Derived.Lib.LaidTab
namespace Go.Proofs.YtghdojiffooilaaDoor.C02
open Go.RowKit Go.Lib

theorem tb_of_laid {W : World} (h : laidMetH Tryd.prog [("tallyroom/crc.halves", Rows.laid_tallyroom_crc_halves)] W) : Tb W := by
  rw [MakeChecks.laidMetH_plain _ _ _ (by kernel_rfl)] at h
  have hg : Tryd.prog.globalNamed "tallyroom/crc.halves" = some 0 := by kernel_rfl
  have hT : TabIs Tryd.prog W "tallyroom/crc.halves" .u32 tab := tabIs_of_head hg (t := 57) (e := 48) (n := 16) (by kernel_rfl) (by kernel_rfl) (by kernel_rfl) (by kernel_rfl) (by kernel_rfl) h
  intro i hi
  rw [hT.cell hg i (by simpa [tab] using hi), tab_all i hi]
end Go.Proofs.YtghdojiffooilaaDoor.C02
