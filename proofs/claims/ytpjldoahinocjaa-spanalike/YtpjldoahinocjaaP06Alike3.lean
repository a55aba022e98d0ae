/-
  Made alike: Alike.
-/
import Derived.Test.YtpjldoahinocjaaP06Alike2
set_option linter.unusedSimpArgs false
set_option linter.unusedVariables false
namespace Go.Proofs.Ytpjldoahinocjaa.P06
open Go.Shelf Go.RowKit Go.Lib Go.Sort Go.Proofs.Ytpjldoahinocjaa.Wd Go.Proofs.Ytpjldoahinocjaa.V04

theorem Hd.heap {B : Nat} {w w' : World} {A : Option Addr} {c : Nat} {l : List At} (h : Hd B w A c l) (hk : ∀ g, B ≤ g → g < w.heap.size → w'.heap[g]? = w.heap[g]?) (hz : w.heap.size ≤ w'.heap.size) : Hd B w' A c l := by
  rcases h with h | ⟨g, hA, hB, hg, hH, hr⟩
  · exact .inl h
  · refine .inr ⟨g, hA, hB, Nat.lt_of_lt_of_le hg hz, ?_, hr⟩
    intro j hj
    have h1 := hH j hj
    have e := hk g hB hg
    refine ⟨?_, ?_⟩
    · rw [World.cell?_of_block (by exact e)]; exact h1.1
    · rw [World.frozen?_of_block (by exact e)]; exact h1.2
/-- made alike, but for the attributes -/
def alk (s : Sp) (m : Int) : Sp := ⟨s.T, s.I, s.P, lab s.sv m, lab s.nm m, s.kd, s.st, s.t0, s.t1⟩
/-- what Alike answers -/
def AlOut (w : World) (s : Sp) (n : Nat) (l : List At) (e : Ending) (w' : World) : Prop := ∃ A' c' Y, e = .returned (spv s (.slice A' n c')) ∧ Y.length = n ∧ Srt Y ∧ Keep l Y ∧ Hd w.heap.size w' A' c' Y ∧ Below w.heap.size w w'
theorem AlOut.of {w : World} {s : Sp} {n : Nat} {l : List At} {e : Ending} {w' : World} (A' : Option Addr) (c' : Nat) (Y : List At) (h1 : e = .returned (spv s (.slice A' n c'))) (h2 : Y.length = n) (h3 : Srt Y) (h4 : Keep l Y) (h5 : Hd w.heap.size w' A' c' Y) (h6 : Below w.heap.size w w') : AlOut w s n l e w' := ⟨A', c', Y, h1, h2, h3, h4, h5, h6⟩

set_option maxRecDepth 20000 in
set_option maxHeartbeats 4000000 in
theorem alike_any (s : Sp) (m : Int) (A : Option Addr) (c n : Nat) (l : List At) (w : World) (h : Hd 0 w A c l) (hn : l.length = n) (hm : n ≤ 40) (hs1 : s.sv.size ≤ 65536) (hs2 : s.nm.size ≤ 65536) :
    Calls Try.prog 14 #[spv s (.slice A n c), .int .i64 m] w (AlOut w (alk s m) n l) := by
  have hc1 := fun W => label_any s.sv m W hs1
  have hc2 := fun W => label_any s.nm m W hs2
  have hc3 := fun W (hW : Below w.heap.size w W) => bykeys_any A c n l W (h.below hW) hn hm
  have HA : Hid (alk s m = ⟨s.T, s.I, s.P, lab s.sv m, lab s.nm m, s.kd, s.st, s.t0, s.t1⟩) := rfl
  generalize lab s.sv m = L1 at *
  generalize lab s.nm m = L2 at *
  generalize alk s m = s2 at *
  have K1 : Bk ((w.alloc (.cells (spc s (.slice A n c)) 30)).alloc (.cells zsp 30)) w.heap.size 30 (spc s (.slice A n c)) := (Bk.new w _ _).below (below_box _ _ (Nat.le_refl _))
  have K2 : Bk ((w.alloc (.cells (spc s (.slice A n c)) 30)).alloc (.cells zsp 30)) (w.heap.size + 1) 30 zsp := by
    have h4 := Bk.new (w.alloc (.cells (spc s (.slice A n c)) 30)) 30 zsp
    have e4 : (w.alloc (.cells (spc s (.slice A n c)) 30)).heap.size = w.heap.size + 1 := by simp
    rw [e4] at h4
    exact h4
  have b0 : Below w.heap.size w ((w.alloc (.cells (spc s (.slice A n c)) 30)).alloc (.cells zsp 30)) := by go_grown
  clear h hn
  go_enter Try.func14, Try.ntmps14
  go_wp2_with fail
  refine (hc1 _).mono ?_
  rintro e w2 ⟨rfl, hb2⟩
  replace K1 := K1.below hb2
  replace K2 := K2.below hb2
  replace b0 := b0.trans (hb2.mono b0.size)
  have x3 : w2.cell? ⟨w.heap.size, 3, none⟩ = some (.string s.sv) := K1.cell 3
  have x4 : w2.cell? ⟨w.heap.size, 4, none⟩ = some (.string s.nm) := K1.cell 4
  have g3 := K1.frozen 3
  clear hb2 hc1
  go_wp2_with fail
  refine (hc2 _).mono ?_
  rintro e w3 ⟨rfl, hb3⟩
  have e3 : (spc s (.slice A n c)).setIfInBounds 3 (.string L1) = spc ⟨s.T, s.I, s.P, L1, s.nm, s.kd, s.st, s.t0, s.t1⟩ (.slice A n c) := rfl
  have J1 := (K1.set 3 (.string L1)).below hb3
  rw [e3] at J1
  have J2 := (K2.other w.heap.size 3 (.string L1) (by omega)).below hb3
  have b3 : Below w.heap.size w w3 := (b0.setCell (p := ⟨w.heap.size, 3, none⟩) (Nat.le_refl _) (.string L1)).trans (hb3.mono (by simpa using b0.size))
  clear hb3 hc2 K1 K2 x3 x4 g3 b0 e3
  have x4 : w3.cell? ⟨w.heap.size, 4, none⟩ = some (.string s.nm) := J1.cell 4
  have x9 : w3.cell? ⟨w.heap.size, 9, none⟩ = some (.slice A n c) := J1.cell 9
  have g4 := J1.frozen 4
  have b4 : Below w.heap.size w (w3.setCell ⟨w.heap.size, 4, none⟩ (.string L2)) := b3.setCell (p := ⟨w.heap.size, 4, none⟩) (Nat.le_refl _) (.string L2)
  go_wp2_with fail
  refine (hc3 _ b4).mono ?_
  rintro e w4 ⟨A', c', Y, rfl, hY, hY1, hY2, hY3, hb4⟩
  have e4 : (spc ⟨s.T, s.I, s.P, L1, s.nm, s.kd, s.st, s.t0, s.t1⟩ (.slice A n c)).setIfInBounds 4 (.string L2) = spc s2 (.slice A n c) := by rw [un HA]; rfl
  have I1 := (J1.set 4 (.string L2)).below hb4
  rw [e4] at I1
  have I2 := (J2.other w.heap.size 4 (.string L2) (by omega)).below hb4
  have b5 : Below w.heap.size w w4 := b4.trans (hb4.mono b4.size)
  have hlow : w.heap.size + 1 + 1 ≤ (w3.setCell ⟨w.heap.size, 4, none⟩ (.string L2)).heap.size := by have := J2.lt; simp; omega
  have M1 := I1.set 9 (.slice A' n c')
  have e9 : (spc s2 (.slice A n c)).setIfInBounds 9 (.slice A' n c') = spc s2 (.slice A' n c') := rfl
  rw [e9] at M1
  have M2 := I2.other w.heap.size 9 (.slice A' n c') (by omega)
  have y9 : w4.cell? ⟨w.heap.size, 9, none⟩ = some (.slice A n c) := I1.cell 9
  have h9 := I1.frozen 9
  have y0 : w4.cell? ⟨w.heap.size, 0, none⟩ = some (.int .u64 s2.T) := I1.cell 0
  have y1 : w4.cell? ⟨w.heap.size, 1, none⟩ = some (.int .u64 s2.I) := I1.cell 1
  have y2 : w4.cell? ⟨w.heap.size, 2, none⟩ = some (.int .u64 s2.P) := I1.cell 2
  have y3 : w4.cell? ⟨w.heap.size, 3, none⟩ = some (.string s2.sv) := I1.cell 3
  have y4 : w4.cell? ⟨w.heap.size, 4, none⟩ = some (.string s2.nm) := I1.cell 4
  have y5 : w4.cell? ⟨w.heap.size, 5, none⟩ = some (.int .i64 s2.kd) := I1.cell 5
  have y6 : w4.cell? ⟨w.heap.size, 6, none⟩ = some (.int .i64 s2.st) := I1.cell 6
  have y7 : w4.cell? ⟨w.heap.size, 7, none⟩ = some (.int .u64 s2.t0) := I1.cell 7
  have y8 : w4.cell? ⟨w.heap.size, 8, none⟩ = some (.int .u64 s2.t1) := I1.cell 8
  have z0 : w4.cell? ⟨w.heap.size + 1, 0, none⟩ = some (.int .u64 0) := I2.cell 0
  have z1 : w4.cell? ⟨w.heap.size + 1, 1, none⟩ = some (.int .u64 0) := I2.cell 1
  have z2 : w4.cell? ⟨w.heap.size + 1, 2, none⟩ = some (.int .u64 0) := I2.cell 2
  have z3 : w4.cell? ⟨w.heap.size + 1, 3, none⟩ = some (.string ⟨#[]⟩) := I2.cell 3
  have z4 : w4.cell? ⟨w.heap.size + 1, 4, none⟩ = some (.string ⟨#[]⟩) := I2.cell 4
  have z5 : w4.cell? ⟨w.heap.size + 1, 5, none⟩ = some (.int .i64 0) := I2.cell 5
  have z6 : w4.cell? ⟨w.heap.size + 1, 6, none⟩ = some (.int .i64 0) := I2.cell 6
  have z7 : w4.cell? ⟨w.heap.size + 1, 7, none⟩ = some (.int .u64 0) := I2.cell 7
  have z8 : w4.cell? ⟨w.heap.size + 1, 8, none⟩ = some (.int .u64 0) := I2.cell 8
  have z9 : w4.cell? ⟨w.heap.size + 1, 9, none⟩ = some (.slice none 0 0) := I2.cell 9
  have k0 := I2.frozen 0
  have k1 := I2.frozen 1
  have k2 := I2.frozen 2
  have k3 := I2.frozen 3
  have k4 := I2.frozen 4
  have k5 := I2.frozen 5
  have k6 := I2.frozen 6
  have k7 := I2.frozen 7
  have k8 := I2.frozen 8
  have k9 := I2.frozen 9
  have hfin : Bk (put10 (w4.setCell ⟨w.heap.size, 9, none⟩ (.slice A' n c')) (w.heap.size + 1) s2 (.slice A' n c')) (w.heap.size + 1) 30 (spc s2 (.slice A' n c')) := M2.put10 s2 _
  have hhd : Hd w.heap.size (put10 (w4.setCell ⟨w.heap.size, 9, none⟩ (.slice A' n c')) (w.heap.size + 1) s2 (.slice A' n c')) A' c' Y := by
    refine (hY3.heap (fun g h1 h2 => ?_) ?_).low (by omega)
    · rw [heap_put10 _ _ _ _ _ (by omega), heap_set _ _ _ _ _ (by omega)]
    · rw [size_put10]; simp
  have hbl : Below w.heap.size w (put10 (w4.setCell ⟨w.heap.size, 9, none⟩ (.slice A' n c')) (w.heap.size + 1) s2 (.slice A' n c')) := by
    have h1 := b5.setCell (p := ⟨w.heap.size, 9, none⟩) (Nat.le_refl _) (.slice A' n c')
    have h2 := put10_os (w4.setCell ⟨w.heap.size, 9, none⟩ (.slice A' n c')) (w.heap.size + 1) s2 (.slice A' n c')
    refine ⟨h2.1.trans h1.os, h2.2.1.trans h1.tape, h2.2.2.trans h1.output, by rw [size_put10]; exact h1.size, fun g hg => ?_⟩
    rw [heap_put10 _ _ _ _ _ (by omega)]
    exact h1.block g hg
  clear I1 I2 M1 M2 J1 J2 hb4 b4 b5 b3 x4 x9 g4 e4 e9 hc3 HA hlow hY3
  go_wp2
  change bodyPost _ _ _ _ _ (put10 (w4.setCell ⟨w.heap.size, 9, none⟩ (.slice A' n c')) (w.heap.size + 1) s2 (.slice A' n c'))
  clear y0 y1 y2 y3 y4 y5 y6 y7 y8 y9 z0 z1 z2 z3 z4 z5 z6 z7 z8 z9 k0 k1 k2 k3 k4 k5 k6 k7 k8 k9 h9
  generalize put10 (w4.setCell ⟨w.heap.size, 9, none⟩ (.slice A' n c')) (w.heap.size + 1) s2 (.slice A' n c') = W at *
  have x0 : W.cell? ⟨w.heap.size + 1, 0, none⟩ = some (.int .u64 s2.T) := hfin.cell 0
  have x1 : W.cell? ⟨w.heap.size + 1, 1, none⟩ = some (.int .u64 s2.I) := hfin.cell 1
  have x2 : W.cell? ⟨w.heap.size + 1, 2, none⟩ = some (.int .u64 s2.P) := hfin.cell 2
  have x3 : W.cell? ⟨w.heap.size + 1, 3, none⟩ = some (.string s2.sv) := hfin.cell 3
  have x4 : W.cell? ⟨w.heap.size + 1, 4, none⟩ = some (.string s2.nm) := hfin.cell 4
  have x5 : W.cell? ⟨w.heap.size + 1, 5, none⟩ = some (.int .i64 s2.kd) := hfin.cell 5
  have x6 : W.cell? ⟨w.heap.size + 1, 6, none⟩ = some (.int .i64 s2.st) := hfin.cell 6
  have x7 : W.cell? ⟨w.heap.size + 1, 7, none⟩ = some (.int .u64 s2.t0) := hfin.cell 7
  have x8 : W.cell? ⟨w.heap.size + 1, 8, none⟩ = some (.int .u64 s2.t1) := hfin.cell 8
  have x9 : W.cell? ⟨w.heap.size + 1, 9, none⟩ = some (.slice A' n c') := hfin.cell 9
  (try simp only [Exit.inBlock, Exit.then])
  refine bodyPost_ret (by simp [results, Try.results14, go_sem, x0, x1, x2, x3, x4, x5, x6, x7, x8, x9]; try rfl) rfl ?_
  exact AlOut.of A' c' Y rfl hY hY1 hY2 hhd hbl
end Go.Proofs.Ytpjldoahinocjaa.P06
