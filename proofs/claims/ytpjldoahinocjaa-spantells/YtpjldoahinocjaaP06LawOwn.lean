/-
  The walk of SpanOwn.
-/
import Derived.Test.YtpjldoahinocjaaP06Same
import Derived.Test.YtpjldoahinocjaaP06Open
import Derived.Deep.QuietTactic
import Derived.BigQuiet
set_option linter.unusedSimpArgs false
set_option linter.unusedVariables false
namespace Go.Proofs.Ytpjldoahinocjaa.P06
open Go.Shelf Go.RowKit Go.Lib Go.Sort Go.Proofs.Ytpjldoahinocjaa.Wd Go.Proofs.Ytpjldoahinocjaa.V04

theorem far_sizes {s : Sp} {l : List At} (h : far s l = false) : s.sv.size ≤ 5000 ∧ s.nm.size ≤ 5000 := by
  unfold far at h
  simp only [Bool.or_eq_false_iff, decide_eq_false_iff_not] at h
  omega
theorem tl_eq {a b : ByteArray} (h : a = b) : (a.toList == b.toList) = true := by rw [h]; simp
theorem tl_ne {a b : ByteArray} (h : a ≠ b) : (a.toList == b.toList) = false := by
  rw [beq_eq_false_iff_ne]
  intro e
  rw [ByteArray.toList_eq, ByteArray.toList_eq] at e
  exact h (ByteArray.ext (Array.toList_inj.1 e))
/-- the keys of a row of its own -/
def KeysR (W : World) (A : Option Addr) (n B T : Nat) : Prop := ∀ j, j < n → ∃ g v, A = some ⟨g, 0, none⟩ ∧ B ≤ g ∧ g < T ∧ W.cell? ⟨g, j * 4, none⟩ = some (.string v) ∧ W.frozen? ⟨g, j * 4, none⟩ = false
theorem KeysR.of {W : World} {A : Option Addr} {c n B : Nat} {l : List At} (h : Hd B W A c l) (hn : l.length = n) : KeysR W A n B W.heap.size := by
  intro j hj
  rcases h with ⟨_, _, rfl⟩ | ⟨g, hA, hB, hg, hH, _⟩
  · simp at hn; omega
  · have F := (Hd.four hH (k := j) (by omega)).c0
    have hf := (hH (j * 4) (by rw [size_flatK]; simp; omega)).2
    rw [Nat.zero_add] at hf
    exact ⟨g, _, hA, hB, hg, F, hf⟩
theorem KeysR.below {W W' : World} {A : Option Addr} {n B T : Nat} (h : KeysR W A n B T) (hT : T ≤ W.heap.size) (hb : Below W.heap.size W W') : KeysR W' A n B T := by
  intro j hj
  obtain ⟨g, v, h1, h2, h3, h4, h5⟩ := h j hj
  have e := hb.block g (Nat.lt_of_lt_of_le h3 hT)
  exact ⟨g, v, h1, h2, h3, by rw [World.cell?_of_block (by exact e)]; exact h4, by rw [World.frozen?_of_block (by exact e)]; exact h5⟩
theorem KeysR.put {W : World} {A : Option Addr} {n B T g : Nat} (h : KeysR W A n B T) (k : Nat) (x : ByteArray) : KeysR (W.setCell ⟨g, k * 4, none⟩ (.string x)) A n B T := by
  intro j hj
  obtain ⟨g', v, h1, h2, h3, h4, h5⟩ := h j hj
  by_cases e : (⟨g, k * 4, none⟩ : Addr) = ⟨g', j * 4, none⟩
  · exact ⟨g', x, h1, h2, h3, by rw [e]; apply World.cell?_setCell_same; exact h4, by rw [World.frozen?_setCell]; exact h5⟩
  · exact ⟨g', v, h1, h2, h3, by refine Eq.trans ?_ h4; apply World.cell?_setCell_other; exact e, by rw [World.frozen?_setCell]; exact h5⟩
/-- in the loop -/
structure OwR (w w3 w4 w5 : World) (s y v : Sp) (A : Option Addr) (n c : Nat) (A5 : Option Addr) (c5 : Nat) (A6 : Option Addr) (c6 : Nat) (A7 : Option Addr) (c7 : Nat) (wr : World) : Prop where
  k1 : Bk wr w.heap.size 25 (spc s (.slice A n c))
  k2 : Bk wr w3.heap.size 30 (spc s (.slice A5 n c5))
  k3 : Bk wr w4.heap.size 30 (spc y (.slice A6 n c6))
  k4 : Bk wr w5.heap.size 30 (spc v (.slice A7 n c7))
  b0 : Below w.heap.size w wr
  bx : Below w3.heap.size w3 wr
  ks : KeysR wr A6 n (w3.heap.size + 1) w4.heap.size
  le : w4.heap.size ≤ w5.heap.size
theorem forty {W : World} {g1 g2 g3 g4 : Nat} {t1 t2 t3 t4 : TypeId} {s1 s2 s3 s4 : Sp} {v1 v2 v3 v4 : Value} (h1 : Bk W g1 t1 (spc s1 v1)) (h2 : Bk W g2 t2 (spc s2 v2)) (h3 : Bk W g3 t3 (spc s3 v3)) (h4 : Bk W g4 t4 (spc s4 v4)) : W.cell? ⟨g1, 0, none⟩ = some (.int .u64 s1.T) ∧ W.cell? ⟨g1, 1, none⟩ = some (.int .u64 s1.I) ∧ W.cell? ⟨g1, 2, none⟩ = some (.int .u64 s1.P) ∧ W.cell? ⟨g1, 3, none⟩ = some (.string s1.sv) ∧ W.cell? ⟨g1, 4, none⟩ = some (.string s1.nm) ∧ W.cell? ⟨g1, 5, none⟩ = some (.int .i64 s1.kd) ∧ W.cell? ⟨g1, 6, none⟩ = some (.int .i64 s1.st) ∧ W.cell? ⟨g1, 7, none⟩ = some (.int .u64 s1.t0) ∧ W.cell? ⟨g1, 8, none⟩ = some (.int .u64 s1.t1) ∧ W.cell? ⟨g1, 9, none⟩ = some (v1) ∧ W.cell? ⟨g2, 0, none⟩ = some (.int .u64 s2.T) ∧ W.cell? ⟨g2, 1, none⟩ = some (.int .u64 s2.I) ∧ W.cell? ⟨g2, 2, none⟩ = some (.int .u64 s2.P) ∧ W.cell? ⟨g2, 3, none⟩ = some (.string s2.sv) ∧ W.cell? ⟨g2, 4, none⟩ = some (.string s2.nm) ∧ W.cell? ⟨g2, 5, none⟩ = some (.int .i64 s2.kd) ∧ W.cell? ⟨g2, 6, none⟩ = some (.int .i64 s2.st) ∧ W.cell? ⟨g2, 7, none⟩ = some (.int .u64 s2.t0) ∧ W.cell? ⟨g2, 8, none⟩ = some (.int .u64 s2.t1) ∧ W.cell? ⟨g2, 9, none⟩ = some (v2) ∧ W.cell? ⟨g3, 0, none⟩ = some (.int .u64 s3.T) ∧ W.cell? ⟨g3, 1, none⟩ = some (.int .u64 s3.I) ∧ W.cell? ⟨g3, 2, none⟩ = some (.int .u64 s3.P) ∧ W.cell? ⟨g3, 3, none⟩ = some (.string s3.sv) ∧ W.cell? ⟨g3, 4, none⟩ = some (.string s3.nm) ∧ W.cell? ⟨g3, 5, none⟩ = some (.int .i64 s3.kd) ∧ W.cell? ⟨g3, 6, none⟩ = some (.int .i64 s3.st) ∧ W.cell? ⟨g3, 7, none⟩ = some (.int .u64 s3.t0) ∧ W.cell? ⟨g3, 8, none⟩ = some (.int .u64 s3.t1) ∧ W.cell? ⟨g3, 9, none⟩ = some (v3) ∧ W.cell? ⟨g4, 0, none⟩ = some (.int .u64 s4.T) ∧ W.cell? ⟨g4, 1, none⟩ = some (.int .u64 s4.I) ∧ W.cell? ⟨g4, 2, none⟩ = some (.int .u64 s4.P) ∧ W.cell? ⟨g4, 3, none⟩ = some (.string s4.sv) ∧ W.cell? ⟨g4, 4, none⟩ = some (.string s4.nm) ∧ W.cell? ⟨g4, 5, none⟩ = some (.int .i64 s4.kd) ∧ W.cell? ⟨g4, 6, none⟩ = some (.int .i64 s4.st) ∧ W.cell? ⟨g4, 7, none⟩ = some (.int .u64 s4.t0) ∧ W.cell? ⟨g4, 8, none⟩ = some (.int .u64 s4.t1) ∧ W.cell? ⟨g4, 9, none⟩ = some (v4) :=
  ⟨h1.cell 0, h1.cell 1, h1.cell 2, h1.cell 3, h1.cell 4, h1.cell 5, h1.cell 6, h1.cell 7, h1.cell 8, h1.cell 9, h2.cell 0, h2.cell 1, h2.cell 2, h2.cell 3, h2.cell 4, h2.cell 5, h2.cell 6, h2.cell 7, h2.cell 8, h2.cell 9, h3.cell 0, h3.cell 1, h3.cell 2, h3.cell 3, h3.cell 4, h3.cell 5, h3.cell 6, h3.cell 7, h3.cell 8, h3.cell 9, h4.cell 0, h4.cell 1, h4.cell 2, h4.cell 3, h4.cell 4, h4.cell 5, h4.cell 6, h4.cell 7, h4.cell 8, h4.cell 9⟩
set_option maxRecDepth 20000 in
set_option maxHeartbeats 8000000 in
theorem own_law (s : Sp) (A : Option Addr) (c n : Nat) (l : List At) (a b : Int) (w : World) (h : Ats w A c l) (ok : OkS s) (hn : l.length = n) (a0 : 0 ≤ a) (a1 : a ≤ 255) (d0 : 0 ≤ b) (d1 : b ≤ 255) :
    Calls Try.prog 6 #[spv s (.slice A n c), .int .u8 a, .int .u8 b] w fun e w' => e = .returned (.bool true) ∧ Below w.heap.size w w' := by
  have K1 : Bk (w.alloc (.cells (spc s (.slice A n c)) 25)) w.heap.size 25 (spc s (.slice A n c)) := Bk.new w _ _
  have b0 : Below w.heap.size w (w.alloc (.cells (spc s (.slice A n c)) 25)) := by go_grown
  have hm : n ≤ 9223372036854775807 := by have := h.cap; have := h.max; unfold maxLen at this; omega
  obtain ⟨fa, hfa⟩ : ∃ q, far s l = q := ⟨_, rfl⟩
  have hFa := fun W (hW : Below w.heap.size w W) => far_at s A c n l fa W (h.below hW) hn hm hfa
  have HFa := Lib.hid hfa
  clear hfa hm
  go_enter Try.func6, Try.ntmps6
  go_wp2_with fail
  refine (alive_any _).mono ?_
  rintro e w1 ⟨rfl, b1⟩
  replace K1 := K1.below b1
  replace b0 := b0.trans (b1.mono b0.size)
  clear b1
  have x0 : w1.cell? ⟨w.heap.size, 0, none⟩ = some (.int .u64 s.T) := K1.cell 0
  have x1 : w1.cell? ⟨w.heap.size, 1, none⟩ = some (.int .u64 s.I) := K1.cell 1
  have x2 : w1.cell? ⟨w.heap.size, 2, none⟩ = some (.int .u64 s.P) := K1.cell 2
  have x3 : w1.cell? ⟨w.heap.size, 3, none⟩ = some (.string s.sv) := K1.cell 3
  have x4 : w1.cell? ⟨w.heap.size, 4, none⟩ = some (.string s.nm) := K1.cell 4
  have x5 : w1.cell? ⟨w.heap.size, 5, none⟩ = some (.int .i64 s.kd) := K1.cell 5
  have x6 : w1.cell? ⟨w.heap.size, 6, none⟩ = some (.int .i64 s.st) := K1.cell 6
  have x7 : w1.cell? ⟨w.heap.size, 7, none⟩ = some (.int .u64 s.t0) := K1.cell 7
  have x8 : w1.cell? ⟨w.heap.size, 8, none⟩ = some (.int .u64 s.t1) := K1.cell 8
  have x9 : w1.cell? ⟨w.heap.size, 9, none⟩ = some (.slice A n c) := K1.cell 9
  go_wp2_with fail
  refine (hFa _ b0).mono ?_
  rintro e w2 ⟨rfl, b1⟩
  replace K1 := K1.below b1
  replace b0 := b0.trans (b1.mono b0.size)
  clear b1 hFa x0 x1 x2 x3 x4 x5 x6 x7 x8 x9
  cases fa with
  | true =>
    go_wp2
    go_ret
    exact ⟨rfl, b0⟩
  | false =>
    have z : n ≤ 40 := by rw [← hn]; exact far_len (un HFa)
    have hs := far_sizes (un HFa)
    have hO := fun W (hW : Below w.heap.size w W) => of_at s A c n l W (h.below hW) hn z
    have x0 : w2.cell? ⟨w.heap.size, 0, none⟩ = some (.int .u64 s.T) := K1.cell 0
    have x1 : w2.cell? ⟨w.heap.size, 1, none⟩ = some (.int .u64 s.I) := K1.cell 1
    have x2 : w2.cell? ⟨w.heap.size, 2, none⟩ = some (.int .u64 s.P) := K1.cell 2
    have x3 : w2.cell? ⟨w.heap.size, 3, none⟩ = some (.string s.sv) := K1.cell 3
    have x4 : w2.cell? ⟨w.heap.size, 4, none⟩ = some (.string s.nm) := K1.cell 4
    have x5 : w2.cell? ⟨w.heap.size, 5, none⟩ = some (.int .i64 s.kd) := K1.cell 5
    have x6 : w2.cell? ⟨w.heap.size, 6, none⟩ = some (.int .i64 s.st) := K1.cell 6
    have x7 : w2.cell? ⟨w.heap.size, 7, none⟩ = some (.int .u64 s.t0) := K1.cell 7
    have x8 : w2.cell? ⟨w.heap.size, 8, none⟩ = some (.int .u64 s.t1) := K1.cell 8
    have x9 : w2.cell? ⟨w.heap.size, 9, none⟩ = some (.slice A n c) := K1.cell 9
    go_wp2_with fail
    refine (hO _ b0).mono ?_
    rintro e w3 ⟨A5, c5, rfl, H5, b1⟩
    replace K1 := K1.below b1
    replace b0 := b0.trans (b1.mono b0.size)
    have h35 : w.heap.size ≤ w3.heap.size := b0.size
    clear b1 hO x0 x1 x2 x3 x4 x5 x6 x7 x8 x9
    have hsv := hs.1
    have hnm := hs.2
    obtain ⟨mx, hmx⟩ : ∃ q : Int, 1 + max a b = q := ⟨_, rfl⟩
    obtain ⟨mn, hmn⟩ : ∃ q : Int, 1 + min a b = q := ⟨_, rfl⟩
    go_wp2_with fail
    have bx : Below w3.heap.size w3 (w3.alloc (.cells (spc s (.slice A5 n c5)) 30)) := by go_grown
    have K2 : Bk (w3.alloc (.cells (spc s (.slice A5 n c5)) 30)) w3.heap.size 30 (spc s (.slice A5 n c5)) := Bk.new w3 _ _
    replace K1 := K1.below bx
    replace b0 := b0.trans (bx.mono b0.size)
    have hXs : (w3.alloc (.cells (spc s (.slice A5 n c5)) 30)).heap.size = w3.heap.size + 1 := by simp
    have hA1 := alike_any s mx A5 c5 n l _ ((H5.below bx).low (Nat.zero_le _)) hn z (by omega) (by omega)
    have hA2 := fun W (hW : Below w3.heap.size w3 W) => alike_any s mn A5 c5 n l W ((H5.below hW).low (Nat.zero_le _)) hn z (by omega) (by omega)
    have hlab := lab_own s.sv mn mx (by omega)
    obtain ⟨y, hy⟩ : ∃ y, alk s mx = y := ⟨_, rfl⟩
    obtain ⟨v, hv⟩ : ∃ v, alk s mn = v := ⟨_, rfl⟩
    have ysv : lab s.sv mx = y.sv := by rw [← hy]; rfl
    have vsv : lab s.sv mn = v.sv := by rw [← hv]; rfl
    have yt : took y = took s := by rw [← hy]; rfl
    have y0 : y.t0 = s.t0 := by rw [← hy]; rfl
    have y1 : y.t1 = s.t1 := by rw [← hy]; rfl
    have vst : v.st = s.st := by rw [← hv]; rfl
    have vT : v.T = s.T := by rw [← hv]; rfl
    have vI : v.I = s.I := by rw [← hv]; rfl
    have vP : v.P = s.P := by rw [← hv]; rfl
    rw [ysv, vsv] at hlab
    have HL := Lib.hid hlab
    have hTy := fun u W => took_any y u W (by rw [y0]; exact ok.a0) (by rw [y1]; exact ok.b1)
    have hTx := fun u W => took_any s u W ok.a0 ok.b1
    have hFy := fun u W => failed_any v u W
    have hFx := fun u W => failed_any s u W
    rw [yt] at hTy
    rw [vst] at hFy
    rw [hy] at hA1
    rw [hv] at hA2
    obtain ⟨tk, htk⟩ : ∃ q, took s = q := ⟨_, rfl⟩
    obtain ⟨fb, hfb⟩ : ∃ q, decide (s.st = 2) = q := ⟨_, rfl⟩
    rw [htk] at hTy hTx
    rw [hfb] at hFy hFx
    have hTo := fun W (hW : Below w3.heap.size w3 W) => to_at s A5 c5 n l W (H5.ats.below hW) hn z
    have hSm : ∀ (A8 : Option Addr) (c8 : Nat) (W : World), Hd 0 W A8 c8 l → Below w.heap.size w W → Calls Try.prog 12 #[spv s (.slice A8 n c8), spv s (.slice A n c)] W fun e w' => e = .returned (.bool true) ∧ Below W.heap.size W w' := fun A8 c8 W h8 hW => same_any s s A8 A c8 c l l n n true W h8.ats (h.below hW) hn hn z z (by rw [cmpS_self]; rfl)
    have VF : Hid (v.T = s.T ∧ v.I = s.I ∧ v.P = s.P) := ⟨vT, vI, vP⟩
    clear hy hv ysv vsv hlab yt y0 y1 vst htk hfb hs hsv hnm HFa ok H5 vT vI vP
    refine hA1.mono ?_
    rintro e w4 ⟨A6, c6, Y6, rfl, hY, _, _, H6, b1⟩
    replace K1 := K1.below b1
    replace K2 := K2.below b1
    replace b0 := b0.trans (b1.mono b0.size)
    replace bx := bx.trans (b1.mono bx.size)
    rw [hXs] at H6
    have ks := KeysR.of H6 hY
    clear b1 hXs hA1 H6 hY
    have by' : Below w4.heap.size w4 (w4.alloc (.cells (spc y (.slice A6 n c6)) 30)) := by go_grown
    have K3 : Bk (w4.alloc (.cells (spc y (.slice A6 n c6)) 30)) w4.heap.size 30 (spc y (.slice A6 n c6)) := Bk.new w4 _ _
    replace ks := ks.below (Nat.le_refl _) by'
    replace K1 := K1.below by'
    replace K2 := K2.below by'
    replace b0 := b0.trans (by'.mono b0.size)
    replace bx := bx.trans (by'.mono bx.size)
    have hz4 : w4.heap.size ≤ (w4.alloc (.cells (spc y (.slice A6 n c6)) 30)).heap.size := by'.size
    replace hA2 := hA2 _ bx
    clear by'
    have x0 : (w4.alloc (.cells (spc y (.slice A6 n c6)) 30)).cell? ⟨w3.heap.size, 0, none⟩ = some (.int .u64 s.T) := K2.cell 0
    have x1 : (w4.alloc (.cells (spc y (.slice A6 n c6)) 30)).cell? ⟨w3.heap.size, 1, none⟩ = some (.int .u64 s.I) := K2.cell 1
    have x2 : (w4.alloc (.cells (spc y (.slice A6 n c6)) 30)).cell? ⟨w3.heap.size, 2, none⟩ = some (.int .u64 s.P) := K2.cell 2
    have x3 : (w4.alloc (.cells (spc y (.slice A6 n c6)) 30)).cell? ⟨w3.heap.size, 3, none⟩ = some (.string s.sv) := K2.cell 3
    have x4 : (w4.alloc (.cells (spc y (.slice A6 n c6)) 30)).cell? ⟨w3.heap.size, 4, none⟩ = some (.string s.nm) := K2.cell 4
    have x5 : (w4.alloc (.cells (spc y (.slice A6 n c6)) 30)).cell? ⟨w3.heap.size, 5, none⟩ = some (.int .i64 s.kd) := K2.cell 5
    have x6 : (w4.alloc (.cells (spc y (.slice A6 n c6)) 30)).cell? ⟨w3.heap.size, 6, none⟩ = some (.int .i64 s.st) := K2.cell 6
    have x7 : (w4.alloc (.cells (spc y (.slice A6 n c6)) 30)).cell? ⟨w3.heap.size, 7, none⟩ = some (.int .u64 s.t0) := K2.cell 7
    have x8 : (w4.alloc (.cells (spc y (.slice A6 n c6)) 30)).cell? ⟨w3.heap.size, 8, none⟩ = some (.int .u64 s.t1) := K2.cell 8
    have x9 : (w4.alloc (.cells (spc y (.slice A6 n c6)) 30)).cell? ⟨w3.heap.size, 9, none⟩ = some (.slice A5 n c5) := K2.cell 9
    go_wp2_with fail
    refine hA2.mono ?_
    rintro e w5 ⟨A7, c7, Y7, rfl, hY, _, _, H7, b1⟩
    replace ks := ks.below hz4 b1
    replace K1 := K1.below b1
    replace K2 := K2.below b1
    replace K3 := K3.below b1
    replace b0 := b0.trans (b1.mono b0.size)
    replace bx := bx.trans (b1.mono bx.size)
    replace hz4 := Nat.le_trans hz4 b1.size
    clear b1 hA2 H7 hY x0 x1 x2 x3 x4 x5 x6 x7 x8 x9
    have bz : Below w5.heap.size w5 (w5.alloc (.cells (spc v (.slice A7 n c7)) 30)) := by go_grown
    have K4 : Bk (w5.alloc (.cells (spc v (.slice A7 n c7)) 30)) w5.heap.size 30 (spc v (.slice A7 n c7)) := Bk.new w5 _ _
    replace ks := ks.below hz4 bz
    replace K1 := K1.below bz
    replace K2 := K2.below bz
    replace K3 := K3.below bz
    replace b0 := b0.trans (bz.mono b0.size)
    replace bx := bx.trans (bz.mono bx.size)
    have R : OwR w w3 w4 w5 s y v A n c A5 c5 A6 c6 A7 c7 (w5.alloc (.cells (spc v (.slice A7 n c7)) 30)) := ⟨K1, K2, K3, K4, b0, bx, ks, hz4⟩
    clear K1 K2 K3 K4 b0 bx ks hz4 bz
    go_wp2
    generalize w5.alloc (.cells (spc v (.slice A7 n c7)) 30) = X5 at R ⊢
    go_loopw [10] (fun u wr => ∃ k : Nat, u = .int .i64 k ∧ k ≤ n ∧ OwR w w3 w4 w5 s y v A n c A5 c5 A6 c6 A7 c7 wr) (fun u _ => n - (intOf u).toNat)
    case atStart => exact ⟨0, rfl, Nat.zero_le _, R⟩
    case round =>
      obtain ⟨k, rfl, hk, R2⟩ := hrel
      have c9 : wr.cell? ⟨w4.heap.size, 9, none⟩ = some (.slice A6 n c6) := R2.k3.cell 9
      by_cases hlt : k < n
      · have hltz : (k : Int) < (n : Int) := by omega
        obtain ⟨g, u, rfl, hg1, hg2, f0, ff⟩ := R2.ks k hlt
        clear hTy hTx hFy hFx hTo hSm HL VF hmx hmn
        go_wp2
        go_roundw
        case rel =>
          refine ⟨k + 1, by go_num, by omega, ?_⟩
          have q3 := R2.le
          have q5 := R2.b0.size
          have q6 := R2.k1.lt
          have q7 : w.heap.size ≤ w3.heap.size := h35
          exact ⟨R2.k1.other _ _ _ (by omega), R2.k2.other _ _ _ (by omega), R2.k3.other _ _ _ (by omega), R2.k4.other _ _ _ (by omega), R2.b0.setCell (p := ⟨g, k * 4, none⟩) (by show _ ≤ g; omega) _, R2.bx.setCell (p := ⟨g, k * 4, none⟩) (by show _ ≤ g; omega) _, R2.ks.put k _, q3⟩
        case measure => first | go_num | (simp [intOf]; omega)
      · have hltz : ¬ ((k : Int) < (n : Int)) := by omega
        go_wp2_with fail
        have D1 : Bk wr.drew _ _ _ := R2.k1
        have D2 : Bk wr.drew _ _ _ := R2.k2
        have D3 : Bk wr.drew _ _ _ := R2.k3
        have D4 : Bk wr.drew _ _ _ := R2.k4
        have bd : Below w.heap.size w wr.drew := R2.b0.drew
        have be : Below w3.heap.size w3 wr.drew := R2.bx.drew
        have ht1 : (tk != tk) = false := by simp
        have ht2 : (fb != fb) = false := by simp
        clear R2 R c9
        go_region_held3 (fun w' => w'.cell? ⟨w.heap.size, 0, none⟩ = some (.int .u64 s.T) ∧ w'.cell? ⟨w.heap.size, 1, none⟩ = some (.int .u64 s.I) ∧ w'.cell? ⟨w.heap.size, 2, none⟩ = some (.int .u64 s.P) ∧ w'.cell? ⟨w.heap.size, 3, none⟩ = some (.string s.sv) ∧ w'.cell? ⟨w.heap.size, 4, none⟩ = some (.string s.nm) ∧ w'.cell? ⟨w.heap.size, 5, none⟩ = some (.int .i64 s.kd) ∧ w'.cell? ⟨w.heap.size, 6, none⟩ = some (.int .i64 s.st) ∧ w'.cell? ⟨w.heap.size, 7, none⟩ = some (.int .u64 s.t0) ∧ w'.cell? ⟨w.heap.size, 8, none⟩ = some (.int .u64 s.t1) ∧ w'.cell? ⟨w.heap.size, 9, none⟩ = some (.slice A n c) ∧ w'.cell? ⟨w3.heap.size, 0, none⟩ = some (.int .u64 s.T) ∧ w'.cell? ⟨w3.heap.size, 1, none⟩ = some (.int .u64 s.I) ∧ w'.cell? ⟨w3.heap.size, 2, none⟩ = some (.int .u64 s.P) ∧ w'.cell? ⟨w3.heap.size, 3, none⟩ = some (.string s.sv) ∧ w'.cell? ⟨w3.heap.size, 4, none⟩ = some (.string s.nm) ∧ w'.cell? ⟨w3.heap.size, 5, none⟩ = some (.int .i64 s.kd) ∧ w'.cell? ⟨w3.heap.size, 6, none⟩ = some (.int .i64 s.st) ∧ w'.cell? ⟨w3.heap.size, 7, none⟩ = some (.int .u64 s.t0) ∧ w'.cell? ⟨w3.heap.size, 8, none⟩ = some (.int .u64 s.t1) ∧ w'.cell? ⟨w3.heap.size, 9, none⟩ = some (.slice A5 n c5) ∧ w'.cell? ⟨w4.heap.size, 0, none⟩ = some (.int .u64 y.T) ∧ w'.cell? ⟨w4.heap.size, 1, none⟩ = some (.int .u64 y.I) ∧ w'.cell? ⟨w4.heap.size, 2, none⟩ = some (.int .u64 y.P) ∧ w'.cell? ⟨w4.heap.size, 3, none⟩ = some (.string y.sv) ∧ w'.cell? ⟨w4.heap.size, 4, none⟩ = some (.string y.nm) ∧ w'.cell? ⟨w4.heap.size, 5, none⟩ = some (.int .i64 y.kd) ∧ w'.cell? ⟨w4.heap.size, 6, none⟩ = some (.int .i64 y.st) ∧ w'.cell? ⟨w4.heap.size, 7, none⟩ = some (.int .u64 y.t0) ∧ w'.cell? ⟨w4.heap.size, 8, none⟩ = some (.int .u64 y.t1) ∧ w'.cell? ⟨w4.heap.size, 9, none⟩ = some (.slice A6 n c6) ∧ w'.cell? ⟨w5.heap.size, 0, none⟩ = some (.int .u64 v.T) ∧ w'.cell? ⟨w5.heap.size, 1, none⟩ = some (.int .u64 v.I) ∧ w'.cell? ⟨w5.heap.size, 2, none⟩ = some (.int .u64 v.P) ∧ w'.cell? ⟨w5.heap.size, 3, none⟩ = some (.string v.sv) ∧ w'.cell? ⟨w5.heap.size, 4, none⟩ = some (.string v.nm) ∧ w'.cell? ⟨w5.heap.size, 5, none⟩ = some (.int .i64 v.kd) ∧ w'.cell? ⟨w5.heap.size, 6, none⟩ = some (.int .i64 v.st) ∧ w'.cell? ⟨w5.heap.size, 7, none⟩ = some (.int .u64 v.t0) ∧ w'.cell? ⟨w5.heap.size, 8, none⟩ = some (.int .u64 v.t1) ∧ w'.cell? ⟨w5.heap.size, 9, none⟩ = some (.slice A7 n c7))
          (first | exact forty E5_1 E5_2 E5_3 E5_4 | exact forty E4_1 E4_2 E4_3 E4_4 | exact forty E3_1 E3_2 E3_3 E3_4 | exact forty E2_1 E2_2 E2_3 E2_4 | exact forty E1_1 E1_2 E1_3 E1_4 | exact forty E0_1 E0_2 E0_3 E0_4 | exact forty D1 D2 D3 D4 | go_keep)
          (first
            | (go_at_call 13; (with_reducible refine (hTo _ be).mono ?_); rintro e v0 ⟨A8, c8, rfl, H8, B0⟩; have E0_1 := D1.below B0; have E0_2 := D2.below B0; have E0_3 := D3.below B0; have E0_4 := D4.below B0; have bd0 := bd.trans (B0.mono bd.size))
            | (go_at_call 12; (with_reducible refine (hSm A8 c8 _ (H8.low (Nat.zero_le _)) bd0).mono ?_); rintro e v1 ⟨rfl, B1⟩; have E1_1 := E0_1.below B1; have E1_2 := E0_2.below B1; have E1_3 := E0_3.below B1; have E1_4 := E0_4.below B1; have bd1 := bd0.trans (B1.mono bd0.size))
            | (go_at_call 18; (with_reducible refine (hTy _ _).mono ?_); rintro e v2 ⟨rfl, B2⟩; have E2_1 := E1_1.below B2; have E2_2 := E1_2.below B2; have E2_3 := E1_3.below B2; have E2_4 := E1_4.below B2; have bd2 := bd1.trans (B2.mono bd1.size))
            | (go_at_call 18; (with_reducible refine (hTx _ _).mono ?_); rintro e v3 ⟨rfl, B3⟩; have E3_1 := E2_1.below B3; have E3_2 := E2_2.below B3; have E3_3 := E2_3.below B3; have E3_4 := E2_4.below B3; have bd3 := bd2.trans (B3.mono bd2.size))
            | (go_at_call 16; (with_reducible refine (hFy _ _).mono ?_); rintro e v4 ⟨rfl, B4⟩; have E4_1 := E3_1.below B4; have E4_2 := E3_2.below B4; have E4_3 := E3_3.below B4; have E4_4 := E3_4.below B4; have bd4 := bd3.trans (B4.mono bd3.size))
            | (go_at_call 16; (with_reducible refine (hFx _ _).mono ?_); rintro e v5 ⟨rfl, B5⟩; have E5_1 := E4_1.below B5; have E5_2 := E4_2.below B5; have E5_3 := E4_3.below B5; have E5_4 := E4_4.below B5; have bd5 := bd4.trans (B5.mono bd4.size)))
        rename_i hHeld
        clear hHeld
        clear D1 D2 D3 D4 E0_1 E0_2 E0_3 E0_4 E1_1 E1_2 E1_3 E1_4 E2_1 E2_2 E2_3 E2_4 E3_1 E3_2 E3_3 E3_4 E4_1 E4_2 E4_3 E4_4 bd bd0 bd1 bd2 bd3 bd4 be B0 B1 B2 B3 B4 B5 H8 hTo hSm hTy hTx hFy hFx ht1 ht2
        obtain ⟨Z, hZ⟩ : ∃ Z, v.sv = Z := ⟨_, rfl⟩
        obtain ⟨Y, hY⟩ : ∃ Y, y.sv = Y := ⟨_, rfl⟩
        have p0 : v5.cell? ⟨w5.heap.size, 0, none⟩ = some (.int .u64 s.T) := by rw [← (un VF).1]; exact E5_4.cell 0
        have p1 : v5.cell? ⟨w5.heap.size, 1, none⟩ = some (.int .u64 s.I) := by rw [← (un VF).2.1]; exact E5_4.cell 1
        have p2 : v5.cell? ⟨w5.heap.size, 2, none⟩ = some (.int .u64 s.P) := by rw [← (un VF).2.2]; exact E5_4.cell 2
        have p3 : v5.cell? ⟨w5.heap.size, 3, none⟩ = some (.string Z) := by rw [← hZ]; exact E5_4.cell 3
        have p9 : v5.cell? ⟨w5.heap.size, 9, none⟩ = some (.slice A7 n c7) := E5_4.cell 9
        have q3 : v5.cell? ⟨w4.heap.size, 3, none⟩ = some (.string Y) := by rw [← hY]; exact E5_3.cell 3
        have r0 : v5.cell? ⟨w.heap.size, 0, none⟩ = some (.int .u64 s.T) := E5_1.cell 0
        have r1 : v5.cell? ⟨w.heap.size, 1, none⟩ = some (.int .u64 s.I) := E5_1.cell 1
        have r2 : v5.cell? ⟨w.heap.size, 2, none⟩ = some (.int .u64 s.P) := E5_1.cell 2
        have r9 : v5.cell? ⟨w.heap.size, 9, none⟩ = some (.slice A n c) := E5_1.cell 9
        have hl := un HL
        rw [hZ, hY] at hl
        have l1 : (Z.size : Int) ≤ (Y.size : Int) := by omega
        have l2 : Z.size ≤ Y.size := hl.1
        have l3 : ((Z.size : Int)).toNat = Z.size := by omega
        have l4 : (0 : Int) ≤ (Z.size : Int) := by omega
        clear E5_1 E5_2 E5_3 E5_4 hZ hY HL VF
        by_cases hE : Y.extract 0 Z.size = Z
        · clear hl
          have hq := tl_eq hE
          go_wp2_with fail
          go_quiet (fail)
          go_wp2
          go_ret
          exact ⟨rfl, ⟨bd5.os, bd5.tape, bd5.output, bd5.size, bd5.block⟩⟩
        · have hz : Z = ⟨#[95]⟩ := hl.2.resolve_left hE
          have hq := tl_ne hE
          have hq2 := tl_eq hz
          have hq3 : (Z.toList == [95]) = true := by rw [hz, ByteArray.toList_eq]; rfl
          have hq5 : ((Y.extract 0 Z.size).toList == [95]) = false := by rw [← hq]; rw [hz, ByteArray.toList_eq ⟨#[95]⟩]
          clear hl hz hE
          go_wp2_with fail
          go_quiet (fail)
          go_wp2
          go_ret
          exact ⟨rfl, ⟨bd5.os, bd5.tape, bd5.output, bd5.size, bd5.block⟩⟩
end Go.Proofs.Ytpjldoahinocjaa.P06
