/-
  digest.Prefer (written by gen09/prefer.py).
-/
import Derived.Test.YtdmibolbpgondaaGreatKP06Ord
set_option linter.unusedSimpArgs false
set_option linter.unusedVariables false
namespace Go.Proofs.YtdmibolbpgondaaGreat.D09
open Go.Shelf Go.RowKit Go.Lib Go.Sort Go.Proofs.YtdmibolbpgondaaGreat.Wd Go.Proofs.YtdmibolbpgondaaGreat.V04 Go.Proofs.YtdmibolbpgondaaGreat.P06

theorem hd_keep {B : Nat} {w w' : World} {A : Option Addr} {c : Nat} {l : List At} (h : Hd B w A c l) (hk : ∀ g, B ≤ g → w'.heap[g]? = w.heap[g]?) (hs : w.heap.size ≤ w'.heap.size) : Hd B w' A c l := by
  rcases h with h | ⟨g, rfl, hB, hg, hH, r⟩
  · exact .inl h
  · refine .inr ⟨g, rfl, hB, Nat.lt_of_lt_of_le hg hs, fun j hj => ?_, r⟩
    have h1 := hH j hj
    have e := hk g hB
    refine ⟨?_, ?_⟩
    · rw [World.cell?_of_block (by exact e)]; exact h1.1
    · have := h1.2
      unfold World.frozen? at this ⊢
      rw [e]
      exact this
theorem bk_put10 {w : World} {g : Nat} {t : TypeId} {s0 : Sp} {v0 : Value} (h : Bk w g t (spc s0 v0)) (s : Sp) (v : Value) : Bk (P06.put10 w g s v) g t (spc s v) := by
  have := (((((((((h.set 0 (.int .u64 s.T)).set 1 (.int .u64 s.I)).set 2 (.int .u64 s.P)).set 3 (.string s.sv)).set 4 (.string s.nm)).set 5 (.int .i64 s.kd)).set 6 (.int .i64 s.st)).set 7 (.int .u64 s.t0)).set 8 (.int .u64 s.t1)).set 9 v
  unfold P06.put10
  simpa using this
theorem below_put10 {B : Nat} {w w' : World} (h : Below B w w') {g : Nat} (s : Sp) (v : Value) (hg : B ≤ g) : Below B w (P06.put10 w' g s v) := by
  obtain ⟨e1, e2, e3⟩ := put10_os w' g s v
  exact ⟨e1.trans h.os, e2.trans h.tape, e3.trans h.output, by rw [size_put10]; exact h.size, fun k hk => by rw [heap_put10 _ _ _ _ _ (by omega)]; exact h.block k hk⟩
theorem boxes (w : World) (s t : Sp) (u v : Value) (e : TypeId) (X : World) (hX : (((w.alloc (.cells (spc s u) e)).alloc (.cells (spc t v) e)).alloc (.cells zsp e)).alloc (.cells (spc s u) e) = X) :
    Below w.heap.size w X ∧ Bk X (w.heap.size + 1) e (spc t v) ∧ Bk X (w.heap.size + 1 + 1) e zsp ∧ Bk X (w.heap.size + 1 + 1 + 1) e (spc s u) := by
  subst hX
  have up : ∀ (W : World) (g : Nat) (t : TypeId) (cs : Array Value) (o : Obj), Bk W g t cs → Bk (W.alloc o) g t cs := fun W g t cs o h => h.below ((Below.refl _ _).alloc (Nat.le_refl _) _)
  have h2 := Bk.new (w.alloc (.cells (spc s u) e)) e (spc t v)
  have h3 := Bk.new ((w.alloc (.cells (spc s u) e)).alloc (.cells (spc t v) e)) e zsp
  have h4 := Bk.new (((w.alloc (.cells (spc s u) e)).alloc (.cells (spc t v) e)).alloc (.cells zsp e)) e (spc s u)
  exact ⟨by go_grown, by simpa using up _ _ _ _ (.cells (spc s u) e) (up _ _ _ _ (.cells zsp e) h2), by simpa using up _ _ _ _ (.cells (spc s u) e) h3, by simpa using h4⟩

set_option maxRecDepth 20000 in
set_option maxHeartbeats 4000000 in
theorem prefer_a (s t : Sp) (A1 A2 : Option Addr) (c1 c2 : Nat) (l m : List At) (n1 n2 : Nat) (w : World) (h1 : Hd 0 w A1 c1 l) (h2 : Hd 0 w A2 c2 m) (hn1 : l.length = n1) (hn2 : m.length = n2) (z1 : n1 ≤ 40) (z2 : n2 ≤ 40) (hc : ¬ cmpS t s m l < 0) :
    Calls Tryz.prog 54 #[spv s (.slice A1 n1 c1), spv t (.slice A2 n2 c2)] w (OfOut w s n1 l) := by
  obtain ⟨X, hX⟩ : ∃ X, (((w.alloc (.cells (spc s (.slice A1 n1 c1)) 45)).alloc (.cells (spc t (.slice A2 n2 c2)) 45)).alloc (.cells zsp 45)).alloc (.cells (spc s (.slice A1 n1 c1)) 45) = X := ⟨_, rfl⟩
  obtain ⟨b0, K2, K3, K4⟩ := boxes w s t (.slice A1 n1 c1) (.slice A2 n2 c2) 45 X hX
  have hC := compare_any t s A2 A1 c2 c1 m l n2 n1 X (h2.below b0) (h1.below b0) hn2 hn1 z2 z1
  obtain ⟨q, hq⟩ : ∃ q, cmpS t s m l = q := ⟨_, rfl⟩
  rw [hq] at hC hc
  have hK := fun W (hW : Below w.heap.size w W) => clone_any A1 c1 n1 l W (h1.below hW) hn1 z1
  have HX := Lib.hid hX
  clear h1 h2 hn1 hn2 hq hX
  go_enter Tryz.func54, Tryz.ntmps54
  go_wp2_with fail
  change Calls _ _ _ ((((w.alloc (.cells (spc s (.slice A1 n1 c1)) 45)).alloc (.cells (spc t (.slice A2 n2 c2)) 45)).alloc (.cells zsp 45)).alloc (.cells (spc s (.slice A1 n1 c1)) 45)) _
  rw [HX.out]
  refine hC.mono ?_
  rintro e w2 ⟨rfl, b1⟩
  replace K2 := K2.below b1
  replace K3 := K3.below b1
  replace K4 := K4.below b1
  replace b0 := b0.trans (b1.mono b0.size)
  clear b1 hC HX
  have y0 : w2.cell? ⟨w.heap.size + 1 + 1 + 1, 0, none⟩ = some (.int .u64 s.T) := K4.cell 0
  have y1 : w2.cell? ⟨w.heap.size + 1 + 1 + 1, 1, none⟩ = some (.int .u64 s.I) := K4.cell 1
  have y2 : w2.cell? ⟨w.heap.size + 1 + 1 + 1, 2, none⟩ = some (.int .u64 s.P) := K4.cell 2
  have y3 : w2.cell? ⟨w.heap.size + 1 + 1 + 1, 3, none⟩ = some (.string s.sv) := K4.cell 3
  have y4 : w2.cell? ⟨w.heap.size + 1 + 1 + 1, 4, none⟩ = some (.string s.nm) := K4.cell 4
  have y5 : w2.cell? ⟨w.heap.size + 1 + 1 + 1, 5, none⟩ = some (.int .i64 s.kd) := K4.cell 5
  have y6 : w2.cell? ⟨w.heap.size + 1 + 1 + 1, 6, none⟩ = some (.int .i64 s.st) := K4.cell 6
  have y7 : w2.cell? ⟨w.heap.size + 1 + 1 + 1, 7, none⟩ = some (.int .u64 s.t0) := K4.cell 7
  have y8 : w2.cell? ⟨w.heap.size + 1 + 1 + 1, 8, none⟩ = some (.int .u64 s.t1) := K4.cell 8
  have y9 : w2.cell? ⟨w.heap.size + 1 + 1 + 1, 9, none⟩ = some (.slice A1 n1 c1) := K4.cell 9
  go_wp2_with fail
  clear y0 y1 y2 y3 y4 y5 y6 y7 y8 y9
  refine (hK _ b0).mono ?_
  rintro e w4 ⟨A5, c5, rfl, H5, b5⟩
  have K7 := K4.below b5
  have K8 := K3.below b5
  have b6 := b0.trans (b5.mono b0.size)
  have hz := K4.lt
  clear K4 K3 b5 hK
  have y0 : w4.cell? ⟨w.heap.size + 1 + 1 + 1, 0, none⟩ = some (.int .u64 s.T) := K7.cell 0
  have y1 : w4.cell? ⟨w.heap.size + 1 + 1 + 1, 1, none⟩ = some (.int .u64 s.I) := K7.cell 1
  have y2 : w4.cell? ⟨w.heap.size + 1 + 1 + 1, 2, none⟩ = some (.int .u64 s.P) := K7.cell 2
  have y3 : w4.cell? ⟨w.heap.size + 1 + 1 + 1, 3, none⟩ = some (.string s.sv) := K7.cell 3
  have y4 : w4.cell? ⟨w.heap.size + 1 + 1 + 1, 4, none⟩ = some (.string s.nm) := K7.cell 4
  have y5 : w4.cell? ⟨w.heap.size + 1 + 1 + 1, 5, none⟩ = some (.int .i64 s.kd) := K7.cell 5
  have y6 : w4.cell? ⟨w.heap.size + 1 + 1 + 1, 6, none⟩ = some (.int .i64 s.st) := K7.cell 6
  have y7 : w4.cell? ⟨w.heap.size + 1 + 1 + 1, 7, none⟩ = some (.int .u64 s.t0) := K7.cell 7
  have y8 : w4.cell? ⟨w.heap.size + 1 + 1 + 1, 8, none⟩ = some (.int .u64 s.t1) := K7.cell 8
  have y9 : w4.cell? ⟨w.heap.size + 1 + 1 + 1, 9, none⟩ = some (.slice A1 n1 c1) := K7.cell 9
  have f0 : w4.frozen? ⟨w.heap.size + 1 + 1 + 1, 0, none⟩ = false := K7.frozen 0
  have f1 : w4.frozen? ⟨w.heap.size + 1 + 1 + 1, 1, none⟩ = false := K7.frozen 1
  have f2 : w4.frozen? ⟨w.heap.size + 1 + 1 + 1, 2, none⟩ = false := K7.frozen 2
  have f3 : w4.frozen? ⟨w.heap.size + 1 + 1 + 1, 3, none⟩ = false := K7.frozen 3
  have f4 : w4.frozen? ⟨w.heap.size + 1 + 1 + 1, 4, none⟩ = false := K7.frozen 4
  have f5 : w4.frozen? ⟨w.heap.size + 1 + 1 + 1, 5, none⟩ = false := K7.frozen 5
  have f6 : w4.frozen? ⟨w.heap.size + 1 + 1 + 1, 6, none⟩ = false := K7.frozen 6
  have f7 : w4.frozen? ⟨w.heap.size + 1 + 1 + 1, 7, none⟩ = false := K7.frozen 7
  have f8 : w4.frozen? ⟨w.heap.size + 1 + 1 + 1, 8, none⟩ = false := K7.frozen 8
  have f9 : w4.frozen? ⟨w.heap.size + 1 + 1 + 1, 9, none⟩ = false := K7.frozen 9
  have z0 : w4.cell? ⟨w.heap.size + 1 + 1, 0, none⟩ = some (.int .u64 0) := K8.cell 0
  have z1 : w4.cell? ⟨w.heap.size + 1 + 1, 1, none⟩ = some (.int .u64 0) := K8.cell 1
  have z2 : w4.cell? ⟨w.heap.size + 1 + 1, 2, none⟩ = some (.int .u64 0) := K8.cell 2
  have z3 : w4.cell? ⟨w.heap.size + 1 + 1, 3, none⟩ = some (.string ⟨#[]⟩) := K8.cell 3
  have z4 : w4.cell? ⟨w.heap.size + 1 + 1, 4, none⟩ = some (.string ⟨#[]⟩) := K8.cell 4
  have z5 : w4.cell? ⟨w.heap.size + 1 + 1, 5, none⟩ = some (.int .i64 0) := K8.cell 5
  have z6 : w4.cell? ⟨w.heap.size + 1 + 1, 6, none⟩ = some (.int .i64 0) := K8.cell 6
  have z7 : w4.cell? ⟨w.heap.size + 1 + 1, 7, none⟩ = some (.int .u64 0) := K8.cell 7
  have z8 : w4.cell? ⟨w.heap.size + 1 + 1, 8, none⟩ = some (.int .u64 0) := K8.cell 8
  have z9 : w4.cell? ⟨w.heap.size + 1 + 1, 9, none⟩ = some (.slice none 0 0) := K8.cell 9
  have g0 : w4.frozen? ⟨w.heap.size + 1 + 1, 0, none⟩ = false := K8.frozen 0
  have g1 : w4.frozen? ⟨w.heap.size + 1 + 1, 1, none⟩ = false := K8.frozen 1
  have g2 : w4.frozen? ⟨w.heap.size + 1 + 1, 2, none⟩ = false := K8.frozen 2
  have g3 : w4.frozen? ⟨w.heap.size + 1 + 1, 3, none⟩ = false := K8.frozen 3
  have g4 : w4.frozen? ⟨w.heap.size + 1 + 1, 4, none⟩ = false := K8.frozen 4
  have g5 : w4.frozen? ⟨w.heap.size + 1 + 1, 5, none⟩ = false := K8.frozen 5
  have g6 : w4.frozen? ⟨w.heap.size + 1 + 1, 6, none⟩ = false := K8.frozen 6
  have g7 : w4.frozen? ⟨w.heap.size + 1 + 1, 7, none⟩ = false := K8.frozen 7
  have g8 : w4.frozen? ⟨w.heap.size + 1 + 1, 8, none⟩ = false := K8.frozen 8
  have g9 : w4.frozen? ⟨w.heap.size + 1 + 1, 9, none⟩ = false := K8.frozen 9
  go_wp2
  change bodyPost _ _ _ _ _ (P06.put10 (w4.setCell ⟨w.heap.size + 1 + 1 + 1, 9, none⟩ (.slice A5 n1 c5)) (w.heap.size + 1 + 1) s (.slice A5 n1 c5))
  clear y0 y1 y2 y3 y4 y5 y6 y7 y8 y9 f0 f1 f2 f3 f4 f5 f6 f7 f8 f9 z0 z1 z2 z3 z4 z5 z6 z7 z8 z9 g0 g1 g2 g3 g4 g5 g6 g7 g8 g9
  have b7 : Below w.heap.size w (w4.setCell ⟨w.heap.size + 1 + 1 + 1, 9, none⟩ (.slice A5 n1 c5)) := b6.setCell (p := ⟨w.heap.size + 1 + 1 + 1, 9, none⟩) (by show _ ≤ w.heap.size + 1 + 1 + 1; omega) _
  have K9 := (K8.other (w.heap.size + 1 + 1 + 1) 9 (.slice A5 n1 c5) (by omega)).put10 s (.slice A5 n1 c5)
  have b8 : Below w.heap.size w (P06.put10 (w4.setCell ⟨w.heap.size + 1 + 1 + 1, 9, none⟩ (.slice A5 n1 c5)) (w.heap.size + 1 + 1) s (.slice A5 n1 c5)) := below_put10 b7 _ _ (by omega)
  have H8 : Hd w.heap.size (P06.put10 (w4.setCell ⟨w.heap.size + 1 + 1 + 1, 9, none⟩ (.slice A5 n1 c5)) (w.heap.size + 1 + 1) s (.slice A5 n1 c5)) A5 c5 l := (hd_keep H5 (fun g hg => by rw [heap_put10 _ _ _ _ _ (by omega), heap_set _ _ _ _ _ (by omega)]) (by rw [size_put10]; simp)).low (by omega)
  clear K7 K8 b6 b7 H5 hz
  generalize P06.put10 (w4.setCell ⟨w.heap.size + 1 + 1 + 1, 9, none⟩ (.slice A5 n1 c5)) (w.heap.size + 1 + 1) s (.slice A5 n1 c5) = W at *
  have x0 : W.cell? ⟨w.heap.size + 1 + 1, 0, none⟩ = some (.int .u64 s.T) := K9.cell 0
  have x1 : W.cell? ⟨w.heap.size + 1 + 1, 1, none⟩ = some (.int .u64 s.I) := K9.cell 1
  have x2 : W.cell? ⟨w.heap.size + 1 + 1, 2, none⟩ = some (.int .u64 s.P) := K9.cell 2
  have x3 : W.cell? ⟨w.heap.size + 1 + 1, 3, none⟩ = some (.string s.sv) := K9.cell 3
  have x4 : W.cell? ⟨w.heap.size + 1 + 1, 4, none⟩ = some (.string s.nm) := K9.cell 4
  have x5 : W.cell? ⟨w.heap.size + 1 + 1, 5, none⟩ = some (.int .i64 s.kd) := K9.cell 5
  have x6 : W.cell? ⟨w.heap.size + 1 + 1, 6, none⟩ = some (.int .i64 s.st) := K9.cell 6
  have x7 : W.cell? ⟨w.heap.size + 1 + 1, 7, none⟩ = some (.int .u64 s.t0) := K9.cell 7
  have x8 : W.cell? ⟨w.heap.size + 1 + 1, 8, none⟩ = some (.int .u64 s.t1) := K9.cell 8
  have x9 : W.cell? ⟨w.heap.size + 1 + 1, 9, none⟩ = some (.slice A5 n1 c5) := K9.cell 9
  (try simp only [Exit.inBlock, Exit.then])
  refine bodyPost_ret (by simp [results, Tryz.results54, go_sem, x0, x1, x2, x3, x4, x5, x6, x7, x8, x9]; try rfl) rfl ?_
  exact ⟨A5, c5, rfl, H8, b8⟩
set_option maxRecDepth 20000 in
set_option maxHeartbeats 4000000 in
theorem prefer_b (s t : Sp) (A1 A2 : Option Addr) (c1 c2 : Nat) (l m : List At) (n1 n2 : Nat) (w : World) (h1 : Hd 0 w A1 c1 l) (h2 : Hd 0 w A2 c2 m) (hn1 : l.length = n1) (hn2 : m.length = n2) (z1 : n1 ≤ 40) (z2 : n2 ≤ 40) (hc : cmpS t s m l < 0) :
    Calls Tryz.prog 54 #[spv s (.slice A1 n1 c1), spv t (.slice A2 n2 c2)] w (OfOut w t n2 m) := by
  obtain ⟨X, hX⟩ : ∃ X, (((w.alloc (.cells (spc s (.slice A1 n1 c1)) 45)).alloc (.cells (spc t (.slice A2 n2 c2)) 45)).alloc (.cells zsp 45)).alloc (.cells (spc s (.slice A1 n1 c1)) 45) = X := ⟨_, rfl⟩
  obtain ⟨b0, K2, K3, K4⟩ := boxes w s t (.slice A1 n1 c1) (.slice A2 n2 c2) 45 X hX
  have hC := compare_any t s A2 A1 c2 c1 m l n2 n1 X (h2.below b0) (h1.below b0) hn2 hn1 z2 z1
  obtain ⟨q, hq⟩ : ∃ q, cmpS t s m l = q := ⟨_, rfl⟩
  rw [hq] at hC hc
  have hK := fun W (hW : Below w.heap.size w W) => clone_any A2 c2 n2 m W (h2.below hW) hn2 z2
  have HX := Lib.hid hX
  clear h1 h2 hn1 hn2 hq hX
  go_enter Tryz.func54, Tryz.ntmps54
  go_wp2_with fail
  change Calls _ _ _ ((((w.alloc (.cells (spc s (.slice A1 n1 c1)) 45)).alloc (.cells (spc t (.slice A2 n2 c2)) 45)).alloc (.cells zsp 45)).alloc (.cells (spc s (.slice A1 n1 c1)) 45)) _
  rw [HX.out]
  refine hC.mono ?_
  rintro e w2 ⟨rfl, b1⟩
  replace K2 := K2.below b1
  replace K3 := K3.below b1
  replace K4 := K4.below b1
  replace b0 := b0.trans (b1.mono b0.size)
  clear b1 hC HX
  have x0 : w2.cell? ⟨w.heap.size + 1, 0, none⟩ = some (.int .u64 t.T) := K2.cell 0
  have x1 : w2.cell? ⟨w.heap.size + 1, 1, none⟩ = some (.int .u64 t.I) := K2.cell 1
  have x2 : w2.cell? ⟨w.heap.size + 1, 2, none⟩ = some (.int .u64 t.P) := K2.cell 2
  have x3 : w2.cell? ⟨w.heap.size + 1, 3, none⟩ = some (.string t.sv) := K2.cell 3
  have x4 : w2.cell? ⟨w.heap.size + 1, 4, none⟩ = some (.string t.nm) := K2.cell 4
  have x5 : w2.cell? ⟨w.heap.size + 1, 5, none⟩ = some (.int .i64 t.kd) := K2.cell 5
  have x6 : w2.cell? ⟨w.heap.size + 1, 6, none⟩ = some (.int .i64 t.st) := K2.cell 6
  have x7 : w2.cell? ⟨w.heap.size + 1, 7, none⟩ = some (.int .u64 t.t0) := K2.cell 7
  have x8 : w2.cell? ⟨w.heap.size + 1, 8, none⟩ = some (.int .u64 t.t1) := K2.cell 8
  have x9 : w2.cell? ⟨w.heap.size + 1, 9, none⟩ = some (.slice A2 n2 c2) := K2.cell 9
  have y0 : w2.cell? ⟨w.heap.size + 1 + 1 + 1, 0, none⟩ = some (.int .u64 s.T) := K4.cell 0
  have y1 : w2.cell? ⟨w.heap.size + 1 + 1 + 1, 1, none⟩ = some (.int .u64 s.I) := K4.cell 1
  have y2 : w2.cell? ⟨w.heap.size + 1 + 1 + 1, 2, none⟩ = some (.int .u64 s.P) := K4.cell 2
  have y3 : w2.cell? ⟨w.heap.size + 1 + 1 + 1, 3, none⟩ = some (.string s.sv) := K4.cell 3
  have y4 : w2.cell? ⟨w.heap.size + 1 + 1 + 1, 4, none⟩ = some (.string s.nm) := K4.cell 4
  have y5 : w2.cell? ⟨w.heap.size + 1 + 1 + 1, 5, none⟩ = some (.int .i64 s.kd) := K4.cell 5
  have y6 : w2.cell? ⟨w.heap.size + 1 + 1 + 1, 6, none⟩ = some (.int .i64 s.st) := K4.cell 6
  have y7 : w2.cell? ⟨w.heap.size + 1 + 1 + 1, 7, none⟩ = some (.int .u64 s.t0) := K4.cell 7
  have y8 : w2.cell? ⟨w.heap.size + 1 + 1 + 1, 8, none⟩ = some (.int .u64 s.t1) := K4.cell 8
  have y9 : w2.cell? ⟨w.heap.size + 1 + 1 + 1, 9, none⟩ = some (.slice A1 n1 c1) := K4.cell 9
  have f0 : w2.frozen? ⟨w.heap.size + 1 + 1 + 1, 0, none⟩ = false := K4.frozen 0
  have f1 : w2.frozen? ⟨w.heap.size + 1 + 1 + 1, 1, none⟩ = false := K4.frozen 1
  have f2 : w2.frozen? ⟨w.heap.size + 1 + 1 + 1, 2, none⟩ = false := K4.frozen 2
  have f3 : w2.frozen? ⟨w.heap.size + 1 + 1 + 1, 3, none⟩ = false := K4.frozen 3
  have f4 : w2.frozen? ⟨w.heap.size + 1 + 1 + 1, 4, none⟩ = false := K4.frozen 4
  have f5 : w2.frozen? ⟨w.heap.size + 1 + 1 + 1, 5, none⟩ = false := K4.frozen 5
  have f6 : w2.frozen? ⟨w.heap.size + 1 + 1 + 1, 6, none⟩ = false := K4.frozen 6
  have f7 : w2.frozen? ⟨w.heap.size + 1 + 1 + 1, 7, none⟩ = false := K4.frozen 7
  have f8 : w2.frozen? ⟨w.heap.size + 1 + 1 + 1, 8, none⟩ = false := K4.frozen 8
  have f9 : w2.frozen? ⟨w.heap.size + 1 + 1 + 1, 9, none⟩ = false := K4.frozen 9
  go_wp2_with fail
  change Calls _ _ _ (P06.put10 w2 (w.heap.size + 1 + 1 + 1) t (.slice A2 n2 c2)) _
  clear x0 x1 x2 x3 x4 x5 x6 x7 x8 x9 y0 y1 y2 y3 y4 y5 y6 y7 y8 y9 f0 f1 f2 f3 f4 f5 f6 f7 f8 f9
  have K5 := bk_put10 K4 t (.slice A2 n2 c2)
  have K6 : Bk (P06.put10 w2 (w.heap.size + 1 + 1 + 1) t (.slice A2 n2 c2)) (w.heap.size + 1 + 1) 45 zsp := by unfold Bk; rw [heap_put10 _ _ _ _ _ (by omega)]; exact K3
  have b4 : Below w.heap.size w (P06.put10 w2 (w.heap.size + 1 + 1 + 1) t (.slice A2 n2 c2)) := below_put10 b0 _ _ (by omega)
  clear K2 K3 K4 b0
  generalize P06.put10 w2 (w.heap.size + 1 + 1 + 1) t (.slice A2 n2 c2) = w3 at *
  refine (hK _ b4).mono ?_
  rintro e w4 ⟨A5, c5, rfl, H5, b5⟩
  have K7 := K5.below b5
  have K8 := K6.below b5
  have b6 := b4.trans (b5.mono b4.size)
  have hz := K5.lt
  clear K5 K6 b5 hK
  have y0 : w4.cell? ⟨w.heap.size + 1 + 1 + 1, 0, none⟩ = some (.int .u64 t.T) := K7.cell 0
  have y1 : w4.cell? ⟨w.heap.size + 1 + 1 + 1, 1, none⟩ = some (.int .u64 t.I) := K7.cell 1
  have y2 : w4.cell? ⟨w.heap.size + 1 + 1 + 1, 2, none⟩ = some (.int .u64 t.P) := K7.cell 2
  have y3 : w4.cell? ⟨w.heap.size + 1 + 1 + 1, 3, none⟩ = some (.string t.sv) := K7.cell 3
  have y4 : w4.cell? ⟨w.heap.size + 1 + 1 + 1, 4, none⟩ = some (.string t.nm) := K7.cell 4
  have y5 : w4.cell? ⟨w.heap.size + 1 + 1 + 1, 5, none⟩ = some (.int .i64 t.kd) := K7.cell 5
  have y6 : w4.cell? ⟨w.heap.size + 1 + 1 + 1, 6, none⟩ = some (.int .i64 t.st) := K7.cell 6
  have y7 : w4.cell? ⟨w.heap.size + 1 + 1 + 1, 7, none⟩ = some (.int .u64 t.t0) := K7.cell 7
  have y8 : w4.cell? ⟨w.heap.size + 1 + 1 + 1, 8, none⟩ = some (.int .u64 t.t1) := K7.cell 8
  have y9 : w4.cell? ⟨w.heap.size + 1 + 1 + 1, 9, none⟩ = some (.slice A2 n2 c2) := K7.cell 9
  have f0 : w4.frozen? ⟨w.heap.size + 1 + 1 + 1, 0, none⟩ = false := K7.frozen 0
  have f1 : w4.frozen? ⟨w.heap.size + 1 + 1 + 1, 1, none⟩ = false := K7.frozen 1
  have f2 : w4.frozen? ⟨w.heap.size + 1 + 1 + 1, 2, none⟩ = false := K7.frozen 2
  have f3 : w4.frozen? ⟨w.heap.size + 1 + 1 + 1, 3, none⟩ = false := K7.frozen 3
  have f4 : w4.frozen? ⟨w.heap.size + 1 + 1 + 1, 4, none⟩ = false := K7.frozen 4
  have f5 : w4.frozen? ⟨w.heap.size + 1 + 1 + 1, 5, none⟩ = false := K7.frozen 5
  have f6 : w4.frozen? ⟨w.heap.size + 1 + 1 + 1, 6, none⟩ = false := K7.frozen 6
  have f7 : w4.frozen? ⟨w.heap.size + 1 + 1 + 1, 7, none⟩ = false := K7.frozen 7
  have f8 : w4.frozen? ⟨w.heap.size + 1 + 1 + 1, 8, none⟩ = false := K7.frozen 8
  have f9 : w4.frozen? ⟨w.heap.size + 1 + 1 + 1, 9, none⟩ = false := K7.frozen 9
  have z0 : w4.cell? ⟨w.heap.size + 1 + 1, 0, none⟩ = some (.int .u64 0) := K8.cell 0
  have z1 : w4.cell? ⟨w.heap.size + 1 + 1, 1, none⟩ = some (.int .u64 0) := K8.cell 1
  have z2 : w4.cell? ⟨w.heap.size + 1 + 1, 2, none⟩ = some (.int .u64 0) := K8.cell 2
  have z3 : w4.cell? ⟨w.heap.size + 1 + 1, 3, none⟩ = some (.string ⟨#[]⟩) := K8.cell 3
  have z4 : w4.cell? ⟨w.heap.size + 1 + 1, 4, none⟩ = some (.string ⟨#[]⟩) := K8.cell 4
  have z5 : w4.cell? ⟨w.heap.size + 1 + 1, 5, none⟩ = some (.int .i64 0) := K8.cell 5
  have z6 : w4.cell? ⟨w.heap.size + 1 + 1, 6, none⟩ = some (.int .i64 0) := K8.cell 6
  have z7 : w4.cell? ⟨w.heap.size + 1 + 1, 7, none⟩ = some (.int .u64 0) := K8.cell 7
  have z8 : w4.cell? ⟨w.heap.size + 1 + 1, 8, none⟩ = some (.int .u64 0) := K8.cell 8
  have z9 : w4.cell? ⟨w.heap.size + 1 + 1, 9, none⟩ = some (.slice none 0 0) := K8.cell 9
  have g0 : w4.frozen? ⟨w.heap.size + 1 + 1, 0, none⟩ = false := K8.frozen 0
  have g1 : w4.frozen? ⟨w.heap.size + 1 + 1, 1, none⟩ = false := K8.frozen 1
  have g2 : w4.frozen? ⟨w.heap.size + 1 + 1, 2, none⟩ = false := K8.frozen 2
  have g3 : w4.frozen? ⟨w.heap.size + 1 + 1, 3, none⟩ = false := K8.frozen 3
  have g4 : w4.frozen? ⟨w.heap.size + 1 + 1, 4, none⟩ = false := K8.frozen 4
  have g5 : w4.frozen? ⟨w.heap.size + 1 + 1, 5, none⟩ = false := K8.frozen 5
  have g6 : w4.frozen? ⟨w.heap.size + 1 + 1, 6, none⟩ = false := K8.frozen 6
  have g7 : w4.frozen? ⟨w.heap.size + 1 + 1, 7, none⟩ = false := K8.frozen 7
  have g8 : w4.frozen? ⟨w.heap.size + 1 + 1, 8, none⟩ = false := K8.frozen 8
  have g9 : w4.frozen? ⟨w.heap.size + 1 + 1, 9, none⟩ = false := K8.frozen 9
  go_wp2
  change bodyPost _ _ _ _ _ (P06.put10 (w4.setCell ⟨w.heap.size + 1 + 1 + 1, 9, none⟩ (.slice A5 n2 c5)) (w.heap.size + 1 + 1) t (.slice A5 n2 c5))
  clear y0 y1 y2 y3 y4 y5 y6 y7 y8 y9 f0 f1 f2 f3 f4 f5 f6 f7 f8 f9 z0 z1 z2 z3 z4 z5 z6 z7 z8 z9 g0 g1 g2 g3 g4 g5 g6 g7 g8 g9
  have b7 : Below w.heap.size w (w4.setCell ⟨w.heap.size + 1 + 1 + 1, 9, none⟩ (.slice A5 n2 c5)) := b6.setCell (p := ⟨w.heap.size + 1 + 1 + 1, 9, none⟩) (by show _ ≤ w.heap.size + 1 + 1 + 1; omega) _
  have K9 := (K8.other (w.heap.size + 1 + 1 + 1) 9 (.slice A5 n2 c5) (by omega)).put10 t (.slice A5 n2 c5)
  have b8 : Below w.heap.size w (P06.put10 (w4.setCell ⟨w.heap.size + 1 + 1 + 1, 9, none⟩ (.slice A5 n2 c5)) (w.heap.size + 1 + 1) t (.slice A5 n2 c5)) := below_put10 b7 _ _ (by omega)
  have H8 : Hd w.heap.size (P06.put10 (w4.setCell ⟨w.heap.size + 1 + 1 + 1, 9, none⟩ (.slice A5 n2 c5)) (w.heap.size + 1 + 1) t (.slice A5 n2 c5)) A5 c5 m := (hd_keep H5 (fun g hg => by rw [heap_put10 _ _ _ _ _ (by omega), heap_set _ _ _ _ _ (by omega)]) (by rw [size_put10]; simp)).low (by omega)
  clear K7 K8 b6 b7 H5 hz
  generalize P06.put10 (w4.setCell ⟨w.heap.size + 1 + 1 + 1, 9, none⟩ (.slice A5 n2 c5)) (w.heap.size + 1 + 1) t (.slice A5 n2 c5) = W at *
  have x0 : W.cell? ⟨w.heap.size + 1 + 1, 0, none⟩ = some (.int .u64 t.T) := K9.cell 0
  have x1 : W.cell? ⟨w.heap.size + 1 + 1, 1, none⟩ = some (.int .u64 t.I) := K9.cell 1
  have x2 : W.cell? ⟨w.heap.size + 1 + 1, 2, none⟩ = some (.int .u64 t.P) := K9.cell 2
  have x3 : W.cell? ⟨w.heap.size + 1 + 1, 3, none⟩ = some (.string t.sv) := K9.cell 3
  have x4 : W.cell? ⟨w.heap.size + 1 + 1, 4, none⟩ = some (.string t.nm) := K9.cell 4
  have x5 : W.cell? ⟨w.heap.size + 1 + 1, 5, none⟩ = some (.int .i64 t.kd) := K9.cell 5
  have x6 : W.cell? ⟨w.heap.size + 1 + 1, 6, none⟩ = some (.int .i64 t.st) := K9.cell 6
  have x7 : W.cell? ⟨w.heap.size + 1 + 1, 7, none⟩ = some (.int .u64 t.t0) := K9.cell 7
  have x8 : W.cell? ⟨w.heap.size + 1 + 1, 8, none⟩ = some (.int .u64 t.t1) := K9.cell 8
  have x9 : W.cell? ⟨w.heap.size + 1 + 1, 9, none⟩ = some (.slice A5 n2 c5) := K9.cell 9
  (try simp only [Exit.inBlock, Exit.then])
  refine bodyPost_ret (by simp [results, Tryz.results54, go_sem, x0, x1, x2, x3, x4, x5, x6, x7, x8, x9]; try rfl) rfl ?_
  exact ⟨A5, c5, rfl, H8, b8⟩
end Go.Proofs.YtdmibolbpgondaaGreat.D09
