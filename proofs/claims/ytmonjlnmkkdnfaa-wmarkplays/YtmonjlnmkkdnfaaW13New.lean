/-
  New of a clock; Idle; alive.
-/
import Derived.Test.YtmonjlnmkkdnfaaW13See
set_option linter.unusedSimpArgs false
set_option linter.unusedVariables false
namespace Go.Proofs.Ytmonjlnmkkdnfaa.W13
open Go.RowKit Go.Lib Go.Proofs.Ytmonjlnmkkdnfaa.Wd

section
variable {w w' : World} {p g lo hi : Nat} {c : Cl}
set_option maxRecDepth 20000 in
theorem idle_in (s : Nat) (h0 : Ci w p lo hi c) (hs : s < c.N) :
    Calls Try.prog 16 #[.pointer (some ⟨p, 0, none⟩), .int .i64 (s : Int)] w fun e w' => e = .returned (.bool (qt c.now c.idle (c.K s))) ∧ Below w.heap.size w w' := by
  obtain ⟨g, h, k, b1, b2, b3, b4⟩ := h0
  have hh := has_at h (s : Int)
  have hi_ : isS c (s : Int) = true := by unfold isS; exact decide_eq_true ⟨by omega, by omega⟩
  rw [hi_] at hh
  have c0 := h.c0
  have x0 := h.s0 s hs
  have x1 := h.s1 s hs
  have hN := k.n1
  have hq := quiet_at h k (c.K s) (Nat.le_trans (k.last s hs) k.now)
  have y0 : (0 : Int) ≤ (s : Int) := by omega
  have y1 : ((s : Int)).toNat = s := by omega
  obtain ⟨N, hN2⟩ : ∃ N, c.N = N := ⟨_, rfl⟩
  rw [hN2] at c0 hs hN
  obtain ⟨x, hx⟩ : ∃ x, c.K s = x := ⟨_, rfl⟩
  rw [hx] at x0 x1 hq
  rw [hx]
  clear hi_ h k hx hN2
  go_enter Try.func16, Try.ntmps16
  go_wp2_with fail
  refine hh.mono ?_
  rintro e' w1 ⟨rfl, rfl⟩
  clear hh
  go_wp2_with fail
  refine hq.mono ?_
  rintro e' w1 ⟨rfl, b⟩
  clear hq
  go_wp2
  go_ret
  exact ⟨rfl, b⟩
set_option maxRecDepth 20000 in
theorem idle_out (s : Int) (h0 : Ci w p lo hi c) (hs : isS c s = false) :
    Calls Try.prog 16 #[.pointer (some ⟨p, 0, none⟩), .int .i64 s] w fun e w' => e = .returned (.bool false) ∧ w = w' := by
  obtain ⟨g, h, k, _⟩ := h0
  have hh := has_at h s
  rw [hs] at hh
  clear h k hs
  go_enter Try.func16, Try.ntmps16
  go_wp2_with fail
  refine hh.mono ?_
  rintro e' w1 ⟨rfl, rfl⟩
  clear hh
  go_wp2
  go_ret
  exact ⟨rfl, rfl⟩
theorem mark_at (h0 : Ci w p lo hi c) : Calls Try.prog 13 #[.pointer (some ⟨p, 0, none⟩)] w fun e w' => e = .returned (.int .u64 (c.mark : Int)) ∧ w = w' := by
  obtain ⟨g, h, k, _⟩ := h0
  exact mark_of h.c4
theorem now_at (h0 : Ci w p lo hi c) : Calls Try.prog 14 #[.pointer (some ⟨p, 0, none⟩)] w fun e w' => e = .returned (.int .u64 (c.now : Int)) ∧ w = w' := by
  obtain ⟨g, h, k, _⟩ := h0
  exact now_of h.c3
theorem late_at (x : Nat) (h0 : Ci w p lo hi c) : Calls Try.prog 15 #[.pointer (some ⟨p, 0, none⟩), .int .u64 (x : Int)] w fun e w' => e = .returned (.bool (decide (x < c.mark))) ∧ w = w' := by
  obtain ⟨g, h, k, _⟩ := h0
  exact late_of x h.c4
/-- what New takes -/
def Rt (n : Int) (late idle : Nat) : Prop := 1 ≤ n ∧ n ≤ 16 ∧ late ≤ 4611686018427387904 ∧ idle ≤ 4611686018427387904
set_option maxRecDepth 20000 in
theorem new_wrong (n : Int) (late idle : Nat) (w : World) (h : ¬ Rt n late idle) :
    Calls Try.prog 9 #[.int .i64 n, .int .u64 (late : Int), .int .u64 (idle : Int)] w fun e w' => e = .returned (.tuple #[.pointer none, .int .i64 1]) ∧ w = w' := by
  unfold Rt at h
  go_enter Try.func9, Try.ntmps9
  by_cases h1 : n < 1
  · clear h
    go_wp2
    go_ret2
    exact ⟨rfl, rfl⟩
  · by_cases h2 : 16 < n
    · clear h
      go_wp2
      go_ret2
      exact ⟨rfl, rfl⟩
    · by_cases h3 : (4611686018427387904 : Int) < (late : Int)
      · clear h
        go_wp2
        go_ret2
        exact ⟨rfl, rfl⟩
      · have h4 : (4611686018427387904 : Int) < (idle : Int) := by omega
        clear h
        go_wp2
        go_ret2
        exact ⟨rfl, rfl⟩
/-- n sources of which nothing is known -/
theorem kn_info : (Try.prog.info? 51).map (fun i => (i.zero, i.size, i.bytes)) = some (some (.agg #[.int .u64 0, .int .u64 0]), 2, 16) := by kernel_rfl
def zrow (n : Nat) : Obj := .cells (madeCells #[.int .u64 0, .int .u64 0] (n * 2)) 51
def box (g n late idle : Nat) : Obj := .cells #[.slice (some ⟨g, 0, none⟩) n n, .int .u64 (late : Int), .int .u64 (idle : Int), .int .u64 0, .int .u64 0] 48
theorem new_ci (w : World) (n late idle : Nat) (h : Rt n late idle) : Ci ((w.alloc (zrow n)).alloc (box w.heap.size n late idle)) (w.heap.size + 1) w.heap.size (w.heap.size + 2) (Cl.init n late idle) := by
  obtain ⟨h1, h2, h3, h4⟩ := h
  have hz := heap_alloc_new w (zrow n)
  have bb := below_box (w.alloc (zrow n)) (box w.heap.size n late idle)
  have hs : (w.alloc (zrow n)).heap.size = w.heap.size + 1 := by simp
  have hb := heap_alloc_new (w.alloc (zrow n)) (box w.heap.size n late idle)
  rw [hs] at hb
  have hg : ((w.alloc (zrow n)).alloc (box w.heap.size n late idle)).heap[w.heap.size]? = some (zrow n) := by
    rw [bb.block w.heap.size (by omega)]
    exact hz
  have e0 : ∀ s, s < n → (madeCells #[Value.int .u64 0, .int .u64 0] (n * 2))[s * 2]? = some (.int .u64 0) := fun s hs => by
    unfold madeCells
    rw [Array.getElem?_map, Array.getElem?_range, if_pos (by omega)]
    simp
  have e1 : ∀ s, s < n → (madeCells #[Value.int .u64 0, .int .u64 0] (n * 2))[s * 2 + 1]? = some (.int .u64 0) := fun s hs => by
    unfold madeCells
    rw [Array.getElem?_map, Array.getElem?_range, if_pos (by omega)]
    simp
  refine ⟨w.heap.size, ⟨cell_of hb rfl, cell_of hb rfl, cell_of hb rfl, cell_of hb rfl, cell_of hb rfl, froz_of hb, froz_of hb, fun s hs => cell_of hg (e0 s hs), fun s hs => cell_of hg (e1 s hs), fun s hs => froz_of hg, fun s hs => froz_of hg, by omega, by simp; omega⟩,
    Cl.Ok.init (by omega) (by omega) h3 h4, by omega, by omega, by omega, by omega⟩
/-- what New tells -/
def NwOut (c : Cl) (w : World) (e : Ending) (w' : World) : Prop := ∃ p, e = .returned (.tuple #[.pointer (some ⟨p, 0, none⟩), .int .i64 0]) ∧ Ci w' p w.heap.size w'.heap.size c ∧ Below w.heap.size w w'
set_option maxRecDepth 20000 in
theorem new_right (n late idle : Nat) (w : World) (h : Rt n late idle) :
    Calls Try.prog 9 #[.int .i64 (n : Int), .int .u64 (late : Int), .int .u64 (idle : Int)] w (NwOut (Cl.init n late idle) w) := by
  have hc := new_ci w n late idle h
  obtain ⟨h1, h2, h3, h4⟩ := h
  obtain ⟨i0, hi, hz0, hz1, hz2⟩ := info_two kn_info
  have hmk : ∀ W : World, (Instr.makeSlice 46 (.int .i64 (n : Int)) (.int .i64 (n : Int))).run Try.prog W = .ok (.slice (some ⟨W.heap.size, 0, none⟩) n n) (W.alloc (zrow n)) := fun W => by
    have := make_n (P := Try.prog) (t := 46) (e := 51) Try.underlying46 hi hz0 n (by omega) (by omega) _ rfl W
    rw [hz1] at this
    exact this
  have b1 := below_box w (zrow n)
  have b2 := below_box (w.alloc (zrow n)) (box w.heap.size n late idle)
  have hout := Lib.hid (show NwOut (Cl.init n late idle) w (.returned (.tuple #[.pointer (some ⟨w.heap.size + 1, 0, none⟩), .int .i64 0])) ((w.alloc (zrow n)).alloc (box w.heap.size n late idle)) from
    ⟨_, rfl, by have : ((w.alloc (zrow n)).alloc (box w.heap.size n late idle)).heap.size = w.heap.size + 2 := by simp
                rw [this]; exact hc, b1.trans (b2.mono b1.size)⟩)
  have k3 : ¬ (4611686018427387904 : Int) < (late : Int) := by omega
  have k4 : ¬ (4611686018427387904 : Int) < (idle : Int) := by omega
  have hsz : (w.alloc (zrow n)).heap.size = w.heap.size + 1 := by simp
  unfold box at hout
  clear hc b1 b2 hz0 hz1 hz2 hi h3 h4
  go_enter Try.func9, Try.ntmps9
  go_wp2
  go_ret2
  exact hout.out
end
end Go.Proofs.Ytmonjlnmkkdnfaa.W13
