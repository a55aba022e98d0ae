/-
  The document's order of spans.
-/
import Derived.Test.YtdmibolbpgondaaGreatKP06RefCk
import Derived.Test.YtdmibolbpgondaaGreatKP06Region
import Derived.Test.YtdmibolbpgondaaGreatKP06Of
import Derived.Deep.RegionHeld3
set_option linter.unusedSimpArgs false
set_option linter.unusedVariables false
namespace Go.Proofs.YtdmibolbpgondaaGreat.P06
open Go.Shelf Go.RowKit Go.Lib Go.Sort Go.Proofs.YtdmibolbpgondaaGreat.Wd Go.Proofs.YtdmibolbpgondaaGreat.V04

set_option maxRecDepth 100000 in
/-- a frame of 186 slots, written out -/
theorem frame_lit (a : Act) (hs : a.tmps.size = 186) (hd : a.defers = []) : a = ⟨#[a.eval (.tmp 0), a.eval (.tmp 1), a.eval (.tmp 2), a.eval (.tmp 3), a.eval (.tmp 4), a.eval (.tmp 5), a.eval (.tmp 6), a.eval (.tmp 7), a.eval (.tmp 8), a.eval (.tmp 9), a.eval (.tmp 10), a.eval (.tmp 11), a.eval (.tmp 12), a.eval (.tmp 13), a.eval (.tmp 14), a.eval (.tmp 15), a.eval (.tmp 16), a.eval (.tmp 17), a.eval (.tmp 18), a.eval (.tmp 19), a.eval (.tmp 20), a.eval (.tmp 21), a.eval (.tmp 22), a.eval (.tmp 23), a.eval (.tmp 24), a.eval (.tmp 25), a.eval (.tmp 26), a.eval (.tmp 27), a.eval (.tmp 28), a.eval (.tmp 29), a.eval (.tmp 30), a.eval (.tmp 31), a.eval (.tmp 32), a.eval (.tmp 33), a.eval (.tmp 34), a.eval (.tmp 35), a.eval (.tmp 36), a.eval (.tmp 37), a.eval (.tmp 38), a.eval (.tmp 39), a.eval (.tmp 40), a.eval (.tmp 41), a.eval (.tmp 42), a.eval (.tmp 43), a.eval (.tmp 44), a.eval (.tmp 45), a.eval (.tmp 46), a.eval (.tmp 47), a.eval (.tmp 48), a.eval (.tmp 49), a.eval (.tmp 50), a.eval (.tmp 51), a.eval (.tmp 52), a.eval (.tmp 53), a.eval (.tmp 54), a.eval (.tmp 55), a.eval (.tmp 56), a.eval (.tmp 57), a.eval (.tmp 58), a.eval (.tmp 59), a.eval (.tmp 60), a.eval (.tmp 61), a.eval (.tmp 62), a.eval (.tmp 63), a.eval (.tmp 64), a.eval (.tmp 65), a.eval (.tmp 66), a.eval (.tmp 67), a.eval (.tmp 68), a.eval (.tmp 69), a.eval (.tmp 70), a.eval (.tmp 71), a.eval (.tmp 72), a.eval (.tmp 73), a.eval (.tmp 74), a.eval (.tmp 75), a.eval (.tmp 76), a.eval (.tmp 77), a.eval (.tmp 78), a.eval (.tmp 79), a.eval (.tmp 80), a.eval (.tmp 81), a.eval (.tmp 82), a.eval (.tmp 83), a.eval (.tmp 84), a.eval (.tmp 85), a.eval (.tmp 86), a.eval (.tmp 87), a.eval (.tmp 88), a.eval (.tmp 89), a.eval (.tmp 90), a.eval (.tmp 91), a.eval (.tmp 92), a.eval (.tmp 93), a.eval (.tmp 94), a.eval (.tmp 95), a.eval (.tmp 96), a.eval (.tmp 97), a.eval (.tmp 98), a.eval (.tmp 99), a.eval (.tmp 100), a.eval (.tmp 101), a.eval (.tmp 102), a.eval (.tmp 103), a.eval (.tmp 104), a.eval (.tmp 105), a.eval (.tmp 106), a.eval (.tmp 107), a.eval (.tmp 108), a.eval (.tmp 109), a.eval (.tmp 110), a.eval (.tmp 111), a.eval (.tmp 112), a.eval (.tmp 113), a.eval (.tmp 114), a.eval (.tmp 115), a.eval (.tmp 116), a.eval (.tmp 117), a.eval (.tmp 118), a.eval (.tmp 119), a.eval (.tmp 120), a.eval (.tmp 121), a.eval (.tmp 122), a.eval (.tmp 123), a.eval (.tmp 124), a.eval (.tmp 125), a.eval (.tmp 126), a.eval (.tmp 127), a.eval (.tmp 128), a.eval (.tmp 129), a.eval (.tmp 130), a.eval (.tmp 131), a.eval (.tmp 132), a.eval (.tmp 133), a.eval (.tmp 134), a.eval (.tmp 135), a.eval (.tmp 136), a.eval (.tmp 137), a.eval (.tmp 138), a.eval (.tmp 139), a.eval (.tmp 140), a.eval (.tmp 141), a.eval (.tmp 142), a.eval (.tmp 143), a.eval (.tmp 144), a.eval (.tmp 145), a.eval (.tmp 146), a.eval (.tmp 147), a.eval (.tmp 148), a.eval (.tmp 149), a.eval (.tmp 150), a.eval (.tmp 151), a.eval (.tmp 152), a.eval (.tmp 153), a.eval (.tmp 154), a.eval (.tmp 155), a.eval (.tmp 156), a.eval (.tmp 157), a.eval (.tmp 158), a.eval (.tmp 159), a.eval (.tmp 160), a.eval (.tmp 161), a.eval (.tmp 162), a.eval (.tmp 163), a.eval (.tmp 164), a.eval (.tmp 165), a.eval (.tmp 166), a.eval (.tmp 167), a.eval (.tmp 168), a.eval (.tmp 169), a.eval (.tmp 170), a.eval (.tmp 171), a.eval (.tmp 172), a.eval (.tmp 173), a.eval (.tmp 174), a.eval (.tmp 175), a.eval (.tmp 176), a.eval (.tmp 177), a.eval (.tmp 178), a.eval (.tmp 179), a.eval (.tmp 180), a.eval (.tmp 181), a.eval (.tmp 182), a.eval (.tmp 183), a.eval (.tmp 184), a.eval (.tmp 185)], []⟩ := by
  have e : a.tmps = ((List.range 186).map fun j => a.eval (.tmp j)).toArray := by
    apply Array.ext
    · simp [hs]
    · intro i h1 h2
      simp [Act.eval, Array.getD, h1]
  have e2 : ((List.range 186).map fun j => a.eval (.tmp j)).toArray = #[a.eval (.tmp 0), a.eval (.tmp 1), a.eval (.tmp 2), a.eval (.tmp 3), a.eval (.tmp 4), a.eval (.tmp 5), a.eval (.tmp 6), a.eval (.tmp 7), a.eval (.tmp 8), a.eval (.tmp 9), a.eval (.tmp 10), a.eval (.tmp 11), a.eval (.tmp 12), a.eval (.tmp 13), a.eval (.tmp 14), a.eval (.tmp 15), a.eval (.tmp 16), a.eval (.tmp 17), a.eval (.tmp 18), a.eval (.tmp 19), a.eval (.tmp 20), a.eval (.tmp 21), a.eval (.tmp 22), a.eval (.tmp 23), a.eval (.tmp 24), a.eval (.tmp 25), a.eval (.tmp 26), a.eval (.tmp 27), a.eval (.tmp 28), a.eval (.tmp 29), a.eval (.tmp 30), a.eval (.tmp 31), a.eval (.tmp 32), a.eval (.tmp 33), a.eval (.tmp 34), a.eval (.tmp 35), a.eval (.tmp 36), a.eval (.tmp 37), a.eval (.tmp 38), a.eval (.tmp 39), a.eval (.tmp 40), a.eval (.tmp 41), a.eval (.tmp 42), a.eval (.tmp 43), a.eval (.tmp 44), a.eval (.tmp 45), a.eval (.tmp 46), a.eval (.tmp 47), a.eval (.tmp 48), a.eval (.tmp 49), a.eval (.tmp 50), a.eval (.tmp 51), a.eval (.tmp 52), a.eval (.tmp 53), a.eval (.tmp 54), a.eval (.tmp 55), a.eval (.tmp 56), a.eval (.tmp 57), a.eval (.tmp 58), a.eval (.tmp 59), a.eval (.tmp 60), a.eval (.tmp 61), a.eval (.tmp 62), a.eval (.tmp 63), a.eval (.tmp 64), a.eval (.tmp 65), a.eval (.tmp 66), a.eval (.tmp 67), a.eval (.tmp 68), a.eval (.tmp 69), a.eval (.tmp 70), a.eval (.tmp 71), a.eval (.tmp 72), a.eval (.tmp 73), a.eval (.tmp 74), a.eval (.tmp 75), a.eval (.tmp 76), a.eval (.tmp 77), a.eval (.tmp 78), a.eval (.tmp 79), a.eval (.tmp 80), a.eval (.tmp 81), a.eval (.tmp 82), a.eval (.tmp 83), a.eval (.tmp 84), a.eval (.tmp 85), a.eval (.tmp 86), a.eval (.tmp 87), a.eval (.tmp 88), a.eval (.tmp 89), a.eval (.tmp 90), a.eval (.tmp 91), a.eval (.tmp 92), a.eval (.tmp 93), a.eval (.tmp 94), a.eval (.tmp 95), a.eval (.tmp 96), a.eval (.tmp 97), a.eval (.tmp 98), a.eval (.tmp 99), a.eval (.tmp 100), a.eval (.tmp 101), a.eval (.tmp 102), a.eval (.tmp 103), a.eval (.tmp 104), a.eval (.tmp 105), a.eval (.tmp 106), a.eval (.tmp 107), a.eval (.tmp 108), a.eval (.tmp 109), a.eval (.tmp 110), a.eval (.tmp 111), a.eval (.tmp 112), a.eval (.tmp 113), a.eval (.tmp 114), a.eval (.tmp 115), a.eval (.tmp 116), a.eval (.tmp 117), a.eval (.tmp 118), a.eval (.tmp 119), a.eval (.tmp 120), a.eval (.tmp 121), a.eval (.tmp 122), a.eval (.tmp 123), a.eval (.tmp 124), a.eval (.tmp 125), a.eval (.tmp 126), a.eval (.tmp 127), a.eval (.tmp 128), a.eval (.tmp 129), a.eval (.tmp 130), a.eval (.tmp 131), a.eval (.tmp 132), a.eval (.tmp 133), a.eval (.tmp 134), a.eval (.tmp 135), a.eval (.tmp 136), a.eval (.tmp 137), a.eval (.tmp 138), a.eval (.tmp 139), a.eval (.tmp 140), a.eval (.tmp 141), a.eval (.tmp 142), a.eval (.tmp 143), a.eval (.tmp 144), a.eval (.tmp 145), a.eval (.tmp 146), a.eval (.tmp 147), a.eval (.tmp 148), a.eval (.tmp 149), a.eval (.tmp 150), a.eval (.tmp 151), a.eval (.tmp 152), a.eval (.tmp 153), a.eval (.tmp 154), a.eval (.tmp 155), a.eval (.tmp 156), a.eval (.tmp 157), a.eval (.tmp 158), a.eval (.tmp 159), a.eval (.tmp 160), a.eval (.tmp 161), a.eval (.tmp 162), a.eval (.tmp 163), a.eval (.tmp 164), a.eval (.tmp 165), a.eval (.tmp 166), a.eval (.tmp 167), a.eval (.tmp 168), a.eval (.tmp 169), a.eval (.tmp 170), a.eval (.tmp 171), a.eval (.tmp 172), a.eval (.tmp 173), a.eval (.tmp 174), a.eval (.tmp 175), a.eval (.tmp 176), a.eval (.tmp 177), a.eval (.tmp 178), a.eval (.tmp 179), a.eval (.tmp 180), a.eval (.tmp 181), a.eval (.tmp 182), a.eval (.tmp 183), a.eval (.tmp 184), a.eval (.tmp 185)] := rfl
  obtain ⟨t, d⟩ := a
  simp only at hd
  subst hd
  rw [Act.mk.injEq]
  exact ⟨e.trans e2, rfl⟩
/-- numbers, as cells -/
def ic (l : List Int) : List Value := l.map fun x => Value.int .i64 x
theorem int_info : (Tryz.prog.info? 3).map (fun i => (i.zero, i.size, i.bytes)) = some (some (.int .i64 0), 1, 8) := by kernel_rfl

theorem ic_len (l : List Int) : (ic l).length = l.length := by simp [ic]
theorem ic_app (l m : List Int) : ic (l ++ m) = ic l ++ ic m := by simp [ic]
theorem ic_one (l : List Int) : ∀ u ∈ ic l, u.oneCell' = true := by
  intro u hu
  simp only [ic, List.mem_map] at hu
  obtain ⟨x, _, rfl⟩ := hu
  rfl
theorem Rd.ints (w : World) (l : List Int) (h : l.length ≤ 65536) : Rd 1 (w.alloc (.cells (ic l).toArray 3)) (some ⟨w.heap.size, 0, none⟩) l.length l.length (ic l) := by
  refine ⟨by rw [ic_len]; omega, fun e => (by cases e), Nat.le_refl _, by unfold maxLen; omega, fun ad ha i u hu => ?_⟩
  injection ha with ha
  subst ha
  rw [Addr.add_lit, (Bk.new w 3 _).cell]
  simpa using hu
theorem own_ints (w : World) (l : List Int) (h : l.length ≤ 65536) : (w.alloc (.cells (ic l).toArray 3)).ownsRow w.heap.size 3 1 (.slice (some ⟨w.heap.size, 0, none⟩) l.length l.length) l.length (ic l) :=
  ⟨by rw [ic_len]; omega, .inr ⟨w.heap.size, l.length, (ic l).toArray, rfl, Nat.le_refl _, heap_alloc_new w _, Nat.le_refl _, by unfold maxLen; omega, by simp [ic_len], by rw [List.take_of_length_le (by simp [ic_len])]⟩⟩
theorem own_low {w : World} {b b' : Nat} {e : TypeId} {sz n : Nat} {v : Value} {xs : List Value} (h : w.ownsRow b e sz v n xs) (hb : b' ≤ b) : w.ownsRow b' e sz v n xs :=
  ⟨h.1, h.2.elim .inl fun ⟨g, cap, cur, hv, hbg, r⟩ => .inr ⟨g, cap, cur, hv, Nat.le_trans hb hbg, r⟩⟩
/-- how far it has come -/
structure RcR (w : World) (s t : Sp) (A1 : Option Addr) (n1 c1 : Nat) (A2 : Option Addr) (n2 c2 : Nat) (l m : List At) (r : Int) (k : Nat) (A5 : Option Addr) (N c5 : Nat) (L : List Int) (wr : World) : Prop where
  k2 : Bk wr w.heap.size 34 (spc s (.slice A1 n1 c1))
  k3 : Bk wr (w.heap.size + 1) 34 (spc t (.slice A2 n2 c2))
  own : wr.ownsRow (w.heap.size + 1 + 1) 3 1 (.slice A5 N c5) N (ic L)
  bel : Below w.heap.size w wr
  lt : w.heap.size + 1 + 1 ≤ wr.heap.size
  len : L.length = N
  nth : N = 9 + 2 * k
  val : (if orL L ≠ 0 then orL L else cmpL (l.drop k) (m.drop k)) = r

theorem step_append_rd {P : Program} {ops : Array Oper} {o : Oper} {a : Act} {w : World} {K : Act → World → Prop} {Q : Exit → Act → World → Prop} {E : Prop} (hgd : o.guard = none) (s x : Operand) (t : TypeId)
    (ho : o.op = .call { callee := .builtin .append, args := #[s, x], argTypes := #[t, t] })
    (base : Nat) (e : TypeId) (i : TypeInfo) (z : Value) (size bytes : Nat) (ht : P.underlying t = some (.slice e)) (hi : P.info? e = some i) (hz : i.zero = some z)
    (hsize : i.size = size) (hby : i.bytes = bytes) (hzs : z.cells.size = size) (hsz : 0 < size)
    (v : Value) (n : Nat) (xs : List Value) (hs : a.eval s = v) (hown : w.ownsRow base e size v n xs)
    (A : Option Addr) (m c : Nat) (news : List Value) (hx : a.eval x = .slice A m c) (hr : Rd size w A m c news) (h1 : ∀ u ∈ news, u.oneCell' = true)
    (h63 : n + m ≤ maxLen) (hbytes : (n + m) * bytes ≤ 140737488355328) (hbase : base ≤ w.heap.size)
    (h : ∀ A' c' w', w'.ownsRow base e size (.slice A' (n + m) c') (n + m) (xs ++ news) → w.grownBy w' v.ownBlock → K (a.put o.dst (.slice A' (n + m) c')) w') :
    if Region.wanted o (yielded ops a.tmps) = true then Oper.wp P o a w K Q else E := by
  rw [if_pos (by simp [Region.wanted, hgd])]
  exact wp_append_rd s x t ho base e i z size bytes ht hi hz hsize hby hzs hsz v n xs hs hown A m c news hx hr h1 h63 hbytes hbase h
theorem RcR.below {w : World} {s t : Sp} {A1 : Option Addr} {n1 c1 : Nat} {A2 : Option Addr} {n2 c2 : Nat} {l m : List At} {r : Int} {k : Nat} {A5 : Option Addr} {N c5 : Nat} {L : List Int} {wr W : World} (h : RcR w s t A1 n1 c1 A2 n2 c2 l m r k A5 N c5 L wr) (hb : Below wr.heap.size wr W) : RcR w s t A1 n1 c1 A2 n2 c2 l m r k A5 N c5 L W :=
  ⟨h.k2.below hb, h.k3.below hb, own_below h.own hb, h.bel.trans (hb.mono h.bel.size), Nat.le_trans h.lt hb.size, h.len, h.nth, h.val⟩
/-- two attributes' boxes, wherever they lie -/
def TwoAt (W : World) (g g' : Nat) (x y : At) : Prop :=
  W.cell? ⟨g, 0, none⟩ = some (.string x.key) ∧ W.cell? ⟨g, 1, none⟩ = some (.int .i64 x.K) ∧ W.cell? ⟨g, 2, none⟩ = some (.int .i64 x.N) ∧ W.cell? ⟨g, 3, none⟩ = some (.string x.S) ∧
  W.cell? ⟨g', 0, none⟩ = some (.string y.key) ∧ W.cell? ⟨g', 1, none⟩ = some (.int .i64 y.K) ∧ W.cell? ⟨g', 2, none⟩ = some (.int .i64 y.N) ∧ W.cell? ⟨g', 3, none⟩ = some (.string y.S)
theorem TwoAt.keep {W W' : World} {g g' : Nat} {x y : At} (h : TwoAt W g g' x y) (k : ∀ (p : Addr) (v : Value), p.block = g ∨ p.block = g' → W.cell? p = some v → W'.cell? p = some v) : TwoAt W' g g' x y := by
  obtain ⟨h1, h2, h3, h4, h5, h6, h7, h8⟩ := h
  exact ⟨k _ _ (.inl rfl) h1, k _ _ (.inl rfl) h2, k _ _ (.inl rfl) h3, k _ _ (.inl rfl) h4, k _ _ (.inr rfl) h5, k _ _ (.inr rfl) h6, k _ _ (.inr rfl) h7, k _ _ (.inr rfl) h8⟩
theorem TwoAt.below {W W' : World} {g g' : Nat} {x y : At} (h : TwoAt W g g' x y) (hb : Below W.heap.size W W') : TwoAt W' g g' x y := h.keep fun p v _ hp => by rw [hb.cell (World.block_lt_of_cell? _ _ hp)]; exact hp

set_option maxRecDepth 20000 in
set_option maxHeartbeats 8000000 in
theorem refcmp_any (s t : Sp) (A1 A2 : Option Addr) (c1 c2 : Nat) (l m : List At) (n1 n2 : Nat) (w : World) (h1 : Ats w A1 c1 l) (h2 : Ats w A2 c2 m) (hn1 : l.length = n1) (hn2 : m.length = n2) (z1 : n1 ≤ 40) (z2 : n2 ≤ 40) :
    Calls Tryz.prog 36 #[spv s (.slice A1 n1 c1), spv t (.slice A2 n2 c2)] w fun e w' => e = .returned (.int .i64 (cmpS s t l m)) ∧ Below w.heap.size w w' := by
  obtain ⟨i0, hi, hz0, hz1, hz2⟩ := info_parts int_info
  obtain ⟨r, hrr⟩ : ∃ r, cmpS s t l m = r := ⟨_, rfl⟩
  rw [hrr]
  have HRR := Lib.hid hrr
  clear hrr
  have mixed : Tryz.prog.follows .mixedOrders = true := by kernel_rfl
  have k1 := Bk.new w 34 (spc s (.slice A1 n1 c1))
  have k2 : Bk (w.alloc (.cells (spc s (.slice A1 n1 c1)) 34) |>.alloc (.cells (spc t (.slice A2 n2 c2)) 34)).drew w.heap.size 34 (spc s (.slice A1 n1 c1)) := k1.below (below_box _ _ (Nat.le_refl _)).drew
  have k3 : Bk (w.alloc (.cells (spc s (.slice A1 n1 c1)) 34) |>.alloc (.cells (spc t (.slice A2 n2 c2)) 34)).drew (w.heap.size + 1) 34 (spc t (.slice A2 n2 c2)) := by
    have h4 := Bk.new (w.alloc (.cells (spc s (.slice A1 n1 c1)) 34)) 34 (spc t (.slice A2 n2 c2))
    have e4 : (w.alloc (.cells (spc s (.slice A1 n1 c1)) 34)).heap.size = w.heap.size + 1 := by simp
    rw [e4] at h4
    exact h4
  have b0 : Below w.heap.size w (w.alloc (.cells (spc s (.slice A1 n1 c1)) 34) |>.alloc (.cells (spc t (.slice A2 n2 c2)) 34)).drew := by go_grown
  clear k1
  go_enter Tryz.func36, Tryz.ntmps36
  go_wp2
  refine wp_region_still_tail 99 (by kernel_rfl) (lex_tail 99 (by kernel_rfl) (by decide) (by kernel_rfl) (by kernel_rfl) (by kernel_rfl) (by kernel_rfl)) ?_
  change wpStill _ _ (w.alloc (.cells (spc s (.slice A1 n1 c1)) 34) |>.alloc (.cells (spc t (.slice A2 n2 c2)) 34)).drew (fun a' => wpList _ _ _ _ a' (w.alloc (.cells (spc s (.slice A1 n1 c1)) 34) |>.alloc (.cells (spc t (.slice A2 n2 c2)) 34)).drew) _ _
  generalize (w.alloc (.cells (spc s (.slice A1 n1 c1)) 34) |>.alloc (.cells (spc t (.slice A2 n2 c2)) 34)).drew = Y at *
  have x0 : Y.cell? ⟨w.heap.size, 0, none⟩ = some (.int .u64 s.T) := k2.cell 0
  have y0 : Y.cell? ⟨w.heap.size + 1, 0, none⟩ = some (.int .u64 t.T) := k3.cell 0
  have x1 : Y.cell? ⟨w.heap.size, 1, none⟩ = some (.int .u64 s.I) := k2.cell 1
  have y1 : Y.cell? ⟨w.heap.size + 1, 1, none⟩ = some (.int .u64 t.I) := k3.cell 1
  have x2 : Y.cell? ⟨w.heap.size, 2, none⟩ = some (.int .u64 s.P) := k2.cell 2
  have y2 : Y.cell? ⟨w.heap.size + 1, 2, none⟩ = some (.int .u64 t.P) := k3.cell 2
  have x3 : Y.cell? ⟨w.heap.size, 3, none⟩ = some (.string s.sv) := k2.cell 3
  have y3 : Y.cell? ⟨w.heap.size + 1, 3, none⟩ = some (.string t.sv) := k3.cell 3
  have x4 : Y.cell? ⟨w.heap.size, 4, none⟩ = some (.string s.nm) := k2.cell 4
  have y4 : Y.cell? ⟨w.heap.size + 1, 4, none⟩ = some (.string t.nm) := k3.cell 4
  have x5 : Y.cell? ⟨w.heap.size, 5, none⟩ = some (.int .i64 s.kd) := k2.cell 5
  have y5 : Y.cell? ⟨w.heap.size + 1, 5, none⟩ = some (.int .i64 t.kd) := k3.cell 5
  have x6 : Y.cell? ⟨w.heap.size, 6, none⟩ = some (.int .i64 s.st) := k2.cell 6
  have y6 : Y.cell? ⟨w.heap.size + 1, 6, none⟩ = some (.int .i64 t.st) := k3.cell 6
  have x7 : Y.cell? ⟨w.heap.size, 7, none⟩ = some (.int .u64 s.t0) := k2.cell 7
  have y7 : Y.cell? ⟨w.heap.size + 1, 7, none⟩ = some (.int .u64 t.t0) := k3.cell 7
  have x8 : Y.cell? ⟨w.heap.size, 8, none⟩ = some (.int .u64 s.t1) := k2.cell 8
  have y8 : Y.cell? ⟨w.heap.size + 1, 8, none⟩ = some (.int .u64 t.t1) := k3.cell 8
  refine ck_T Y _ _ _ _ w.heap.size rfl rfl rfl s.T t.T x0 y0 _ _ _ _ _ _ _ _ _ _ _ _ _ _ _ _ _ _ _ _ _ _ _ _ _ _ _ _ _ _ _ _ _ ?_
  intro a0 s0 d0 k0 r0
  have g2_0 : a0.eval (.tmp 2) = .pointer (some ⟨w.heap.size, 0, none⟩) := (k0 2 (by decide)).trans rfl
  have g3_0 : a0.eval (.tmp 3) = .pointer (some ⟨w.heap.size + 1, 0, none⟩) := (k0 3 (by decide)).trans rfl
  have dd0 : a0.defers = [] := d0
  refine ck_I Y _ _ _ _ w.heap.size s0 g2_0 g3_0 s.I t.I x1 y1 _ _ _ _ _ _ _ _ _ _ _ _ _ _ _ _ _ _ _ _ _ _ _ _ _ _ _ _ _ _ _ _ _ ?_
  intro a1 s1 d1 k1 r1
  have g2_1 : a1.eval (.tmp 2) = .pointer (some ⟨w.heap.size, 0, none⟩) := (k1 2 (by decide)).trans g2_0
  have g3_1 : a1.eval (.tmp 3) = .pointer (some ⟨w.heap.size + 1, 0, none⟩) := (k1 3 (by decide)).trans g3_0
  have dd1 : a1.defers = [] := d1.trans dd0
  have r0 := (k1 20 (by decide)).trans r0
  clear k0 d0 g2_0 g3_0 s0 dd0
  refine ck_P Y _ _ _ _ w.heap.size s1 g2_1 g3_1 s.P t.P x2 y2 _ _ _ _ _ _ _ _ _ _ _ _ _ _ _ _ _ _ _ _ _ _ _ _ _ _ _ _ _ _ _ _ _ ?_
  intro a2 s2 d2 k2 r2
  have g2_2 : a2.eval (.tmp 2) = .pointer (some ⟨w.heap.size, 0, none⟩) := (k2 2 (by decide)).trans g2_1
  have g3_2 : a2.eval (.tmp 3) = .pointer (some ⟨w.heap.size + 1, 0, none⟩) := (k2 3 (by decide)).trans g3_1
  have dd2 : a2.defers = [] := d2.trans dd1
  have r0 := (k2 20 (by decide)).trans r0
  have r1 := (k2 31 (by decide)).trans r1
  clear k1 d1 g2_1 g3_1 s1 dd1
  refine ck_sv Y _ _ _ _ w.heap.size s2 g2_2 g3_2 s.sv t.sv x3 y3 _ _ _ _ _ _ _ _ _ _ _ _ _ _ _ _ _ _ _ _ _ _ _ _ _ _ _ _ _ _ _ _ _ ?_
  intro a3 s3 d3 k3 r3
  have g2_3 : a3.eval (.tmp 2) = .pointer (some ⟨w.heap.size, 0, none⟩) := (k3 2 (by decide)).trans g2_2
  have g3_3 : a3.eval (.tmp 3) = .pointer (some ⟨w.heap.size + 1, 0, none⟩) := (k3 3 (by decide)).trans g3_2
  have dd3 : a3.defers = [] := d3.trans dd2
  have r0 := (k3 20 (by decide)).trans r0
  have r1 := (k3 31 (by decide)).trans r1
  have r2 := (k3 42 (by decide)).trans r2
  clear k2 d2 g2_2 g3_2 s2 dd2
  refine ck_nm Y _ _ _ _ w.heap.size s3 g2_3 g3_3 s.nm t.nm x4 y4 _ _ _ _ _ _ _ _ _ _ _ _ _ _ _ _ _ _ _ _ _ _ _ _ _ _ _ _ _ _ _ _ _ ?_
  intro a4 s4 d4 k4 r4
  have g2_4 : a4.eval (.tmp 2) = .pointer (some ⟨w.heap.size, 0, none⟩) := (k4 2 (by decide)).trans g2_3
  have g3_4 : a4.eval (.tmp 3) = .pointer (some ⟨w.heap.size + 1, 0, none⟩) := (k4 3 (by decide)).trans g3_3
  have dd4 : a4.defers = [] := d4.trans dd3
  have r0 := (k4 20 (by decide)).trans r0
  have r1 := (k4 31 (by decide)).trans r1
  have r2 := (k4 42 (by decide)).trans r2
  have r3 := (k4 53 (by decide)).trans r3
  clear k3 d3 g2_3 g3_3 s3 dd3
  refine ck_kd Y _ _ _ _ w.heap.size s4 g2_4 g3_4 s.kd t.kd x5 y5 _ _ _ _ _ _ _ _ _ _ _ _ _ _ _ _ _ _ _ _ _ _ _ _ _ _ _ _ _ _ _ _ _ ?_
  intro a5 s5 d5 k5 r5
  have g2_5 : a5.eval (.tmp 2) = .pointer (some ⟨w.heap.size, 0, none⟩) := (k5 2 (by decide)).trans g2_4
  have g3_5 : a5.eval (.tmp 3) = .pointer (some ⟨w.heap.size + 1, 0, none⟩) := (k5 3 (by decide)).trans g3_4
  have dd5 : a5.defers = [] := d5.trans dd4
  have r0 := (k5 20 (by decide)).trans r0
  have r1 := (k5 31 (by decide)).trans r1
  have r2 := (k5 42 (by decide)).trans r2
  have r3 := (k5 53 (by decide)).trans r3
  have r4 := (k5 64 (by decide)).trans r4
  clear k4 d4 g2_4 g3_4 s4 dd4
  refine ck_st Y _ _ _ _ w.heap.size s5 g2_5 g3_5 s.st t.st x6 y6 _ _ _ _ _ _ _ _ _ _ _ _ _ _ _ _ _ _ _ _ _ _ _ _ _ _ _ _ _ _ _ _ _ ?_
  intro a6 s6 d6 k6 r6
  have g2_6 : a6.eval (.tmp 2) = .pointer (some ⟨w.heap.size, 0, none⟩) := (k6 2 (by decide)).trans g2_5
  have g3_6 : a6.eval (.tmp 3) = .pointer (some ⟨w.heap.size + 1, 0, none⟩) := (k6 3 (by decide)).trans g3_5
  have dd6 : a6.defers = [] := d6.trans dd5
  have r0 := (k6 20 (by decide)).trans r0
  have r1 := (k6 31 (by decide)).trans r1
  have r2 := (k6 42 (by decide)).trans r2
  have r3 := (k6 53 (by decide)).trans r3
  have r4 := (k6 64 (by decide)).trans r4
  have r5 := (k6 75 (by decide)).trans r5
  clear k5 d5 g2_5 g3_5 s5 dd5
  refine ck_t0 Y _ _ _ _ w.heap.size s6 g2_6 g3_6 s.t0 t.t0 x7 y7 _ _ _ _ _ _ _ _ _ _ _ _ _ _ _ _ _ _ _ _ _ _ _ _ _ _ _ _ _ _ _ _ _ ?_
  intro a7 s7 d7 k7 r7
  have g2_7 : a7.eval (.tmp 2) = .pointer (some ⟨w.heap.size, 0, none⟩) := (k7 2 (by decide)).trans g2_6
  have g3_7 : a7.eval (.tmp 3) = .pointer (some ⟨w.heap.size + 1, 0, none⟩) := (k7 3 (by decide)).trans g3_6
  have dd7 : a7.defers = [] := d7.trans dd6
  have r0 := (k7 20 (by decide)).trans r0
  have r1 := (k7 31 (by decide)).trans r1
  have r2 := (k7 42 (by decide)).trans r2
  have r3 := (k7 53 (by decide)).trans r3
  have r4 := (k7 64 (by decide)).trans r4
  have r5 := (k7 75 (by decide)).trans r5
  have r6 := (k7 86 (by decide)).trans r6
  clear k6 d6 g2_6 g3_6 s6 dd6
  refine ck_t1 Y _ _ _ _ w.heap.size s7 g2_7 g3_7 s.t1 t.t1 x8 y8 _ _ _ _ _ _ _ _ _ _ _ _ _ _ _ _ _ _ _ _ _ _ _ _ _ _ _ _ _ _ _ _ _ ?_
  intro a8 s8 d8 k8 r8
  have g2_8 : a8.eval (.tmp 2) = .pointer (some ⟨w.heap.size, 0, none⟩) := (k8 2 (by decide)).trans g2_7
  have g3_8 : a8.eval (.tmp 3) = .pointer (some ⟨w.heap.size + 1, 0, none⟩) := (k8 3 (by decide)).trans g3_7
  have dd8 : a8.defers = [] := d8.trans dd7
  have r0 := (k8 20 (by decide)).trans r0
  have r1 := (k8 31 (by decide)).trans r1
  have r2 := (k8 42 (by decide)).trans r2
  have r3 := (k8 53 (by decide)).trans r3
  have r4 := (k8 64 (by decide)).trans r4
  have r5 := (k8 75 (by decide)).trans r5
  have r6 := (k8 86 (by decide)).trans r6
  have r7 := (k8 97 (by decide)).trans r7
  clear k7 d7 g2_7 g3_7 s7 dd7
  refine wpStill_nil ?_
  have HV : Hid (orL [compareInt s.T t.T, compareInt s.I t.I, compareInt s.P t.P, compareBytes s.sv.data.toList t.sv.data.toList, compareBytes s.nm.data.toList t.nm.data.toList, compareInt s.kd t.kd, compareInt s.st t.st, compareInt s.t0 t.t0, compareInt s.t1 t.t1] = orL (fieldsL s t)) := rfl
  generalize compareInt s.T t.T = q0 at *
  generalize compareInt s.I t.I = q1 at *
  generalize compareInt s.P t.P = q2 at *
  generalize compareBytes s.sv.data.toList t.sv.data.toList = q3 at *
  generalize compareBytes s.nm.data.toList t.nm.data.toList = q4 at *
  generalize compareInt s.kd t.kd = q5 at *
  generalize compareInt s.st t.st = q6 at *
  generalize compareInt s.t0 t.t0 = q7 at *
  generalize compareInt s.t1 t.t1 = q8 at *
  clear x0 y0 x1 y1 x2 y2 x3 y3 x4 y4 x5 y5 x6 y6 x7 y7 x8 y8
  have hfl := frame_lit a8 s8 dd8
  obtain ⟨ev, hev⟩ : ∃ ev : Operand → Value, a8.eval = ev := ⟨_, rfl⟩
  rw [hev] at hfl g2_8 g3_8 r0 r1 r2 r3 r4 r5 r6 r7 r8
  rw [g2_8, g3_8, r0, r1, r2, r3, r4, r5, r6, r7, r8] at hfl
  rw [hfl]
  clear hfl hev g2_8 g3_8 r0 r1 r2 r3 r4 r5 r6 r7 r8 k8 d8 dd8 s8
  have R0 : RcR w s t A1 n1 c1 A2 n2 c2 l m r 0 (some ⟨Y.heap.size, 0, none⟩) 9 9 [q0, q1, q2, q3, q4, q5, q6, q7, q8] (Y.alloc (.cells #[.int .i64 q0, .int .i64 q1, .int .i64 q2, .int .i64 q3, .int .i64 q4, .int .i64 q5, .int .i64 q6, .int .i64 q7, .int .i64 q8] 3)) := by
    have hlt := k3.lt
    have ho := own_ints Y [q0, q1, q2, q3, q4, q5, q6, q7, q8] (by simp)
    refine ⟨k2.below (below_box _ _ (Nat.le_refl _)), k3.below (below_box _ _ (Nat.le_refl _)), ?_, b0.alloc b0.size _, by simp; omega, rfl, rfl, ?_⟩
    · exact own_low ho (by omega)
    · rw [un HV, List.drop_zero, List.drop_zero]
      exact un HRR
  clear k2 k3 b0 HV
  go_wp2
  go_loopw [5, 6] (fun v5 v6 wr => ∃ (k N : Nat) (A5 : Option Addr) (c5 : Nat) (L : List Int), v5 = .slice A5 N c5 ∧ v6 = .int .i64 k ∧ k ≤ n1 ∧ k ≤ n2 ∧ RcR w s t A1 n1 c1 A2 n2 c2 l m r k A5 N c5 L wr) (fun _ v _ => n1 - (intOf v).toNat)
  case atStart => exact ⟨0, 9, _, 9, _, rfl, rfl, Nat.zero_le _, Nat.zero_le _, R0⟩
  case round =>
    clear R0
    obtain ⟨k, N, A5, c5, L, rfl, rfl, hk1, hk2, R⟩ := hrel
    have x9 : wr.cell? ⟨w.heap.size, 9, none⟩ = some (.slice A1 n1 c1) := R.k2.cell 9
    have y9 : wr.cell? ⟨w.heap.size + 1, 9, none⟩ = some (.slice A2 n2 c2) := R.k3.cell 9
    by_cases hlt : k < n1 ∧ k < n2
    · have u1 : (k : Int) < (n1 : Int) := by omega
      have u2 : (k : Int) < (n2 : Int) := by omega
      have u3 : (0 : Int) ≤ (k : Int) := by omega
      have u4 : ((k : Int)).toNat = k := by omega
      have v1 : k < l.length := by omega
      have v2 : k < m.length := by omega
      obtain ⟨ad, p, rfl, hp, F⟩ := h1.get v1
      obtain ⟨bd, q, rfl, hq, G⟩ := h2.get v2
      have pl := World.block_lt_of_cell? _ _ F.c0
      have ql := World.block_lt_of_cell? _ _ G.c0
      have f0 : wr.drew.cell? p = _ := (R.bel.cell (p := p) pl).trans F.c0
      have f1 : wr.drew.cell? ⟨p.block, p.off + 1, none⟩ = _ := (R.bel.cell (p := ⟨p.block, p.off + 1, none⟩) pl).trans F.c1
      have f2 : wr.drew.cell? ⟨p.block, p.off + 2, none⟩ = _ := (R.bel.cell (p := ⟨p.block, p.off + 2, none⟩) pl).trans F.c2
      have f3 : wr.drew.cell? ⟨p.block, p.off + 3, none⟩ = _ := (R.bel.cell (p := ⟨p.block, p.off + 3, none⟩) pl).trans F.c3
      have g0 : wr.drew.cell? q = _ := (R.bel.cell (p := q) ql).trans G.c0
      have g1 : wr.drew.cell? ⟨q.block, q.off + 1, none⟩ = _ := (R.bel.cell (p := ⟨q.block, q.off + 1, none⟩) ql).trans G.c1
      have g2 : wr.drew.cell? ⟨q.block, q.off + 2, none⟩ = _ := (R.bel.cell (p := ⟨q.block, q.off + 2, none⟩) ql).trans G.c2
      have g3 : wr.drew.cell? ⟨q.block, q.off + 3, none⟩ = _ := (R.bel.cell (p := ⟨q.block, q.off + 3, none⟩) ql).trans G.c3
      have hv : (if orL L ≠ 0 then orL L else if cmpA l[k] m[k] ≠ 0 then cmpA l[k] m[k] else cmpL (l.drop (k + 1)) (m.drop (k + 1))) = r := by
        have := R.val
        rw [List.drop_eq_getElem_cons v1, List.drop_eq_getElem_cons v2] at this
        exact this
      have HJ := Lib.hid hv
      clear F G hv
      generalize l[k] = x at *
      generalize m[k] = y at *
      have kB : ∀ (o : Obj) (q : Addr) (v : Value), wr.drew.cell? q = some v → (wr.alloc o).drew.cell? q = some v := fun o q v h => by
        rw [((Below.refl _ _).alloc (Nat.le_refl _) o : Below wr.drew.heap.size wr.drew (wr.drew.alloc o)).cell (World.block_lt_of_cell? _ _ h) |> fun e => (show (wr.alloc o).drew.cell? q = wr.drew.cell? q from e)]
        exact h
      have kC : ∀ (o o' : Obj) (q : Addr) (v : Value), wr.drew.cell? q = some v → ((wr.alloc o).alloc o').drew.cell? q = some v := fun o o' q v h => by
        have h1 := kB o q v h
        rw [((Below.refl _ _).alloc (Nat.le_refl _) o' : Below (wr.alloc o).drew.heap.size (wr.alloc o).drew ((wr.alloc o).drew.alloc o')).cell (World.block_lt_of_cell? _ _ h1) |> fun e => (show ((wr.alloc o).alloc o').drew.cell? q = (wr.alloc o).drew.cell? q from e)]
        exact h1
      go_wp2_with fail
      replace x9 : wr.drew.cell? ⟨w.heap.size, 9, none⟩ = some (.slice (some ad) n1 c1) := x9
      replace y9 : wr.drew.cell? ⟨w.heap.size + 1, 9, none⟩ = some (.slice (some bd) n2 c2) := y9
      go_region_held3 (fun w' => w'.cell? ⟨w.heap.size, 9, none⟩ = some (.slice (some ad) n1 c1) ∧ w'.cell? ⟨w.heap.size + 1, 9, none⟩ = some (.slice (some bd) n2 c2) ∧ w'.cell? p = some (.string x.key) ∧ w'.cell? ⟨p.block, p.off + 1, none⟩ = some (.int .i64 x.K) ∧ w'.cell? ⟨p.block, p.off + 2, none⟩ = some (.int .i64 x.N) ∧ w'.cell? ⟨p.block, p.off + 3, none⟩ = some (.string x.S) ∧ w'.cell? q = some (.string y.key) ∧ w'.cell? ⟨q.block, q.off + 1, none⟩ = some (.int .i64 y.K) ∧ w'.cell? ⟨q.block, q.off + 2, none⟩ = some (.int .i64 y.N) ∧ w'.cell? ⟨q.block, q.off + 3, none⟩ = some (.string y.S))
        (first | exact ⟨x9, y9, f0, f1, f2, f3, g0, g1, g2, g3⟩ | exact ⟨kB _ _ _ x9, kB _ _ _ y9, kB _ _ _ f0, kB _ _ _ f1, kB _ _ _ f2, kB _ _ _ f3, kB _ _ _ g0, kB _ _ _ g1, kB _ _ _ g2, kB _ _ _ g3⟩ | exact ⟨kC _ _ _ _ x9, kC _ _ _ _ y9, kC _ _ _ _ f0, kC _ _ _ _ f1, kC _ _ _ _ f2, kC _ _ _ _ f3, kC _ _ _ _ g0, kC _ _ _ _ g1, kC _ _ _ _ g2, kC _ _ _ _ g3⟩ | go_keep)
        (fail)
      all_goals (
        first
          | (change Exit.then _ _ _ _ ((wr.alloc (abox 81 x)).alloc (abox 81 y)).drew
             have T1 : TwoAt ((wr.alloc (abox 81 x)).alloc (abox 81 y)).drew wr.heap.size (wr.heap.size + 1) x y := Two.new wr _ x y
             have B1 : Below wr.heap.size wr ((wr.alloc (abox 81 x)).alloc (abox 81 y)).drew := by go_grown
             have OBL : ∀ b, (Value.slice A5 N c5).ownBlock = some b → b < wr.heap.size ∧ b < (wr.heap.size + 1) := fun b hb => by have := (R.own.lt b hb).2; omega
             have RW := R.below B1
             generalize ((wr.alloc (abox 81 x)).alloc (abox 81 y)).drew = W at T1 B1 RW ⊢
             generalize wr.heap.size + 1 = gy at T1 OBL ⊢
             generalize wr.heap.size = gx at T1 OBL ⊢
             clear B1)
          | (change Exit.then _ _ _ _ ((wr.alloc (abox 81 y)).alloc (abox 81 x)).drew
             have T1 : TwoAt ((wr.alloc (abox 81 y)).alloc (abox 81 x)).drew (wr.heap.size + 1) wr.heap.size x y := (by have h := Two.new wr 81 y x; exact ⟨h.2.2.2.2.1, h.2.2.2.2.2.1, h.2.2.2.2.2.2.1, h.2.2.2.2.2.2.2, h.1, h.2.1, h.2.2.1, h.2.2.2.1⟩)
             have B1 : Below wr.heap.size wr ((wr.alloc (abox 81 y)).alloc (abox 81 x)).drew := by go_grown
             have OBL : ∀ b, (Value.slice A5 N c5).ownBlock = some b → b < (wr.heap.size + 1) ∧ b < wr.heap.size := fun b hb => by have := (R.own.lt b hb).2; omega
             have RW := R.below B1
             generalize ((wr.alloc (abox 81 y)).alloc (abox 81 x)).drew = W at T1 B1 RW ⊢
             generalize wr.heap.size + 1 = gx at T1 OBL ⊢
             generalize wr.heap.size = gy at T1 OBL ⊢
             clear B1)
        have T0 : TwoAt W.drew _ _ x y := T1
        have RD : RcR w s t (some ad) n1 c1 (some bd) n2 c2 l m r k A5 N c5 L W.drew := RW.below ⟨rfl, rfl, rfl, Nat.le_refl _, fun _ _ => rfl⟩
        have hc1 : ∀ V, Calls Tryz.prog 56 #[.bool (Op.bytesLess x.key.toList y.key.toList), .bool (x.key.toList == y.key.toList)] V fun e w' => e = .returned (.int .i64 (cf x y)) ∧ w' = V := fun V => ords_any x.key y.key V
        have hc2 : ∀ V, Calls Tryz.prog 57 #[vl x.K x.N x.S, vl y.K y.N y.S] V fun e w' => e = .returned (.int .i64 (cmpV x.K x.N x.S y.K y.N y.S)) ∧ Below V.heap.size V w' := fun V => refcompare_any _ _ _ _ _ _ V
        have HJ2 : Hid ((if orL L ≠ 0 then orL L else if orL [cf x y, cmpV x.K x.N x.S y.K y.N y.S] ≠ 0 then orL [cf x y, cmpV x.K x.N x.S y.K y.N y.S] else cmpL (l.drop (k + 1)) (m.drop (k + 1))) = r) := HJ
        generalize cf x y = e1 at hc1 HJ2
        generalize cmpV x.K x.N x.S y.K y.N y.S = e2 at hc2 HJ2
        have hNN := R.nth
        have d1 : N + 2 ≤ maxLen := by unfold maxLen; omega
        have d2 : (N + 2) * 8 ≤ 140737488355328 := by omega
        have HNN := Lib.hid hNN
        clear hNN HJ kB kC x9 y9 f0 f1 f2 f3 g0 g1 g2 g3 R T1 RW hp hq pl ql
        go_wp2_with fail
        have bl2 : ∀ (w2 : World), Below W.drew.heap.size W.drew w2 → (w2.alloc (.cells #[.int .i64 e1, .int .i64 e2] 3)).ownsRow (w.heap.size + 1 + 1) 3 1 (.slice A5 N c5) N (ic L) := fun w2 hb => (own_below RD.own hb).alloc _
        have bl3 : ∀ (w2 : World), Rd 1 (w2.alloc (.cells #[.int .i64 e1, .int .i64 e2] 3)) (some ⟨w2.heap.size, 0, none⟩) 2 2 (ic [e1, e2]) := fun w2 => Rd.ints w2 [e1, e2] (by simp)
        have bl4 : ∀ (w2 : World), Below W.drew.heap.size W.drew w2 → w.heap.size + 1 + 1 ≤ (w2.alloc (.cells #[.int .i64 e1, .int .i64 e2] 3)).heap.size := fun w2 hb => by have := RD.lt; have := hb.size; simp; omega
        have bl5 : ∀ (w2 w6 : World), TwoAt w2 gx gy x y → (w2.alloc (.cells #[.int .i64 e1, .int .i64 e2] 3)).grownBy w6 (Value.slice A5 N c5).ownBlock → TwoAt w6 gx gy x y := fun w2 w6 hT hg => by
          refine (hT.below (below_box _ (.cells #[.int .i64 e1, .int .i64 e2] 3) (Nat.le_refl _))).keep fun p v hp hv => ?_
          rw [World.cell?_of_block (hg.block _ (World.block_lt_of_cell? _ _ hv) (fun e => by have := OBL _ e.symm; omega))]
          exact hv
        have bl6 : ∀ (w2 w6 : World) (A6 : Option Addr) (c6 : Nat), Below W.drew.heap.size W.drew w2 → (w2.alloc (.cells #[.int .i64 e1, .int .i64 e2] 3)).grownBy w6 (Value.slice A5 N c5).ownBlock → w6.ownsRow (w.heap.size + 1 + 1) 3 1 (.slice A6 (N + 2) c6) (N + 2) (ic L ++ ic [e1, e2]) → RcR w s t (some ad) n1 c1 (some bd) n2 c2 l m r (k + 1) A6 (N + 2) c6 (L ++ [e1, e2]) w6 := fun w2 w6 A6 c6 hb hg ho => by
          have R2 := (RD.below hb).below (below_box w2 (.cells #[.int .i64 e1, .int .i64 e2] 3) (Nat.le_refl _))
          have hk : ∀ (g : Nat) (t : TypeId) (cs : Array Value), g < w.heap.size + 1 + 1 → Bk (w2.alloc (.cells #[.int .i64 e1, .int .i64 e2] 3)) g t cs → Bk w6 g t cs := fun g t cs hlt hB => by
            unfold Bk at *
            rw [hg.block g (Array.getElem?_eq_some_iff.1 hB).1 (fun e => by have := (R2.own.lt g e.symm).1; omega)]
            exact hB
          refine ⟨hk _ _ _ (by omega) R2.k2, hk _ _ _ (by omega) R2.k3, by rw [ic_app]; exact ho, R2.bel.grown hg R2.bel.size fun j hj => by have := (R2.own.lt j hj).1; omega, Nat.le_trans R2.lt hg.size, by simp [RD.len], by have := un HNN; omega, ?_⟩
          have hv := un HJ2
          rw [orL_app]
          by_cases h0 : orL L = 0
          · simp only [h0, ne_eq, not_true_eq_false, if_false] at hv ⊢
            exact hv
          · simp only [h0, ne_eq, not_false_eq_true, if_true] at hv ⊢
            exact hv
        have BL2 : Aside _ := bl2
        have BL3 : Aside _ := bl3
        have BL4 : Aside _ := bl4
        have BL5 : Aside _ := bl5
        have BL6 : Aside _ := bl6
        clear bl2 bl3 bl4 bl5 bl6 RD HJ2 HNN OBL
        go_region_held3 (fun w' => w'.cell? ⟨gx, 0, none⟩ = some (.string x.key) ∧ w'.cell? ⟨gx, 1, none⟩ = some (.int .i64 x.K) ∧ w'.cell? ⟨gx, 2, none⟩ = some (.int .i64 x.N) ∧ w'.cell? ⟨gx, 3, none⟩ = some (.string x.S) ∧ w'.cell? ⟨gy, 0, none⟩ = some (.string y.key) ∧ w'.cell? ⟨gy, 1, none⟩ = some (.int .i64 y.K) ∧ w'.cell? ⟨gy, 2, none⟩ = some (.int .i64 y.N) ∧ w'.cell? ⟨gy, 3, none⟩ = some (.string y.S))
          (first | exact T6 | exact T2 | exact T2.below (below_box _ _ (Nat.le_refl _)) | exact T0 | go_keep)
          (first
            | (go_at_call 56; (with_reducible refine (hc1 _).mono ?_); rintro e w1 ⟨rfl, rfl⟩)
            | (go_at_call 57; (with_reducible refine (hc2 _).mono ?_); rintro e w2 ⟨rfl, hb2⟩; have T2 := T0.below hb2)
            | (refine step_append_rd rfl (.tmp 134) (.tmp 151) 119 rfl (w.heap.size + 1 + 1) 3 i0 _ 1 8 Tryz.underlying119 hi hz0 hz1 hz2 rfl (Nat.succ_pos 0) (.slice A5 N c5) N (ic L) rfl (BL2.out w2 hb2) (some ⟨w2.heap.size, 0, none⟩) 2 2 (ic [e1, e2]) rfl (BL3.out w2) (ic_one _) d1 d2 (BL4.out w2 hb2) ?_; intro A6 c6 w6 hown6 hg6; have T6 := BL5.out w2 w6 T2 hg6))
        all_goals (
          have R6 := BL6.out w2 w6 A6 c6 hb2 hg6 hown6
          clear hg6 hown6 T2 T6 T0 hb2 BL2 BL3 BL4 BL5 BL6 hc1 hc2
          go_wp2
          go_roundw
          case rel => exact ⟨k + 1, N + 2, A6, c6, _, rfl, by go_num, by omega, by omega, R6⟩
          case measure => simp [intOf]; omega))
    · have hv : orL (L ++ [compareInt (n1 : Int) (n2 : Int)]) = r := by
        have h0 := R.val
        have hc : cmpL (l.drop k) (m.drop k) = compareInt (n1 : Int) (n2 : Int) := by
          rcases Nat.lt_trichotomy n1 n2 with h | h | h
          · have e1 : l.drop k = [] := List.drop_of_length_le (by omega)
            obtain ⟨y, z, e2⟩ : ∃ y z, m.drop k = y :: z := by
              cases hd : m.drop k with
              | nil => have := congrArg List.length hd; simp at this; omega
              | cons y z => exact ⟨y, z, rfl⟩
            rw [e1, e2, cmpL, compareInt, if_pos (by omega)]
          · have e1 : l.drop k = [] := List.drop_of_length_le (by omega)
            have e2 : m.drop k = [] := List.drop_of_length_le (by omega)
            rw [e1, e2, cmpL, compareInt, if_neg (by omega), if_neg (by omega)]
          · have e2 : m.drop k = [] := List.drop_of_length_le (by omega)
            obtain ⟨y, z, e1⟩ : ∃ y z, l.drop k = y :: z := by
              cases hd : l.drop k with
              | nil => have := congrArg List.length hd; simp at this; omega
              | cons y z => exact ⟨y, z, rfl⟩
            rw [e1, e2, cmpL, compareInt, if_neg (by omega), if_pos (by omega)]
        rw [hc] at h0
        rw [orL_app]
        simp only [orL] at h0 ⊢
        by_cases hL : orL L = 0
        · simp only [hL, ne_eq, not_true_eq_false, if_false] at h0 ⊢
          rw [← h0]
          split
          · rfl
          · rename_i h; simp only [Classical.not_not] at h; exact h.symm
        · simp only [hL, ne_eq, not_false_eq_true, if_true] at h0 ⊢
          exact h0
      have HV2 := Lib.hid hv
      have hown := R.own
      have hNl := R.len
      have hNN := R.nth
      have bel := R.bel
      have hlt2 := R.lt
      have d1 : N + 1 ≤ maxLen := by unfold maxLen; omega
      have d2 : (N + 1) * 8 ≤ 140737488355328 := by omega
      have hbase : w.heap.size + 1 + 1 ≤ wr.heap.size := hlt2
      have hM : N + 1 ≤ 1000 := by omega
      have HLn : Hid ((L ++ [compareInt (n1 : Int) (n2 : Int)]).length = N + 1) := by show _ = _; simp [hNl]
      have hcO : ∀ V, Calls Tryz.prog 56 #[.bool (decide (n1 < n2)), .bool ((n1 : Int) == (n2 : Int))] V fun e w' => e = .returned (.int .i64 (compareInt (n1 : Int) (n2 : Int))) ∧ w' = V := fun V => by
        have h := ordi_any (n1 : Int) (n2 : Int) V
        rw [show (decide ((n1 : Int) < (n2 : Int))) = decide (n1 < n2) by simp] at h
        exact h
      generalize compareInt (n1 : Int) (n2 : Int) = z at *
      clear hv hNl hNN R hn1 hn2 h1 h2
      rcases (by omega : ¬ (k : Int) < (n1 : Int) ∨ ((k : Int) < (n1 : Int) ∧ ¬ (k : Int) < (n2 : Int))) with u1 | ⟨u1, u2⟩
      all_goals (
        clear hlt
        go_wp2_with fail
        refine (hcO _).mono ?_
        rintro e w1 ⟨rfl, rfl⟩
        go_wp2_with (at_builtin; refine wpList_append_one w1 rfl (.tmp 153) (.tmp 169) 119 rfl (w.heap.size + 1 + 1) 3 i0 _ 8 Tryz.underlying119 hi hz0 hz1 hz2 rfl (.slice A5 N c5) N (ic L) rfl hown (.int .i64 z) rfl rfl d1 d2 hbase ?_)
        intro A7 c7 w7 hown7 hb7
        have hrd : Rd 1 w7 A7 (N + 1) c7 (ic (L ++ [z])) := by rw [ic_app]; exact Rd.own hown7
        have b7 : Below w.heap.size w w7 := bel.trans (hb7.mono (by omega))
        clear hown7 hb7 hown x9 y9 hcO d1 d2
        go_wp2
        go_loopw [9] (fun v wr2 => ∃ i : Nat, v = .int .i64 i ∧ i ≤ N + 1 ∧ wr2 = w7 ∧ Hid (orL ((L ++ [z]).drop i) = r)) (fun v _ => N + 1 - (intOf v).toNat)
        case atStart => exact ⟨0, rfl, Nat.zero_le _, rfl, HV2⟩
        case round =>
          obtain ⟨i, rfl, hik, rfl, HI⟩ := hrel
          by_cases hil : i < N + 1
          · have hlz : (i : Int) < ((N + 1 : Nat) : Int) := by omega
            have hlz' : (i : Int) < (N : Int) + 1 := by omega
            have hl2 : i < (L ++ [z]).length := by rw [un HLn]; exact hil
            obtain ⟨ad7, uu, rfl, hu, hc7⟩ := Rd.get hrd hil
            have hu2 : uu = .int .i64 (L ++ [z])[i] := by
              simp only [ic, List.getElem?_map, List.getElem?_eq_getElem hl2, Option.map_some, Option.some.injEq] at hu
              exact hu.symm
            subst hu2
            have hI := un HI
            rw [List.drop_eq_getElem_cons hl2] at hI
            unfold orL at hI
            have HJ3 := Lib.hid hI
            clear hI HI hu
            generalize (L ++ [z])[i] = xx at *
            by_cases hxx : xx = 0
            · subst hxx
              go_wp2
              go_roundw
              case rel => exact ⟨i + 1, by go_num, by omega, by first | rfl | trivial, Lib.hid (by have := un HJ3; simpa using this)⟩
              case measure => simp [intOf]; omega
            · have hb0 : (xx == 0) = false := beq_false_of_ne hxx
              go_wp2
              go_ret
              refine ⟨?_, b7⟩
              rw [← un HJ3, if_pos hxx]
              rfl
          · have hlz : ¬ ((i : Int) < ((N + 1 : Nat) : Int)) := by omega
            have hlz' : ¬ ((i : Int) < (N : Int) + 1) := by omega
            go_wp2
            go_ret
            refine ⟨?_, b7⟩
            rw [← un HI, List.drop_of_length_le (by rw [un HLn]; omega)]
            rfl)
end Go.Proofs.YtdmibolbpgondaaGreat.P06
