/-
  put and drop of the items.
  The queue: New, all, Put, Drop, At, First, Len.
-/
import Derived.Test.YtdmibolbpgondaaGreatKU12Pop
section
set_option linter.unusedSimpArgs false
set_option linter.unusedVariables false
namespace Go.Proofs.YtdmibolbpgondaaGreat.U12
open Go.RowKit Go.Lib Go.Maps Go.Proofs.YtdmibolbpgondaaGreat.Wd

section
variable {w0 w w' : World} {p c b N M : Nat} {A : Option Addr} {K0 K : Nat → It} {D : DataW Unit}
/-- the items of a queue that has m -/
def Ob (w : World) (p : Nat) (o : List Nat) (m : List It) : Prop := ∃ A c b N K D, Im w p A c b N K D ∧ Pl D K N ∧ Hp K N ∧ Has K N m ∧ o = own p A b
variable {o : List Nat} {m : List It}
theorem Ob.lt (h : Ob w p o m) : ∀ x ∈ o, x < w.heap.size := by
  obtain ⟨A, c, b, N, K, D, h, _, _, _, rfl⟩ := h
  exact h.lt
theorem Ob.fr {o' : List Nat} (h : Ob w p o m) (f : Fr o' w w') (hd : ∀ x ∈ o, x ∉ o') : Ob w' p o m := by
  obtain ⟨A, c, b, N, K, D, h, h1, h2, h3, rfl⟩ := h
  exact ⟨A, c, b, N, K, D, h.fr f hd, h1, h2, h3, rfl⟩
theorem Ob.below (h : Ob w p o m) (hb : Below w.heap.size w w') : Ob w' p o m := h.fr (Fr.of_below [] hb) (fun _ _ hx => by cases hx)
theorem Ob.few (h : Ob w p o m) : m.length ≤ 1000 := by
  obtain ⟨A, c, b, N, K, D, h, h1, h2, h3, rfl⟩ := h
  rw [h3.len]
  exact h.few
theorem Ob.sorted (h : Ob w p o m) : m.Pairwise Lt := by
  obtain ⟨A, c, b, N, K, D, h, h1, h2, h3, rfl⟩ := h
  exact h3.sorted
theorem Ob.nodup (h : Ob w p o m) : (m.map (·.1)).Nodup := by
  obtain ⟨A, c, b, N, K, D, h, h1, h2, h3, rfl⟩ := h
  exact h3.nodup
theorem Ob.num (h : Ob w p o m) : ∀ x ∈ m, (x.1 : Int) ≤ 18446744073709551615 ∧ (x.2 : Int) ≤ 18446744073709551615 := by
  obtain ⟨A, c, b, N, K, D, h, h1, h2, h3, rfl⟩ := h
  intro x hx
  obtain ⟨i, hi, rfl⟩ := h3.mem.1 hx
  exact h.num i hi
set_option maxRecDepth 20000 in
/-- what 'i, there := l.places[id]' tells -/
theorem look_in (h : Im w p A c b N K D) (hP : Pl D K N) {i : Nat} (hi : i < N) :
    (Instr.lookup 136 (.map (some b)) (.int .u64 ((K i).1 : Int)) true).run Tryz.prog w = .ok (.tuple #[.int .i64 (i : Int), .bool true]) w := by
  obtain ⟨v, ps, hrun, hv⟩ := h.map.look_ok law Tryz.underlying136 (zero_int w) (plainElem_int Tryz.underlying3 (by decide)) (key_ok (h.num i hi).1)
  obtain ⟨q, rfl, hq, _⟩ := plainElem_int_inv Tryz.underlying3 hv
  have hq' := congrArg Prod.fst hq
  have e : U12.num i = .lit (.int .i64 q) := (hP.at_ i hi).symm.trans hq'
  unfold U12.num at e
  injection e with e
  injection e with _ e
  rw [(hP.has _).2 ⟨i, hi, rfl⟩, ← e] at hrun
  exact hrun
theorem look_out (h : Im w p A c b N K D) (hP : Pl D K N) {x : Nat} (hx : (x : Int) ≤ 18446744073709551615) (ho : ∀ i, i < N → (K i).1 ≠ x) :
    ∃ q : Int, (Instr.lookup 136 (.map (some b)) (.int .u64 (x : Int)) true).run Tryz.prog w = .ok (.tuple #[.int .i64 q, .bool false]) w := by
  obtain ⟨v, ps, hrun, hv⟩ := h.map.look_ok law Tryz.underlying136 (zero_int w) (plainElem_int Tryz.underlying3 (by decide)) (key_ok hx)
  obtain ⟨q, rfl, _, _⟩ := plainElem_int_inv Tryz.underlying3 hv
  have hh : Maps.has D (ik x) = false := by
    cases hb : Maps.has D (ik x)
    · rfl
    · obtain ⟨i, hi, e⟩ := (hP.has _).1 hb
      exact absurd e (ho i hi)
  rw [hh] at hrun
  exact ⟨q, hrun⟩
/-- what put leaves -/
def PtOut (w : World) (p : Nat) (o : List Nat) (m : List It) (r : Bool) (e : Ending) (w' : World) : Prop := e = .returned (.bool r) ∧ ∃ o', Ob w' p o' m ∧ Fr o w w' ∧ Sub w o' o
set_option maxRecDepth 20000 in
set_option maxHeartbeats 1000000 in
theorem iput_new (x : It) (h : Ob w p o m) (hx : (x.1 : Int) ≤ 18446744073709551615 ∧ (x.2 : Int) ≤ 18446744073709551615) (hN : m.length + 1 ≤ 1000) (hf : ∀ y ∈ m, y.1 ≠ x.1) :
    Calls Tryz.prog 90 #[.pointer (some ⟨p, 0, none⟩), .agg #[.int .u64 (x.1 : Int), .int .u64 (x.2 : Int)]] w (PtOut w p o (putm m x) true) := by
  obtain ⟨A, c, b, N, K, D, h, hP, hH, hM, rfl⟩ := h
  have hf2 : ∀ i, i < N → (K i).1 ≠ x.1 := fun i hi => hf (K i) (hM.mem.2 ⟨i, hi, rfl⟩)
  have b1 : Below w.heap.size w (w.alloc (bx x)) := (Below.refl _ _).alloc (Nat.le_refl _) _
  have b2 := b1.drew
  obtain ⟨x0, x1⟩ := cell_bx w x
  have y0 : (w.alloc (bx x)).drew.cell? ⟨w.heap.size, 0, none⟩ = some (.int .u64 (x.1 : Int)) := x0
  have y1 : (w.alloc (bx x)).drew.cell? ⟨w.heap.size, 1, none⟩ = some (.int .u64 (x.2 : Int)) := x1
  obtain ⟨q, hk⟩ := look_out (h.below b2) hP hx.1 hf2
  have hpu := hpush_at x (h.below b2) hP hM.nd hH hx hf2 (by rw [← hM.len]; exact hN)
  have c1 := (h.below b1).c1
  have HM := Lib.hid (show ∀ K', (row K' (N + 1)).Perm (row (up1 K N x) (N + 1)) → Has K' (N + 1) (putm m x) from fun K' hp => hM.push hf2 hp)
  have HB := Lib.hid b2
  have hk2 : ∀ q : Int, True := fun _ => trivial
  clear h hP hH hM hf hf2 b1 b2 hk2
  unfold bx at *
  go_enter Tryz.func90, Tryz.ntmps90
  go_wp2_with fail
  generalize w.alloc (.cells #[.int .u64 (x.1 : Int), .int .u64 (x.2 : Int)] 132) = V at *
  go_region
  clear hk c1
  generalize V.drew = V1 at *
  go_wp2_with fail
  refine hpu.mono ?_
  rintro e w2 ⟨rfl, A', c', K', D', h2, hP2, hH2, hpm, hF, hS⟩
  have hq := Lib.hid (show PtOut w p (own p A b) (putm m x) true (.returned (.bool true)) w2 from
    ⟨rfl, own p A' b, ⟨A', c', b, N + 1, K', D', h2, hP2, hH2, HM.out K' hpm, rfl⟩, (Fr.of_below _ HB.out).then hF, (Sub.refl w _).trans hS HB.out.size⟩)
  clear hpu h2 hP2 hH2 hpm hF hS y0 y1 x0 x1
  go_wp2
  go_returns
  exact hq.out
set_option maxRecDepth 20000 in
set_option maxHeartbeats 2000000 in
theorem iput_set (x : It) (h : Ob w p o m) (hx : (x.1 : Int) ≤ 18446744073709551615 ∧ (x.2 : Int) ≤ 18446744073709551615) (hf : ∃ y ∈ m, y.1 = x.1) :
    Calls Tryz.prog 90 #[.pointer (some ⟨p, 0, none⟩), .agg #[.int .u64 (x.1 : Int), .int .u64 (x.2 : Int)]] w (PtOut w p o (putm m x) false) := by
  obtain ⟨A, c, b, N, K, D, h, hP, hH, hM, rfl⟩ := h
  obtain ⟨i, hi, he⟩ : ∃ i, i < N ∧ (K i).1 = x.1 := by
    obtain ⟨y, hy, e⟩ := hf
    obtain ⟨i, hi, rfl⟩ := hM.mem.1 hy
    exact ⟨i, hi, e⟩
  have b1 : Below w.heap.size w (w.alloc (bx x)) := (Below.refl _ _).alloc (Nat.le_refl _) _
  have b2 := b1.drew
  obtain ⟨x0, x1⟩ := cell_bx w x
  have y0 : (w.alloc (bx x)).drew.cell? ⟨w.heap.size, 0, none⟩ = some (.int .u64 (x.1 : Int)) := x0
  have y1 : (w.alloc (bx x)).drew.cell? ⟨w.heap.size, 1, none⟩ = some (.int .u64 (x.2 : Int)) := x1
  have hN := h.few
  have h2 := h.below b2
  have hk := look_in h2 hP hi
  rw [he] at hk
  have c1 := (h.below b1).c1
  have d0 := h2.c0
  obtain ⟨g, rfl, i0, i1, hz, hc, hm⟩ := h2.get hi
  have z0 := hz (i * 2)
  have z1 := hz (i * 2 + 1)
  obtain ⟨h3, F3⟩ := h2.set hi hx
  have hP3 := hP.set (x := x) hi he
  have hD3 : DnI (up1 K i x) N i := hH.dn (Nat.le_refl _) hi fun k _ hki => up1_other K x hki
  have hn3 : Nd (up1 K i x) N := fun a b ha hb e => by
    have hid : ∀ k, (up1 K i x k).1 = (K k).1 := fun k => by
      by_cases e : k = i
      · subst e; rw [up1_same, he]
      · rw [up1_other K x e]
    rw [hid, hid] at e
    exact hM.nd a b ha hb e
  have HM := Lib.hid (show ∀ K', (row K' N).Perm (row (up1 K i x) N) → Has K' N (putm m x) from fun K' hp => hM.set hi he hp)
  have HB := Lib.hid b2
  have y2 : (0 : Int) ≤ (i : Int) := by omega
  have y3 : ((i : Int)).toNat = i := by omega
  unfold iput at h3 F3
  have H3 := Lib.hid h3
  have G3 := Lib.hid F3
  have HP3 := Lib.hid hP3
  have HD3 := Lib.hid hD3
  have HN3 := Lib.hid hn3
  clear h hP hH hM hf b1 b2 h2 hz h3 F3 hP3 hD3 hn3 he
  unfold bx at *
  generalize up1 K i x = L at *
  generalize K i = z at *
  go_enter Tryz.func90, Tryz.ntmps90
  go_wp2_with fail
  generalize w.alloc (.cells #[.int .u64 (x.1 : Int), .int .u64 (x.2 : Int)] 132) = V at *
  go_region
  clear hk c1 x0 x1
  generalize V.drew = V1 at *
  go_wp2_with fail
  go_region
  obtain ⟨V2, hV⟩ : ∃ V2, ((V1.setCell ⟨g, i * 2, none⟩ (.int .u64 (x.1 : Int))).setCell ⟨g, i * 2 + 1, none⟩ (.int .u64 (x.2 : Int))).drew = V2 := ⟨_, rfl⟩
  rw [hV]
  have A1 : Im V2 p (some ⟨g, 0, none⟩) c b N L D := hV ▸ (H3.out).below (drew_below _)
  have G1 : Fr (own p (some ⟨g, 0, none⟩) b) V1 V2 := hV ▸ ⟨G3.out.os, G3.out.tape, G3.out.output, G3.out.size, G3.out.block⟩
  clear hV H3 G3 d0 i0 i1 z0 z1 y0 y1
  have hfx := fix_at i A1 HP3.out HN3.out hi HD3.out
  clear A1
  go_wp2_with fail
  refine hfx.mono ?_
  rintro e w3 ⟨rfl, K2, hS, hH2⟩
  obtain ⟨D2, h4, hP4⟩ := hS.im
  have hq := Lib.hid (show PtOut w p (own p (some ⟨g, 0, none⟩) b) (putm m x) false (.returned (.bool false)) w3 from
    ⟨rfl, own p (some ⟨g, 0, none⟩) b, ⟨_, c, b, N, K2, D2, h4, hP4, hH2, HM.out K2 hS.perm, rfl⟩, ((Fr.of_below _ HB.out).then G1).then hS.fr, Sub.refl w _⟩)
  clear hfx h4 hP4 hS hH2 G1
  go_wp2
  go_returns
  exact hq.out
set_option maxRecDepth 20000 in
set_option maxHeartbeats 2000000 in
theorem idrop_in (x : Nat) (h : Ob w p o m) (hx : (x : Int) ≤ 18446744073709551615) (hf : ∃ y ∈ m, y.1 = x) :
    Calls Tryz.prog 79 #[.pointer (some ⟨p, 0, none⟩), .int .u64 (x : Int)] w (PtOut w p o (dropm m x) true) := by
  obtain ⟨A, c, b, N, K, D, h, hP, hH, hM, rfl⟩ := h
  obtain ⟨i, hi, he⟩ : ∃ i, i < N ∧ (K i).1 = x := by
    obtain ⟨y, hy, e⟩ := hf
    obtain ⟨i, hi, rfl⟩ := hM.mem.1 hy
    exact ⟨i, hi, e⟩
  obtain ⟨M, rfl⟩ : ∃ M, N = M + 1 := ⟨N - 1, by omega⟩
  have hN := h.few
  have hk := look_in h hP hi
  have c1 := h.c1
  have hrm := remove_at i h hP hM.nd hH hi
  have hnd := hM.nd
  have HM := Lib.hid (show ∀ K', (row K' (M + 1)).Perm (row K (M + 1)) → K' M = K i → Has K' M (dropm m x) from fun K' hp hl => he ▸ hM.pop hi rfl hp hl)
  have hb1 := (h.num i hi)
  have has := fun v W => asItem v W
  rw [he] at hk
  unfold RmOut at hrm
  obtain ⟨z, hz⟩ : ∃ z, K i = z := ⟨_, rfl⟩
  have HND := Lib.hid (show ∀ K', (row K' (M + 1)).Perm (row K (M + 1)) → Nd K' (M + 1) from fun K' hp => hnd.perm hp)
  rw [hz] at hrm he hb1 HM
  rw [he] at hrm
  have HE := Lib.hid he
  have y2 : (0 : Int) ≤ (i : Int) := by omega
  have y3 : ((i : Int)).toNat = i := by omega
  clear h hP hH hM hf hnd hz he
  go_enter Tryz.func79, Tryz.ntmps79
  go_wp2_with fail
  refine hrm.mono ?_
  rintro e w1 ⟨rfl, K1, D1, h1, hP1, hH1, hpm, hl, hF1⟩
  have b1 : Below w1.heap.size w1 (w1.alloc (.cells #[.int .u64 (x : Int), .int .u64 (z.2 : Int)] 132)) := (Below.refl _ _).alloc (Nat.le_refl _) _
  have d1 := (h1.below b1).c1
  have h2 := h1.below b1.drew
  obtain ⟨w3, hdel, hown, hturn⟩ := h2.map.drop law Tryz.underlying136 (key_ok (x := x) hx) 0
  obtain ⟨h3, F3⟩ := h2.turn hown hturn.grown
  have hP3 := hP1.pop (HND.out K1 hpm)
  rw [hl, HE.out] at hP3
  have hq := Lib.hid (show PtOut w p (own p A b) (dropm m x) true (.returned (.bool true)) w3 from
    ⟨rfl, own p A b, ⟨A, c, b, M, K1, _, h3, hP3, hH1, HM.out K1 hpm hl, rfl⟩, (hF1.then (Fr.of_below _ b1.drew)).then F3, Sub.refl w _⟩)
  clear hrm hk c1 h1 h2 h3 F3 hP1 hP3 hH1 hpm hl hF1 hown hturn b1 HE
  go_wp2_with fail
  go_region
  clear hdel
  go_wp2
  go_returns
  exact hq.out
set_option maxRecDepth 20000 in
theorem idrop_out (x : Nat) (h : Ob w p o m) (hx : (x : Int) ≤ 18446744073709551615) (hf : ∀ y ∈ m, y.1 ≠ x) :
    Calls Tryz.prog 79 #[.pointer (some ⟨p, 0, none⟩), .int .u64 (x : Int)] w fun e w' => e = .returned (.bool false) ∧ w = w' := by
  obtain ⟨A, c, b, N, K, D, h, hP, hH, hM, rfl⟩ := h
  obtain ⟨q, hk⟩ := look_out h hP hx (fun i hi => hf (K i) (hM.mem.2 ⟨i, hi, rfl⟩))
  have c1 := h.c1
  clear h hP hH hM hf
  go_enter Tryz.func79, Tryz.ntmps79
  go_wp2
  go_returns
  exact ⟨rfl, rfl⟩
end
end Go.Proofs.YtdmibolbpgondaaGreat.U12
end

section
set_option linter.unusedSimpArgs false
set_option linter.unusedVariables false
namespace Go.Proofs.YtdmibolbpgondaaGreat.U12
open Go.RowKit Go.Lib Go.Maps Go.Proofs.YtdmibolbpgondaaGreat.Wd

/-- block q is a queue that has m; its blocks are o -/
structure Qp (w : World) (q p : Nat) (o : List Nat) (m : List It) : Prop where
  c : w.cell? ⟨q, 0, none⟩ = some (.pointer (some ⟨p, 0, none⟩))
  f : w.frozen? ⟨q, 0, none⟩ = false
  ob : Ob w p o m
  out : q ∉ o
def Qu (w : World) (q : Nat) (o : List Nat) (m : List It) : Prop := ∃ p o', Qp w q p o' m ∧ o = q :: o'
section
variable {w w' : World} {q p : Nat} {o : List Nat} {m : List It}
theorem Qp.fr {o' : List Nat} (h : Qp w q p o m) (f : Fr o' w w') (hd : ∀ x ∈ q :: o, x ∉ o') : Qp w' q p o m := by
  have hq := f.block q (World.block_lt_of_cell? _ _ h.c) (hd q (List.mem_cons_self ..))
  exact ⟨(World.cell?_of_block (a := ⟨q, 0, none⟩) hq).trans h.c, (World.frozen?_of_block (a := ⟨q, 0, none⟩) hq).trans h.f, h.ob.fr f fun x hx => hd x (List.mem_cons_of_mem _ hx), h.out⟩
theorem Qu.fr {o' : List Nat} (h : Qu w q o m) (f : Fr o' w w') (hd : ∀ x ∈ o, x ∉ o') : Qu w' q o m := by
  obtain ⟨p, o1, h, rfl⟩ := h
  exact ⟨p, o1, h.fr f hd, rfl⟩
theorem Qu.below (h : Qu w q o m) (hb : Below w.heap.size w w') : Qu w' q o m := h.fr (Fr.of_below [] hb) (fun _ _ hx => by cases hx)
theorem Qu.lt (h : Qu w q o m) : ∀ x ∈ o, x < w.heap.size := by
  obtain ⟨p, o1, h, rfl⟩ := h
  intro x hx
  rcases List.mem_cons.1 hx with rfl | hx
  · exact World.block_lt_of_cell? _ _ h.c
  · exact h.ob.lt x hx
theorem Qu.sorted (h : Qu w q o m) : m.Pairwise Lt := by obtain ⟨p, o1, h, rfl⟩ := h; exact h.ob.sorted
theorem Qu.nodup (h : Qu w q o m) : (m.map (·.1)).Nodup := by obtain ⟨p, o1, h, rfl⟩ := h; exact h.ob.nodup
theorem Qu.few (h : Qu w q o m) : m.length ≤ 1000 := by obtain ⟨p, o1, h, rfl⟩ := h; exact h.ob.few
theorem Qu.num (h : Qu w q o m) : ∀ x ∈ m, (x.1 : Int) ≤ 18446744073709551615 ∧ (x.2 : Int) ≤ 18446744073709551615 := by obtain ⟨p, o1, h, rfl⟩ := h; exact h.ob.num

theorem cell_of {w : World} {g i : Nat} {cs : Array Value} {t : TypeId} {u : Value} (h : w.heap[g]? = some (.cells cs t (0, 0))) (hu : cs[i]? = some u) : w.cell? ⟨g, i, none⟩ = some u := by simp [World.cell?, h, hu]
theorem froz_of {w : World} {g i : Nat} {cs : Array Value} {t : TypeId} (h : w.heap[g]? = some (.cells cs t (0, 0))) : w.frozen? ⟨g, i, none⟩ = false := by simp [World.frozen?, h]
/-- what none makes -/
def nW (w : World) : World := (w.alloc (.map #[] 0)).alloc (.cells #[.slice none 0 0, .map (some w.heap.size)] 138)
theorem nW_below (w : World) : Below w.heap.size w (nW w) := by unfold nW; go_grown
theorem nW_ob (w : World) : Ob (nW w) (w.heap.size + 1) [w.heap.size + 1, w.heap.size] [] := by
  have h1 := heap_alloc_new (w.alloc (.map #[] 0)) (.cells #[.slice none 0 0, .map (some w.heap.size)] 138)
  have hs : (w.alloc (.map #[] 0)).heap.size = w.heap.size + 1 := by simp
  rw [hs] at h1
  refine ⟨none, 0, w.heap.size, 0, fun _ => (0, 0), .map [], ⟨?_, ?_, ?_, World.ownsRow_nil _ _ _ _, ?_, fun a h => (by cases h), by omega, by omega, fun i h => by omega⟩, Pl.empty _, fun k h0 h1 => by omega, Has.nil _, rfl⟩
  · exact cell_of h1 rfl
  · exact cell_of h1 rfl
  · exact froz_of h1
  · exact (World.ownsMap_made w _ _ _).alloc _
theorem none_at (w : World) : Calls Tryz.prog 68 #[] w fun e w' => e = .returned (.pointer (some ⟨w.heap.size + 1, 0, none⟩)) ∧ w' = nW w := by
  have hmm := @run_makeMap Tryz.prog
  unfold nW
  go_enter Tryz.func68, Tryz.ntmps68
  go_wp2
  go_ret
  exact ⟨by simp, rfl⟩
/-- what New tells -/
def NwOut (w : World) (e : Ending) (w' : World) : Prop := ∃ q o, e = .returned (.pointer (some ⟨q, 0, none⟩)) ∧ Qu w' q o [] ∧ (∀ x ∈ o, w.heap.size ≤ x) ∧ Below w.heap.size w w'
theorem new_at (w : World) : Calls Tryz.prog 49 #[] w (NwOut w) := by
  have hb := nW_below w
  have ho := nW_ob w
  have hs : (nW w).heap.size = w.heap.size + 2 := by unfold nW; simp
  have hn := none_at w
  have hq : NwOut w (.returned (.pointer (some ⟨(nW w).heap.size, 0, none⟩))) ((nW w).alloc (.cells #[.pointer (some ⟨w.heap.size + 1, 0, none⟩)] 140)) := by
    have hh := heap_alloc_new (nW w) (.cells #[.pointer (some ⟨w.heap.size + 1, 0, none⟩)] 140)
    refine ⟨_, _, rfl, ⟨w.heap.size + 1, [w.heap.size + 1, w.heap.size], ⟨cell_of hh rfl, froz_of hh, ho.below ((Below.refl _ _).alloc (Nat.le_refl _) _), by simp; omega⟩, rfl⟩, fun x hx => ?_, hb.alloc hb.size _⟩
    simp at hx
    omega
  have HQ := Lib.hid hq
  clear hb ho hs hq
  generalize nW w = V at *
  go_enter Tryz.func49, Tryz.ntmps49
  go_wp2_with fail
  refine hn.mono ?_
  rintro e w1 ⟨rfl, rfl⟩
  clear hn
  go_wp2
  go_ret
  exact HQ.out

theorem all_at (h : w.cell? ⟨q, 0, none⟩ = some (.pointer (some ⟨p, 0, none⟩))) : Calls Tryz.prog 61 #[.pointer (some ⟨q, 0, none⟩)] w fun e w' => e = .returned (.pointer (some ⟨p, 0, none⟩)) ∧ w = w' := by
  go_enter Tryz.func61, Tryz.ntmps61
  go_wp2
  go_ret
  exact ⟨rfl, rfl⟩
theorem all_nil (w : World) : Calls Tryz.prog 61 #[.pointer none] w fun e w' => e = .returned (.pointer (some ⟨w.heap.size + 1, 0, none⟩)) ∧ w' = nW w := by
  have hn := none_at w
  go_enter Tryz.func61, Tryz.ntmps61
  go_wp2_with fail
  refine hn.mono ?_
  rintro e w1 ⟨rfl, rfl⟩
  go_wp2
  go_ret
  exact ⟨rfl, rfl⟩
/-- what a call that changes the queue leaves -/
def QOut (w : World) (q : Nat) (o : List Nat) (m : List It) (r : Bool) (e : Ending) (w' : World) : Prop := e = .returned (.bool r) ∧ ∃ o', Qu w' q o' m ∧ Fr o w w' ∧ Sub w o' o
theorem QOut.of {w2 : World} {o' : List Nat} {m' : List It} {r : Bool} (h : Qp w q p o m) (hw : Fr [q] w w') (hc : w'.cell? ⟨q, 0, none⟩ = some (.pointer (some ⟨p, 0, none⟩))) (hf : w'.frozen? ⟨q, 0, none⟩ = false) (ho : Ob w2 p o' m') (hF : Fr o w' w2) (hS : Sub w' o' o) : QOut w q (q :: o) m' r (.returned (.bool r)) w2 := by
  have hq := World.block_lt_of_cell? _ _ hc
  have k := hF.block q hq h.out
  refine ⟨rfl, q :: o', ⟨p, o', ⟨(World.cell?_of_block (a := ⟨q, 0, none⟩) k).trans hc, (World.frozen?_of_block (a := ⟨q, 0, none⟩) k).trans hf, ho, fun hm => ?_⟩, rfl⟩, ?_, fun x hx => ?_⟩
  · rcases hS q hm with h1 | h1
    · exact h.out h1
    · have : q < w'.heap.size := hq
      omega
  · exact (hw.mono fun x hx => by simp at hx; subst hx; exact List.mem_cons_self ..).then (hF.mono fun x hx => List.mem_cons_of_mem _ hx)
  · rcases List.mem_cons.1 hx with rfl | hx
    · exact .inl (List.mem_cons_self ..)
    · rcases hS x hx with h1 | h1
      · exact .inl (List.mem_cons_of_mem _ h1)
      · exact .inr (Nat.le_trans hw.size h1)
/-- the queue's block may have other cells behind its own: they stay -/
def Rest (w w' : World) (q : Nat) : Prop := ∀ j, 0 < j → w'.cell? ⟨q, j, none⟩ = w.cell? ⟨q, j, none⟩
theorem Rest.of {w2 : World} (hq : q < w.heap.size) (hn : q ∉ o) (v : Value) (F : Fr o (w.setCell ⟨q, 0, none⟩ v) w2) : Rest w w2 q := fun j hj => by
  have k := F.block q (by simpa using hq) hn
  refine (World.cell?_of_block (a := ⟨q, j, none⟩) k).trans (World.cell?_setCell_other _ _ _ _ fun e => ?_)
  injection e with _ e
  omega
theorem Rest.fr {w2 : World} (hq : q < w.heap.size) (hn : q ∉ o) (F : Fr o w w2) : Rest w w2 q := fun j _ => World.cell?_of_block (a := ⟨q, j, none⟩) (F.block q hq hn)
/-- is the id there? -/
def isin (m : List It) (x : Nat) : Bool := m.any fun y => decide (y.1 = x)
theorem isin_true {x : Nat} : isin m x = true ↔ ∃ y ∈ m, y.1 = x := by simp [isin]
theorem isin_false {x : Nat} : isin m x = false ↔ ∀ y ∈ m, y.1 ≠ x := by simp [isin]
set_option maxRecDepth 20000 in
set_option maxHeartbeats 1000000 in
theorem put_rest (x : It) (r : Bool) (h0 : Qu w q o m) (hx : (x.1 : Int) ≤ 18446744073709551615 ∧ (x.2 : Int) ≤ 18446744073709551615) (hN : m.length + 1 ≤ 1000) (hr : isin m x.1 = !r) :
    Calls Tryz.prog 72 #[.pointer (some ⟨q, 0, none⟩), .int .u64 (x.1 : Int), .int .u64 (x.2 : Int)] w (fun e w' => QOut w q o (putm m x) r e w' ∧ Rest w w' q) := by
  obtain ⟨p, o, h, rfl⟩ := h0
  have c0 := h.c
  have f0 := h.f
  have ha := all_at h.c
  have k0 : (w.setCell ⟨q, 0, none⟩ (.pointer (some ⟨p, 0, none⟩))).cell? ⟨q, 0, none⟩ = some (.pointer (some ⟨p, 0, none⟩)) := World.cell?_setCell_same _ _ _ h.c
  have kf : (w.setCell ⟨q, 0, none⟩ (.pointer (some ⟨p, 0, none⟩))).frozen? ⟨q, 0, none⟩ = false := by rw [World.frozen?_setCell]; exact h.f
  have hFw : Fr [q] w (w.setCell ⟨q, 0, none⟩ (.pointer (some ⟨p, 0, none⟩))) := Fr.setCell _ _ _ (List.mem_cons_self ..)
  have ho : Ob (w.setCell ⟨q, 0, none⟩ (.pointer (some ⟨p, 0, none⟩))) p o m := h.ob.fr hFw fun y hy hm => by simp at hm; subst hm; exact h.out hy
  have hput : Calls Tryz.prog 90 #[.pointer (some ⟨p, 0, none⟩), .agg #[.int .u64 (x.1 : Int), .int .u64 (x.2 : Int)]] (w.setCell ⟨q, 0, none⟩ (.pointer (some ⟨p, 0, none⟩))) (PtOut (w.setCell ⟨q, 0, none⟩ (.pointer (some ⟨p, 0, none⟩))) p o (putm m x) r) := by
    cases r with
    | true => exact iput_new x ho hx hN (isin_false.1 hr)
    | false => exact iput_set x ho hx (isin_true.1 hr)
  have HQ := Lib.hid (show ∀ w2 o', Ob w2 p o' (putm m x) → Fr o (w.setCell ⟨q, 0, none⟩ (.pointer (some ⟨p, 0, none⟩))) w2 → Sub (w.setCell ⟨q, 0, none⟩ (.pointer (some ⟨p, 0, none⟩))) o' o → QOut w q (q :: o) (putm m x) r (.returned (.bool r)) w2 ∧ Rest w w2 q from
    fun w2 o' a b c => ⟨QOut.of h hFw k0 kf a b c, Rest.of (World.block_lt_of_cell? _ _ h.c) h.out _ b⟩)
  clear ho hFw kf h hr
  go_enter Tryz.func72, Tryz.ntmps72
  go_wp2_with fail
  refine ha.mono ?_
  rintro e w1 ⟨rfl, rfl⟩
  clear ha
  go_wp2_with fail
  refine hput.mono ?_
  rintro e w2 ⟨rfl, o', h2, hF, hS⟩
  have hq := Lib.hid (HQ.out w2 o' h2 hF hS)
  clear hput h2 hF hS HQ
  go_wp2
  go_returns
  exact hq.out
theorem put_at (x : It) (r : Bool) (h0 : Qu w q o m) (hx : (x.1 : Int) ≤ 18446744073709551615 ∧ (x.2 : Int) ≤ 18446744073709551615) (hN : m.length + 1 ≤ 1000) (hr : isin m x.1 = !r) :
    Calls Tryz.prog 72 #[.pointer (some ⟨q, 0, none⟩), .int .u64 (x.1 : Int), .int .u64 (x.2 : Int)] w (QOut w q o (putm m x) r) :=
  (put_rest x r h0 hx hN hr).mono fun _ _ h => h.1
theorem drop_rest (x : Nat) (h0 : Qu w q o m) (hx : (x : Int) ≤ 18446744073709551615) (hr : isin m x = true) :
    Calls Tryz.prog 60 #[.pointer (some ⟨q, 0, none⟩), .int .u64 (x : Int)] w (fun e w' => QOut w q o (dropm m x) true e w' ∧ Rest w w' q) := by
  obtain ⟨p, o, h, rfl⟩ := h0
  have ha := all_at h.c
  have hd := idrop_in x h.ob hx (isin_true.1 hr)
  have HQ := Lib.hid (show ∀ w2 o', Ob w2 p o' (dropm m x) → Fr o w w2 → Wd.Sub w o' o → QOut w q (q :: o) (dropm m x) true (.returned (.bool true)) w2 ∧ Rest w w2 q from
    fun w2 o' a b c => ⟨QOut.of h (Fr.refl _ _) h.c h.f a b c, Rest.fr (World.block_lt_of_cell? _ _ h.c) h.out b⟩)
  clear h hr
  go_enter Tryz.func60, Tryz.ntmps60
  go_wp2_with fail
  refine ha.mono ?_
  rintro e w1 ⟨rfl, rfl⟩
  clear ha
  go_wp2_with fail
  refine hd.mono ?_
  rintro e w2 ⟨rfl, o', h2, hF, hS⟩
  have hq := Lib.hid (HQ.out w2 o' h2 hF hS)
  clear hd h2 hF hS HQ
  go_wp2
  go_returns
  exact hq.out
theorem drop_in (x : Nat) (h0 : Qu w q o m) (hx : (x : Int) ≤ 18446744073709551615) (hr : isin m x = true) :
    Calls Tryz.prog 60 #[.pointer (some ⟨q, 0, none⟩), .int .u64 (x : Int)] w (QOut w q o (dropm m x) true) :=
  (drop_rest x h0 hx hr).mono fun _ _ h => h.1
theorem drop_out (x : Nat) (h0 : Qu w q o m) (hx : (x : Int) ≤ 18446744073709551615) (hr : isin m x = false) :
    Calls Tryz.prog 60 #[.pointer (some ⟨q, 0, none⟩), .int .u64 (x : Int)] w fun e w' => e = .returned (.bool false) ∧ w = w' := by
  obtain ⟨p, o, h, rfl⟩ := h0
  have ha := all_at h.c
  have hd := idrop_out x h.ob hx (isin_false.1 hr)
  clear h hr
  go_enter Tryz.func60, Tryz.ntmps60
  go_wp2_with fail
  refine ha.mono ?_
  rintro e w1 ⟨rfl, rfl⟩
  clear ha
  go_wp2_with fail
  refine hd.mono ?_
  rintro e w1 ⟨rfl, rfl⟩
  clear hd
  go_wp2
  go_returns
  exact ⟨rfl, rfl⟩
/-- Drop, whether it is there or not -/
theorem drop_at (x : Nat) (r : Bool) (h0 : Qu w q o m) (hx : (x : Int) ≤ 18446744073709551615) (hr : isin m x = r) :
    Calls Tryz.prog 60 #[.pointer (some ⟨q, 0, none⟩), .int .u64 (x : Int)] w (QOut w q o (dropm m x) r) := by
  cases r with
  | true => exact drop_in x h0 hx hr
  | false =>
    refine (drop_out x h0 hx hr).mono ?_
    rintro e w' ⟨rfl, rfl⟩
    rw [dropm_out (isin_false.1 hr)]
    exact ⟨rfl, o, h0, Fr.refl _ _, Sub.refl _ _⟩
theorem qlen_at (n : Nat) (h0 : Qu w q o m) (hn : m.length = n) : Calls Tryz.prog 164 #[.pointer (some ⟨q, 0, none⟩)] w fun e w' => e = .returned (.int .i64 (n : Int)) ∧ w = w' := by
  obtain ⟨p, o, h, rfl⟩ := h0
  have ha := all_at h.c
  obtain ⟨A, c, b, N, K, D, h1, _, _, h2, rfl⟩ := h.ob
  have hl := len_at h1
  rw [← h2.len, hn] at hl
  clear h h1 h2
  go_enter Tryz.func164, Tryz.ntmps164
  go_wp2_with fail
  refine ha.mono ?_
  rintro e w1 ⟨rfl, rfl⟩
  clear ha
  go_wp2_with fail
  refine hl.mono ?_
  rintro e w1 ⟨rfl, rfl⟩
  clear hl
  go_wp2
  go_returns
  exact ⟨rfl, rfl⟩
set_option maxRecDepth 20000 in
theorem at_in (x : It) (h0 : Qu w q o m) (hx : x ∈ m) : Calls Tryz.prog 48 #[.pointer (some ⟨q, 0, none⟩), .int .u64 (x.1 : Int)] w fun e w' => e = .returned (.tuple #[.int .u64 (x.2 : Int), .bool true]) ∧ w = w' := by
  obtain ⟨p, o, h, rfl⟩ := h0
  have ha := all_at h.c
  obtain ⟨A, c, b, N, K, D, h1, hP, _, h2, rfl⟩ := h.ob
  obtain ⟨i, hi, rfl⟩ := h2.mem.1 hx
  have hk := look_in h1 hP hi
  have c0 := h1.c0
  have c1 := h1.c1
  have hN := h1.few
  obtain ⟨g, rfl, i0, i1, _, hc, _⟩ := h1.get hi
  have y2 : (0 : Int) ≤ (i : Int) := by omega
  have y3 : ((i : Int)).toNat = i := by omega
  clear h h1 h2 hP hx
  generalize K i = x at *
  go_enter Tryz.func48, Tryz.ntmps48
  go_wp2_with fail
  refine ha.mono ?_
  rintro e w1 ⟨rfl, rfl⟩
  clear ha
  go_wp2
  go_ret2
  exact ⟨rfl, rfl⟩
theorem at_out (x : Nat) (h0 : Qu w q o m) (hx : (x : Int) ≤ 18446744073709551615) (hr : isin m x = false) : Calls Tryz.prog 48 #[.pointer (some ⟨q, 0, none⟩), .int .u64 (x : Int)] w fun e w' => e = .returned (.tuple #[.int .u64 0, .bool false]) ∧ w = w' := by
  obtain ⟨p, o, h, rfl⟩ := h0
  have ha := all_at h.c
  obtain ⟨A, c, b, N, K, D, h1, hP, _, h2, rfl⟩ := h.ob
  obtain ⟨r, hk⟩ := look_out h1 hP hx (fun i hi => isin_false.1 hr _ (h2.mem.2 ⟨i, hi, rfl⟩))
  have c1 := h1.c1
  clear h h1 h2 hP hr
  go_enter Tryz.func48, Tryz.ntmps48
  go_wp2_with fail
  refine ha.mono ?_
  rintro e w1 ⟨rfl, rfl⟩
  clear ha
  go_wp2
  go_ret2
  exact ⟨rfl, rfl⟩
theorem first_none (h0 : Qu w q o []) : Calls Tryz.prog 55 #[.pointer (some ⟨q, 0, none⟩)] w fun e w' => e = .returned (.tuple #[.int .u64 0, .int .u64 0, .bool false]) ∧ w = w' := by
  obtain ⟨p, o, h, rfl⟩ := h0
  have ha := all_at h.c
  obtain ⟨A, c, b, N, K, D, h1, hP, _, h2, rfl⟩ := h.ob
  have hN := h2.len
  simp at hN
  subst hN
  have c0 := h1.c0
  clear h h1 h2 hP
  go_enter Tryz.func55, Tryz.ntmps55
  go_wp2_with fail
  refine ha.mono ?_
  rintro e w1 ⟨rfl, rfl⟩
  clear ha
  go_wp2
  go_ret3
  exact ⟨rfl, rfl⟩
set_option maxRecDepth 20000 in
set_option maxHeartbeats 1000000 in
theorem first_some (x : It) (h0 : Qu w q o (x :: m)) : Calls Tryz.prog 55 #[.pointer (some ⟨q, 0, none⟩)] w fun e w' => e = .returned (.tuple #[.int .u64 (x.1 : Int), .int .u64 (x.2 : Int), .bool true]) ∧ Below w.heap.size w w' := by
  obtain ⟨p, o, h, rfl⟩ := h0
  have ha := all_at h.c
  obtain ⟨A, c, b, N, K, D, h1, hP, hH, h2, rfl⟩ := h.ob
  obtain ⟨hN, rfl⟩ := h2.first hH
  have c0 := h1.c0
  have hN2 := h1.few
  obtain ⟨g, rfl, i0, i1, _, hc, _⟩ := h1.get hN
  simp only [Nat.zero_mul, Nat.zero_add] at i0 i1
  have hb := Lib.hid (drew_below w)
  clear h h1 h2 hP hH
  generalize K 0 = x at *
  go_enter Tryz.func55, Tryz.ntmps55
  go_wp2_with fail
  refine ha.mono ?_
  rintro e w1 ⟨rfl, rfl⟩
  clear ha
  go_wp2_with fail
  go_region
  go_wp2
  go_ret3
  exact ⟨rfl, hb.out⟩
end
end Go.Proofs.YtdmibolbpgondaaGreat.U12
end
