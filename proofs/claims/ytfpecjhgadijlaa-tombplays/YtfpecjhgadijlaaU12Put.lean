/-
  put and drop of the items.
-/
import Derived.Test.YtfpecjhgadijlaaU12Pop
set_option linter.unusedSimpArgs false
set_option linter.unusedVariables false
namespace Go.Proofs.Ytfpecjhgadijlaa.U12
open Go.RowKit Go.Lib Go.Maps Go.Proofs.Ytfpecjhgadijlaa.Wd

section
variable {w0 w w' : World} {p c b N M : Nat} {A : Option Addr} {K0 K : Nat → It} {D : DataW Unit}
/-- the items of a queue that has m -/
def Ob (w : World) (p : Nat) (o : List Nat) (m : List It) : Prop := ∃ A c b N K D, Im w p A c b N K D ∧ Pl D K N ∧ Hp K N ∧ Has K N m ∧ o = own p A b
variable {o : List Nat} {m : List It}
theorem Ob.lt (h : Ob w p o m) : ∀ x ∈ o, x < w.heap.size := by
  obtain ⟨A, c, b, N, K, D, h, _, _, _, rfl⟩ := h
  exact h.lt
theorem Ob.fr {o' : List Nat} (h : Ob w p o m) (f : Fr o' w w') (hd : ∀ x ∈ o, x ∉ o') : Ob w' p o m := by
  obtain ⟨A, c, b, N, K, D, h, h1, h2, h3, rfl⟩ := h
  exact ⟨A, c, b, N, K, D, h.fr f hd, h1, h2, h3, rfl⟩
theorem Ob.below (h : Ob w p o m) (hb : Below w.heap.size w w') : Ob w' p o m := h.fr (Fr.of_below [] hb) (fun _ _ hx => by cases hx)
theorem Ob.few (h : Ob w p o m) : m.length ≤ 1000 := by
  obtain ⟨A, c, b, N, K, D, h, h1, h2, h3, rfl⟩ := h
  rw [h3.len]
  exact h.few
theorem Ob.sorted (h : Ob w p o m) : m.Pairwise Lt := by
  obtain ⟨A, c, b, N, K, D, h, h1, h2, h3, rfl⟩ := h
  exact h3.sorted
theorem Ob.nodup (h : Ob w p o m) : (m.map (·.1)).Nodup := by
  obtain ⟨A, c, b, N, K, D, h, h1, h2, h3, rfl⟩ := h
  exact h3.nodup
theorem Ob.num (h : Ob w p o m) : ∀ x ∈ m, (x.1 : Int) ≤ 18446744073709551615 ∧ (x.2 : Int) ≤ 18446744073709551615 := by
  obtain ⟨A, c, b, N, K, D, h, h1, h2, h3, rfl⟩ := h
  intro x hx
  obtain ⟨i, hi, rfl⟩ := h3.mem.1 hx
  exact h.num i hi
/-- what 'i, there := l.places[id]' tells -/
theorem look_in (h : Im w p A c b N K D) (hP : Pl D K N) {i : Nat} (hi : i < N) :
    (Instr.lookup 60 (.map (some b)) (.int .u64 ((K i).1 : Int)) true).run Try.prog w = .ok (.tuple #[.int .i64 (i : Int), .bool true]) w := by
  obtain ⟨v, ps, hrun, hv⟩ := h.map.look_ok law Try.underlying60 (zero_int w) (plainElem_int Try.underlying3 (by decide)) (key_ok (h.num i hi).1)
  obtain ⟨q, rfl, hq, _⟩ := plainElem_int_inv Try.underlying3 hv
  have hq' := congrArg Prod.fst hq
  have e : U12.num i = .lit (.int .i64 q) := (hP.at_ i hi).symm.trans hq'
  unfold U12.num at e
  injection e with e
  injection e with _ e
  rw [(hP.has _).2 ⟨i, hi, rfl⟩, ← e] at hrun
  exact hrun
theorem look_out (h : Im w p A c b N K D) (hP : Pl D K N) {x : Nat} (hx : (x : Int) ≤ 18446744073709551615) (ho : ∀ i, i < N → (K i).1 ≠ x) :
    ∃ q : Int, (Instr.lookup 60 (.map (some b)) (.int .u64 (x : Int)) true).run Try.prog w = .ok (.tuple #[.int .i64 q, .bool false]) w := by
  obtain ⟨v, ps, hrun, hv⟩ := h.map.look_ok law Try.underlying60 (zero_int w) (plainElem_int Try.underlying3 (by decide)) (key_ok hx)
  obtain ⟨q, rfl, _, _⟩ := plainElem_int_inv Try.underlying3 hv
  have hh : Maps.has D (ik x) = false := by
    cases hb : Maps.has D (ik x)
    · rfl
    · obtain ⟨i, hi, e⟩ := (hP.has _).1 hb
      exact absurd e (ho i hi)
  rw [hh] at hrun
  exact ⟨q, hrun⟩
/-- what put leaves -/
def PtOut (w : World) (p : Nat) (o : List Nat) (m : List It) (r : Bool) (e : Ending) (w' : World) : Prop := e = .returned (.bool r) ∧ ∃ o', Ob w' p o' m ∧ Fr o w w' ∧ Sub w o' o
set_option maxRecDepth 20000 in
set_option maxHeartbeats 1000000 in
theorem iput_new (x : It) (h : Ob w p o m) (hx : (x.1 : Int) ≤ 18446744073709551615 ∧ (x.2 : Int) ≤ 18446744073709551615) (hN : m.length + 1 ≤ 1000) (hf : ∀ y ∈ m, y.1 ≠ x.1) :
    Calls Try.prog 22 #[.pointer (some ⟨p, 0, none⟩), .agg #[.int .u64 (x.1 : Int), .int .u64 (x.2 : Int)]] w (PtOut w p o (putm m x) true) := by
  obtain ⟨A, c, b, N, K, D, h, hP, hH, hM, rfl⟩ := h
  have hf2 : ∀ i, i < N → (K i).1 ≠ x.1 := fun i hi => hf (K i) (hM.mem.2 ⟨i, hi, rfl⟩)
  have b1 : Below w.heap.size w (w.alloc (bx x)) := (Below.refl _ _).alloc (Nat.le_refl _) _
  have b2 := b1.drew
  obtain ⟨x0, x1⟩ := cell_bx w x
  have y0 : (w.alloc (bx x)).drew.cell? ⟨w.heap.size, 0, none⟩ = some (.int .u64 (x.1 : Int)) := x0
  have y1 : (w.alloc (bx x)).drew.cell? ⟨w.heap.size, 1, none⟩ = some (.int .u64 (x.2 : Int)) := x1
  obtain ⟨q, hk⟩ := look_out (h.below b2) hP hx.1 hf2
  have hpu := hpush_at x (h.below b2) hP hM.nd hH hx hf2 (by rw [← hM.len]; exact hN)
  have c1 := (h.below b1).c1
  have HM := Lib.hid (show ∀ K', (row K' (N + 1)).Perm (row (up1 K N x) (N + 1)) → Has K' (N + 1) (putm m x) from fun K' hp => hM.push hf2 hp)
  have HB := Lib.hid b2
  have hk2 : ∀ q : Int, True := fun _ => trivial
  clear h hP hH hM hf hf2 b1 b2 hk2
  unfold bx at *
  go_enter Try.func22, Try.ntmps22
  go_wp2_with fail
  generalize w.alloc (.cells #[.int .u64 (x.1 : Int), .int .u64 (x.2 : Int)] 58) = V at *
  go_region
  clear hk c1
  generalize V.drew = V1 at *
  go_wp2_with fail
  refine hpu.mono ?_
  rintro e w2 ⟨rfl, A', c', K', D', h2, hP2, hH2, hpm, hF, hS⟩
  have hq := Lib.hid (show PtOut w p (own p A b) (putm m x) true (.returned (.bool true)) w2 from
    ⟨rfl, own p A' b, ⟨A', c', b, N + 1, K', D', h2, hP2, hH2, HM.out K' hpm, rfl⟩, (Fr.of_below _ HB.out).then hF, (Sub.refl w _).trans hS HB.out.size⟩)
  clear hpu h2 hP2 hH2 hpm hF hS y0 y1 x0 x1
  go_wp2
  go_returns
  exact hq.out
set_option maxRecDepth 20000 in
set_option maxHeartbeats 2000000 in
theorem iput_set (x : It) (h : Ob w p o m) (hx : (x.1 : Int) ≤ 18446744073709551615 ∧ (x.2 : Int) ≤ 18446744073709551615) (hf : ∃ y ∈ m, y.1 = x.1) :
    Calls Try.prog 22 #[.pointer (some ⟨p, 0, none⟩), .agg #[.int .u64 (x.1 : Int), .int .u64 (x.2 : Int)]] w (PtOut w p o (putm m x) false) := by
  obtain ⟨A, c, b, N, K, D, h, hP, hH, hM, rfl⟩ := h
  obtain ⟨i, hi, he⟩ : ∃ i, i < N ∧ (K i).1 = x.1 := by
    obtain ⟨y, hy, e⟩ := hf
    obtain ⟨i, hi, rfl⟩ := hM.mem.1 hy
    exact ⟨i, hi, e⟩
  have b1 : Below w.heap.size w (w.alloc (bx x)) := (Below.refl _ _).alloc (Nat.le_refl _) _
  have b2 := b1.drew
  obtain ⟨x0, x1⟩ := cell_bx w x
  have y0 : (w.alloc (bx x)).drew.cell? ⟨w.heap.size, 0, none⟩ = some (.int .u64 (x.1 : Int)) := x0
  have y1 : (w.alloc (bx x)).drew.cell? ⟨w.heap.size, 1, none⟩ = some (.int .u64 (x.2 : Int)) := x1
  have hN := h.few
  have h2 := h.below b2
  have hk := look_in h2 hP hi
  rw [he] at hk
  have c1 := (h.below b1).c1
  have d0 := h2.c0
  obtain ⟨g, rfl, i0, i1, hz, hc, hm⟩ := h2.get hi
  have z0 := hz (i * 2)
  have z1 := hz (i * 2 + 1)
  obtain ⟨h3, F3⟩ := h2.set hi hx
  have hP3 := hP.set (x := x) hi he
  have hD3 : DnI (up1 K i x) N i := hH.dn (Nat.le_refl _) hi fun k _ hki => up1_other K x hki
  have hn3 : Nd (up1 K i x) N := fun a b ha hb e => by
    have hid : ∀ k, (up1 K i x k).1 = (K k).1 := fun k => by
      by_cases e : k = i
      · subst e; rw [up1_same, he]
      · rw [up1_other K x e]
    rw [hid, hid] at e
    exact hM.nd a b ha hb e
  have HM := Lib.hid (show ∀ K', (row K' N).Perm (row (up1 K i x) N) → Has K' N (putm m x) from fun K' hp => hM.set hi he hp)
  have HB := Lib.hid b2
  have y2 : (0 : Int) ≤ (i : Int) := by omega
  have y3 : ((i : Int)).toNat = i := by omega
  unfold iput at h3 F3
  have H3 := Lib.hid h3
  have G3 := Lib.hid F3
  have HP3 := Lib.hid hP3
  have HD3 := Lib.hid hD3
  have HN3 := Lib.hid hn3
  clear h hP hH hM hf b1 b2 h2 hz h3 F3 hP3 hD3 hn3 he
  unfold bx at *
  generalize up1 K i x = L at *
  generalize K i = z at *
  go_enter Try.func22, Try.ntmps22
  go_wp2_with fail
  generalize w.alloc (.cells #[.int .u64 (x.1 : Int), .int .u64 (x.2 : Int)] 58) = V at *
  go_region
  clear hk c1 x0 x1
  generalize V.drew = V1 at *
  go_wp2_with fail
  go_region
  obtain ⟨V2, hV⟩ : ∃ V2, ((V1.setCell ⟨g, i * 2, none⟩ (.int .u64 (x.1 : Int))).setCell ⟨g, i * 2 + 1, none⟩ (.int .u64 (x.2 : Int))).drew = V2 := ⟨_, rfl⟩
  rw [hV]
  have A1 : Im V2 p (some ⟨g, 0, none⟩) c b N L D := hV ▸ (H3.out).below (drew_below _)
  have G1 : Fr (own p (some ⟨g, 0, none⟩) b) V1 V2 := hV ▸ ⟨G3.out.os, G3.out.tape, G3.out.output, G3.out.size, G3.out.block⟩
  clear hV H3 G3 d0 i0 i1 z0 z1 y0 y1
  have hfx := fix_at i A1 HP3.out HN3.out hi HD3.out
  clear A1
  go_wp2_with fail
  refine hfx.mono ?_
  rintro e w3 ⟨rfl, K2, hS, hH2⟩
  obtain ⟨D2, h4, hP4⟩ := hS.im
  have hq := Lib.hid (show PtOut w p (own p (some ⟨g, 0, none⟩) b) (putm m x) false (.returned (.bool false)) w3 from
    ⟨rfl, own p (some ⟨g, 0, none⟩) b, ⟨_, c, b, N, K2, D2, h4, hP4, hH2, HM.out K2 hS.perm, rfl⟩, ((Fr.of_below _ HB.out).then G1).then hS.fr, Sub.refl w _⟩)
  clear hfx h4 hP4 hS hH2 G1
  go_wp2
  go_returns
  exact hq.out
set_option maxRecDepth 20000 in
set_option maxHeartbeats 2000000 in
theorem idrop_in (x : Nat) (h : Ob w p o m) (hx : (x : Int) ≤ 18446744073709551615) (hf : ∃ y ∈ m, y.1 = x) :
    Calls Try.prog 24 #[.pointer (some ⟨p, 0, none⟩), .int .u64 (x : Int)] w (PtOut w p o (dropm m x) true) := by
  obtain ⟨A, c, b, N, K, D, h, hP, hH, hM, rfl⟩ := h
  obtain ⟨i, hi, he⟩ : ∃ i, i < N ∧ (K i).1 = x := by
    obtain ⟨y, hy, e⟩ := hf
    obtain ⟨i, hi, rfl⟩ := hM.mem.1 hy
    exact ⟨i, hi, e⟩
  obtain ⟨M, rfl⟩ : ∃ M, N = M + 1 := ⟨N - 1, by omega⟩
  have hN := h.few
  have hk := look_in h hP hi
  have c1 := h.c1
  have hrm := remove_at i h hP hM.nd hH hi
  have hnd := hM.nd
  have HM := Lib.hid (show ∀ K', (row K' (M + 1)).Perm (row K (M + 1)) → K' M = K i → Has K' M (dropm m x) from fun K' hp hl => he ▸ hM.pop hi rfl hp hl)
  have hb1 := (h.num i hi)
  have has := fun v W => asItem v W
  rw [he] at hk
  unfold RmOut at hrm
  obtain ⟨z, hz⟩ : ∃ z, K i = z := ⟨_, rfl⟩
  have HND := Lib.hid (show ∀ K', (row K' (M + 1)).Perm (row K (M + 1)) → Nd K' (M + 1) from fun K' hp => hnd.perm hp)
  rw [hz] at hrm he hb1 HM
  rw [he] at hrm
  have HE := Lib.hid he
  have y2 : (0 : Int) ≤ (i : Int) := by omega
  have y3 : ((i : Int)).toNat = i := by omega
  clear h hP hH hM hf hnd hz he
  go_enter Try.func24, Try.ntmps24
  go_wp2_with fail
  refine hrm.mono ?_
  rintro e w1 ⟨rfl, K1, D1, h1, hP1, hH1, hpm, hl, hF1⟩
  have b1 : Below w1.heap.size w1 (w1.alloc (.cells #[.int .u64 (x : Int), .int .u64 (z.2 : Int)] 58)) := (Below.refl _ _).alloc (Nat.le_refl _) _
  have d1 := (h1.below b1).c1
  have h2 := h1.below b1.drew
  obtain ⟨w3, hdel, hown, hturn⟩ := h2.map.drop law Try.underlying60 (key_ok (x := x) hx) 0
  obtain ⟨h3, F3⟩ := h2.turn hown hturn.grown
  have hP3 := hP1.pop (HND.out K1 hpm)
  rw [hl, HE.out] at hP3
  have hq := Lib.hid (show PtOut w p (own p A b) (dropm m x) true (.returned (.bool true)) w3 from
    ⟨rfl, own p A b, ⟨A, c, b, M, K1, _, h3, hP3, hH1, HM.out K1 hpm hl, rfl⟩, (hF1.then (Fr.of_below _ b1.drew)).then F3, Sub.refl w _⟩)
  clear hrm hk c1 h1 h2 h3 F3 hP1 hP3 hH1 hpm hl hF1 hown hturn b1 HE
  go_wp2_with fail
  go_region
  clear hdel
  go_wp2
  go_returns
  exact hq.out
set_option maxRecDepth 20000 in
theorem idrop_out (x : Nat) (h : Ob w p o m) (hx : (x : Int) ≤ 18446744073709551615) (hf : ∀ y ∈ m, y.1 ≠ x) :
    Calls Try.prog 24 #[.pointer (some ⟨p, 0, none⟩), .int .u64 (x : Int)] w fun e w' => e = .returned (.bool false) ∧ w = w' := by
  obtain ⟨A, c, b, N, K, D, h, hP, hH, hM, rfl⟩ := h
  obtain ⟨q, hk⟩ := look_out h hP hx (fun i hi => hf (K i) (hM.mem.2 ⟨i, hi, rfl⟩))
  have c1 := h.c1
  clear h hP hH hM hf
  go_enter Try.func24, Try.ntmps24
  go_wp2
  go_returns
  exact ⟨rfl, rfl⟩
end
end Go.Proofs.Ytfpecjhgadijlaa.U12
