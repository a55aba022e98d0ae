/-
  The queue: New, all, Put, Drop, At, First, Len.
-/
import Derived.Test.YtfpecjhgadijlaaU12Put
set_option linter.unusedSimpArgs false
set_option linter.unusedVariables false
namespace Go.Proofs.Ytfpecjhgadijlaa.U12
open Go.RowKit Go.Lib Go.Maps Go.Proofs.Ytfpecjhgadijlaa.Wd

/-- block q is a queue that has m; its blocks are o -/
structure Qp (w : World) (q p : Nat) (o : List Nat) (m : List It) : Prop where
  c : w.cell? ⟨q, 0, none⟩ = some (.pointer (some ⟨p, 0, none⟩))
  f : w.frozen? ⟨q, 0, none⟩ = false
  ob : Ob w p o m
  out : q ∉ o
def Qu (w : World) (q : Nat) (o : List Nat) (m : List It) : Prop := ∃ p o', Qp w q p o' m ∧ o = q :: o'
section
variable {w w' : World} {q p : Nat} {o : List Nat} {m : List It}
theorem Qp.fr {o' : List Nat} (h : Qp w q p o m) (f : Fr o' w w') (hd : ∀ x ∈ q :: o, x ∉ o') : Qp w' q p o m := by
  have hq := f.block q (World.block_lt_of_cell? _ _ h.c) (hd q (List.mem_cons_self ..))
  exact ⟨(World.cell?_of_block (a := ⟨q, 0, none⟩) hq).trans h.c, (World.frozen?_of_block (a := ⟨q, 0, none⟩) hq).trans h.f, h.ob.fr f fun x hx => hd x (List.mem_cons_of_mem _ hx), h.out⟩
theorem Qu.fr {o' : List Nat} (h : Qu w q o m) (f : Fr o' w w') (hd : ∀ x ∈ o, x ∉ o') : Qu w' q o m := by
  obtain ⟨p, o1, h, rfl⟩ := h
  exact ⟨p, o1, h.fr f hd, rfl⟩
theorem Qu.below (h : Qu w q o m) (hb : Below w.heap.size w w') : Qu w' q o m := h.fr (Fr.of_below [] hb) (fun _ _ hx => by cases hx)
theorem Qu.lt (h : Qu w q o m) : ∀ x ∈ o, x < w.heap.size := by
  obtain ⟨p, o1, h, rfl⟩ := h
  intro x hx
  rcases List.mem_cons.1 hx with rfl | hx
  · exact World.block_lt_of_cell? _ _ h.c
  · exact h.ob.lt x hx
theorem Qu.sorted (h : Qu w q o m) : m.Pairwise Lt := by obtain ⟨p, o1, h, rfl⟩ := h; exact h.ob.sorted
theorem Qu.nodup (h : Qu w q o m) : (m.map (·.1)).Nodup := by obtain ⟨p, o1, h, rfl⟩ := h; exact h.ob.nodup
theorem Qu.few (h : Qu w q o m) : m.length ≤ 1000 := by obtain ⟨p, o1, h, rfl⟩ := h; exact h.ob.few
theorem Qu.num (h : Qu w q o m) : ∀ x ∈ m, (x.1 : Int) ≤ 18446744073709551615 ∧ (x.2 : Int) ≤ 18446744073709551615 := by obtain ⟨p, o1, h, rfl⟩ := h; exact h.ob.num

theorem cell_of {w : World} {g i : Nat} {cs : Array Value} {t : TypeId} {u : Value} (h : w.heap[g]? = some (.cells cs t (0, 0))) (hu : cs[i]? = some u) : w.cell? ⟨g, i, none⟩ = some u := by simp [World.cell?, h, hu]
theorem froz_of {w : World} {g i : Nat} {cs : Array Value} {t : TypeId} (h : w.heap[g]? = some (.cells cs t (0, 0))) : w.frozen? ⟨g, i, none⟩ = false := by simp [World.frozen?, h]
/-- what none makes -/
def nW (w : World) : World := (w.alloc (.map #[] 0)).alloc (.cells #[.slice none 0 0, .map (some w.heap.size)] 62)
theorem nW_below (w : World) : Below w.heap.size w (nW w) := by unfold nW; go_grown
theorem nW_ob (w : World) : Ob (nW w) (w.heap.size + 1) [w.heap.size + 1, w.heap.size] [] := by
  have h1 := heap_alloc_new (w.alloc (.map #[] 0)) (.cells #[.slice none 0 0, .map (some w.heap.size)] 62)
  have hs : (w.alloc (.map #[] 0)).heap.size = w.heap.size + 1 := by simp
  rw [hs] at h1
  refine ⟨none, 0, w.heap.size, 0, fun _ => (0, 0), .map [], ⟨?_, ?_, ?_, World.ownsRow_nil _ _ _ _, ?_, fun a h => (by cases h), by omega, by omega, fun i h => by omega⟩, Pl.empty _, fun k h0 h1 => by omega, Has.nil _, rfl⟩
  · exact cell_of h1 rfl
  · exact cell_of h1 rfl
  · exact froz_of h1
  · exact (World.ownsMap_made w _ _ _).alloc _
theorem none_at (w : World) : Calls Try.prog 20 #[] w fun e w' => e = .returned (.pointer (some ⟨w.heap.size + 1, 0, none⟩)) ∧ w' = nW w := by
  have hmm := @run_makeMap Try.prog
  unfold nW
  go_enter Try.func20, Try.ntmps20
  go_wp2
  go_ret
  exact ⟨by simp, rfl⟩
/-- what New tells -/
def NwOut (w : World) (e : Ending) (w' : World) : Prop := ∃ q o, e = .returned (.pointer (some ⟨q, 0, none⟩)) ∧ Qu w' q o [] ∧ (∀ x ∈ o, w.heap.size ≤ x) ∧ Below w.heap.size w w'
theorem new_at (w : World) : Calls Try.prog 13 #[] w (NwOut w) := by
  have hb := nW_below w
  have ho := nW_ob w
  have hs : (nW w).heap.size = w.heap.size + 2 := by unfold nW; simp
  have hn := none_at w
  have hq : NwOut w (.returned (.pointer (some ⟨(nW w).heap.size, 0, none⟩))) ((nW w).alloc (.cells #[.pointer (some ⟨w.heap.size + 1, 0, none⟩)] 44)) := by
    have hh := heap_alloc_new (nW w) (.cells #[.pointer (some ⟨w.heap.size + 1, 0, none⟩)] 44)
    refine ⟨_, _, rfl, ⟨w.heap.size + 1, [w.heap.size + 1, w.heap.size], ⟨cell_of hh rfl, froz_of hh, ho.below ((Below.refl _ _).alloc (Nat.le_refl _) _), by simp; omega⟩, rfl⟩, fun x hx => ?_, hb.alloc hb.size _⟩
    simp at hx
    omega
  have HQ := Lib.hid hq
  clear hb ho hs hq
  generalize nW w = V at *
  go_enter Try.func13, Try.ntmps13
  go_wp2_with fail
  refine hn.mono ?_
  rintro e w1 ⟨rfl, rfl⟩
  clear hn
  go_wp2
  go_ret
  exact HQ.out

theorem all_at (h : w.cell? ⟨q, 0, none⟩ = some (.pointer (some ⟨p, 0, none⟩))) : Calls Try.prog 21 #[.pointer (some ⟨q, 0, none⟩)] w fun e w' => e = .returned (.pointer (some ⟨p, 0, none⟩)) ∧ w = w' := by
  go_enter Try.func21, Try.ntmps21
  go_wp2
  go_ret
  exact ⟨rfl, rfl⟩
theorem all_nil (w : World) : Calls Try.prog 21 #[.pointer none] w fun e w' => e = .returned (.pointer (some ⟨w.heap.size + 1, 0, none⟩)) ∧ w' = nW w := by
  have hn := none_at w
  go_enter Try.func21, Try.ntmps21
  go_wp2_with fail
  refine hn.mono ?_
  rintro e w1 ⟨rfl, rfl⟩
  go_wp2
  go_ret
  exact ⟨rfl, rfl⟩
/-- what a call that changes the queue leaves -/
def QOut (w : World) (q : Nat) (o : List Nat) (m : List It) (r : Bool) (e : Ending) (w' : World) : Prop := e = .returned (.bool r) ∧ ∃ o', Qu w' q o' m ∧ Fr o w w' ∧ Sub w o' o
theorem QOut.of {w2 : World} {o' : List Nat} {m' : List It} {r : Bool} (h : Qp w q p o m) (hw : Fr [q] w w') (hc : w'.cell? ⟨q, 0, none⟩ = some (.pointer (some ⟨p, 0, none⟩))) (hf : w'.frozen? ⟨q, 0, none⟩ = false) (ho : Ob w2 p o' m') (hF : Fr o w' w2) (hS : Sub w' o' o) : QOut w q (q :: o) m' r (.returned (.bool r)) w2 := by
  have hq := World.block_lt_of_cell? _ _ hc
  have k := hF.block q hq h.out
  refine ⟨rfl, q :: o', ⟨p, o', ⟨(World.cell?_of_block (a := ⟨q, 0, none⟩) k).trans hc, (World.frozen?_of_block (a := ⟨q, 0, none⟩) k).trans hf, ho, fun hm => ?_⟩, rfl⟩, ?_, fun x hx => ?_⟩
  · rcases hS q hm with h1 | h1
    · exact h.out h1
    · have : q < w'.heap.size := hq
      omega
  · exact (hw.mono fun x hx => by simp at hx; subst hx; exact List.mem_cons_self ..).then (hF.mono fun x hx => List.mem_cons_of_mem _ hx)
  · rcases List.mem_cons.1 hx with rfl | hx
    · exact .inl (List.mem_cons_self ..)
    · rcases hS x hx with h1 | h1
      · exact .inl (List.mem_cons_of_mem _ h1)
      · exact .inr (Nat.le_trans hw.size h1)
/-- the queue's block may have other cells behind its own: they stay -/
def Rest (w w' : World) (q : Nat) : Prop := ∀ j, 0 < j → w'.cell? ⟨q, j, none⟩ = w.cell? ⟨q, j, none⟩
theorem Rest.of {w2 : World} (hq : q < w.heap.size) (hn : q ∉ o) (v : Value) (F : Fr o (w.setCell ⟨q, 0, none⟩ v) w2) : Rest w w2 q := fun j hj => by
  have k := F.block q (by simpa using hq) hn
  refine (World.cell?_of_block (a := ⟨q, j, none⟩) k).trans (World.cell?_setCell_other _ _ _ _ fun e => ?_)
  injection e with _ e
  omega
theorem Rest.fr {w2 : World} (hq : q < w.heap.size) (hn : q ∉ o) (F : Fr o w w2) : Rest w w2 q := fun j _ => World.cell?_of_block (a := ⟨q, j, none⟩) (F.block q hq hn)
/-- is the id there? -/
def isin (m : List It) (x : Nat) : Bool := m.any fun y => decide (y.1 = x)
theorem isin_true {x : Nat} : isin m x = true ↔ ∃ y ∈ m, y.1 = x := by simp [isin]
theorem isin_false {x : Nat} : isin m x = false ↔ ∀ y ∈ m, y.1 ≠ x := by simp [isin]
set_option maxRecDepth 20000 in
set_option maxHeartbeats 1000000 in
theorem put_rest (x : It) (r : Bool) (h0 : Qu w q o m) (hx : (x.1 : Int) ≤ 18446744073709551615 ∧ (x.2 : Int) ≤ 18446744073709551615) (hN : m.length + 1 ≤ 1000) (hr : isin m x.1 = !r) :
    Calls Try.prog 14 #[.pointer (some ⟨q, 0, none⟩), .int .u64 (x.1 : Int), .int .u64 (x.2 : Int)] w (fun e w' => QOut w q o (putm m x) r e w' ∧ Rest w w' q) := by
  obtain ⟨p, o, h, rfl⟩ := h0
  have c0 := h.c
  have f0 := h.f
  have ha := all_at h.c
  have k0 : (w.setCell ⟨q, 0, none⟩ (.pointer (some ⟨p, 0, none⟩))).cell? ⟨q, 0, none⟩ = some (.pointer (some ⟨p, 0, none⟩)) := World.cell?_setCell_same _ _ _ h.c
  have kf : (w.setCell ⟨q, 0, none⟩ (.pointer (some ⟨p, 0, none⟩))).frozen? ⟨q, 0, none⟩ = false := by rw [World.frozen?_setCell]; exact h.f
  have hFw : Fr [q] w (w.setCell ⟨q, 0, none⟩ (.pointer (some ⟨p, 0, none⟩))) := Fr.setCell _ _ _ (List.mem_cons_self ..)
  have ho : Ob (w.setCell ⟨q, 0, none⟩ (.pointer (some ⟨p, 0, none⟩))) p o m := h.ob.fr hFw fun y hy hm => by simp at hm; subst hm; exact h.out hy
  have hput : Calls Try.prog 22 #[.pointer (some ⟨p, 0, none⟩), .agg #[.int .u64 (x.1 : Int), .int .u64 (x.2 : Int)]] (w.setCell ⟨q, 0, none⟩ (.pointer (some ⟨p, 0, none⟩))) (PtOut (w.setCell ⟨q, 0, none⟩ (.pointer (some ⟨p, 0, none⟩))) p o (putm m x) r) := by
    cases r with
    | true => exact iput_new x ho hx hN (isin_false.1 hr)
    | false => exact iput_set x ho hx (isin_true.1 hr)
  have HQ := Lib.hid (show ∀ w2 o', Ob w2 p o' (putm m x) → Fr o (w.setCell ⟨q, 0, none⟩ (.pointer (some ⟨p, 0, none⟩))) w2 → Sub (w.setCell ⟨q, 0, none⟩ (.pointer (some ⟨p, 0, none⟩))) o' o → QOut w q (q :: o) (putm m x) r (.returned (.bool r)) w2 ∧ Rest w w2 q from
    fun w2 o' a b c => ⟨QOut.of h hFw k0 kf a b c, Rest.of (World.block_lt_of_cell? _ _ h.c) h.out _ b⟩)
  clear ho hFw kf h hr
  go_enter Try.func14, Try.ntmps14
  go_wp2_with fail
  refine ha.mono ?_
  rintro e w1 ⟨rfl, rfl⟩
  clear ha
  go_wp2_with fail
  refine hput.mono ?_
  rintro e w2 ⟨rfl, o', h2, hF, hS⟩
  have hq := Lib.hid (HQ.out w2 o' h2 hF hS)
  clear hput h2 hF hS HQ
  go_wp2
  go_returns
  exact hq.out
theorem put_at (x : It) (r : Bool) (h0 : Qu w q o m) (hx : (x.1 : Int) ≤ 18446744073709551615 ∧ (x.2 : Int) ≤ 18446744073709551615) (hN : m.length + 1 ≤ 1000) (hr : isin m x.1 = !r) :
    Calls Try.prog 14 #[.pointer (some ⟨q, 0, none⟩), .int .u64 (x.1 : Int), .int .u64 (x.2 : Int)] w (QOut w q o (putm m x) r) :=
  (put_rest x r h0 hx hN hr).mono fun _ _ h => h.1
theorem drop_rest (x : Nat) (h0 : Qu w q o m) (hx : (x : Int) ≤ 18446744073709551615) (hr : isin m x = true) :
    Calls Try.prog 17 #[.pointer (some ⟨q, 0, none⟩), .int .u64 (x : Int)] w (fun e w' => QOut w q o (dropm m x) true e w' ∧ Rest w w' q) := by
  obtain ⟨p, o, h, rfl⟩ := h0
  have ha := all_at h.c
  have hd := idrop_in x h.ob hx (isin_true.1 hr)
  have HQ := Lib.hid (show ∀ w2 o', Ob w2 p o' (dropm m x) → Fr o w w2 → Wd.Sub w o' o → QOut w q (q :: o) (dropm m x) true (.returned (.bool true)) w2 ∧ Rest w w2 q from
    fun w2 o' a b c => ⟨QOut.of h (Fr.refl _ _) h.c h.f a b c, Rest.fr (World.block_lt_of_cell? _ _ h.c) h.out b⟩)
  clear h hr
  go_enter Try.func17, Try.ntmps17
  go_wp2_with fail
  refine ha.mono ?_
  rintro e w1 ⟨rfl, rfl⟩
  clear ha
  go_wp2_with fail
  refine hd.mono ?_
  rintro e w2 ⟨rfl, o', h2, hF, hS⟩
  have hq := Lib.hid (HQ.out w2 o' h2 hF hS)
  clear hd h2 hF hS HQ
  go_wp2
  go_returns
  exact hq.out
theorem drop_in (x : Nat) (h0 : Qu w q o m) (hx : (x : Int) ≤ 18446744073709551615) (hr : isin m x = true) :
    Calls Try.prog 17 #[.pointer (some ⟨q, 0, none⟩), .int .u64 (x : Int)] w (QOut w q o (dropm m x) true) :=
  (drop_rest x h0 hx hr).mono fun _ _ h => h.1
theorem drop_out (x : Nat) (h0 : Qu w q o m) (hx : (x : Int) ≤ 18446744073709551615) (hr : isin m x = false) :
    Calls Try.prog 17 #[.pointer (some ⟨q, 0, none⟩), .int .u64 (x : Int)] w fun e w' => e = .returned (.bool false) ∧ w = w' := by
  obtain ⟨p, o, h, rfl⟩ := h0
  have ha := all_at h.c
  have hd := idrop_out x h.ob hx (isin_false.1 hr)
  clear h hr
  go_enter Try.func17, Try.ntmps17
  go_wp2_with fail
  refine ha.mono ?_
  rintro e w1 ⟨rfl, rfl⟩
  clear ha
  go_wp2_with fail
  refine hd.mono ?_
  rintro e w1 ⟨rfl, rfl⟩
  clear hd
  go_wp2
  go_returns
  exact ⟨rfl, rfl⟩
/-- Drop, whether it is there or not -/
theorem drop_at (x : Nat) (r : Bool) (h0 : Qu w q o m) (hx : (x : Int) ≤ 18446744073709551615) (hr : isin m x = r) :
    Calls Try.prog 17 #[.pointer (some ⟨q, 0, none⟩), .int .u64 (x : Int)] w (QOut w q o (dropm m x) r) := by
  cases r with
  | true => exact drop_in x h0 hx hr
  | false =>
    refine (drop_out x h0 hx hr).mono ?_
    rintro e w' ⟨rfl, rfl⟩
    rw [dropm_out (isin_false.1 hr)]
    exact ⟨rfl, o, h0, Fr.refl _ _, Sub.refl _ _⟩
theorem qlen_at (n : Nat) (h0 : Qu w q o m) (hn : m.length = n) : Calls Try.prog 15 #[.pointer (some ⟨q, 0, none⟩)] w fun e w' => e = .returned (.int .i64 (n : Int)) ∧ w = w' := by
  obtain ⟨p, o, h, rfl⟩ := h0
  have ha := all_at h.c
  obtain ⟨A, c, b, N, K, D, h1, _, _, h2, rfl⟩ := h.ob
  have hl := len_at h1
  rw [← h2.len, hn] at hl
  clear h h1 h2
  go_enter Try.func15, Try.ntmps15
  go_wp2_with fail
  refine ha.mono ?_
  rintro e w1 ⟨rfl, rfl⟩
  clear ha
  go_wp2_with fail
  refine hl.mono ?_
  rintro e w1 ⟨rfl, rfl⟩
  clear hl
  go_wp2
  go_returns
  exact ⟨rfl, rfl⟩
set_option maxRecDepth 20000 in
theorem at_in (x : It) (h0 : Qu w q o m) (hx : x ∈ m) : Calls Try.prog 19 #[.pointer (some ⟨q, 0, none⟩), .int .u64 (x.1 : Int)] w fun e w' => e = .returned (.tuple #[.int .u64 (x.2 : Int), .bool true]) ∧ w = w' := by
  obtain ⟨p, o, h, rfl⟩ := h0
  have ha := all_at h.c
  obtain ⟨A, c, b, N, K, D, h1, hP, _, h2, rfl⟩ := h.ob
  obtain ⟨i, hi, rfl⟩ := h2.mem.1 hx
  have hk := look_in h1 hP hi
  have c0 := h1.c0
  have c1 := h1.c1
  have hN := h1.few
  obtain ⟨g, rfl, i0, i1, _, hc, _⟩ := h1.get hi
  have y2 : (0 : Int) ≤ (i : Int) := by omega
  have y3 : ((i : Int)).toNat = i := by omega
  clear h h1 h2 hP hx
  generalize K i = x at *
  go_enter Try.func19, Try.ntmps19
  go_wp2_with fail
  refine ha.mono ?_
  rintro e w1 ⟨rfl, rfl⟩
  clear ha
  go_wp2
  go_ret2
  exact ⟨rfl, rfl⟩
theorem at_out (x : Nat) (h0 : Qu w q o m) (hx : (x : Int) ≤ 18446744073709551615) (hr : isin m x = false) : Calls Try.prog 19 #[.pointer (some ⟨q, 0, none⟩), .int .u64 (x : Int)] w fun e w' => e = .returned (.tuple #[.int .u64 0, .bool false]) ∧ w = w' := by
  obtain ⟨p, o, h, rfl⟩ := h0
  have ha := all_at h.c
  obtain ⟨A, c, b, N, K, D, h1, hP, _, h2, rfl⟩ := h.ob
  obtain ⟨r, hk⟩ := look_out h1 hP hx (fun i hi => isin_false.1 hr _ (h2.mem.2 ⟨i, hi, rfl⟩))
  have c1 := h1.c1
  clear h h1 h2 hP hr
  go_enter Try.func19, Try.ntmps19
  go_wp2_with fail
  refine ha.mono ?_
  rintro e w1 ⟨rfl, rfl⟩
  clear ha
  go_wp2
  go_ret2
  exact ⟨rfl, rfl⟩
theorem first_none (h0 : Qu w q o []) : Calls Try.prog 16 #[.pointer (some ⟨q, 0, none⟩)] w fun e w' => e = .returned (.tuple #[.int .u64 0, .int .u64 0, .bool false]) ∧ w = w' := by
  obtain ⟨p, o, h, rfl⟩ := h0
  have ha := all_at h.c
  obtain ⟨A, c, b, N, K, D, h1, hP, _, h2, rfl⟩ := h.ob
  have hN := h2.len
  simp at hN
  subst hN
  have c0 := h1.c0
  clear h h1 h2 hP
  go_enter Try.func16, Try.ntmps16
  go_wp2_with fail
  refine ha.mono ?_
  rintro e w1 ⟨rfl, rfl⟩
  clear ha
  go_wp2
  go_ret3
  exact ⟨rfl, rfl⟩
set_option maxRecDepth 20000 in
set_option maxHeartbeats 1000000 in
theorem first_some (x : It) (h0 : Qu w q o (x :: m)) : Calls Try.prog 16 #[.pointer (some ⟨q, 0, none⟩)] w fun e w' => e = .returned (.tuple #[.int .u64 (x.1 : Int), .int .u64 (x.2 : Int), .bool true]) ∧ Below w.heap.size w w' := by
  obtain ⟨p, o, h, rfl⟩ := h0
  have ha := all_at h.c
  obtain ⟨A, c, b, N, K, D, h1, hP, hH, h2, rfl⟩ := h.ob
  obtain ⟨hN, rfl⟩ := h2.first hH
  have c0 := h1.c0
  have hN2 := h1.few
  obtain ⟨g, rfl, i0, i1, _, hc, _⟩ := h1.get hN
  simp only [Nat.zero_mul, Nat.zero_add] at i0 i1
  have hb := Lib.hid (drew_below w)
  clear h h1 h2 hP hH
  generalize K 0 = x at *
  go_enter Try.func16, Try.ntmps16
  go_wp2_with fail
  refine ha.mono ?_
  rintro e w1 ⟨rfl, rfl⟩
  clear ha
  go_wp2_with fail
  go_region
  go_wp2
  go_ret3
  exact ⟨rfl, hb.out⟩
end
end Go.Proofs.Ytfpecjhgadijlaa.U12
