/-
  The yard in memory: New, Put, Has, Len.
-/
import Derived.Test.YtfpecjhgadijlaaU12Queue
import Derived.Test.YtfpecjhgadijlaaY14Pure
import Derived.Test.YtfpecjhgadijlaaFxs
import Derived.BigQuiet
import Derived.Deep.QuietTactic
set_option linter.unusedSimpArgs false
set_option linter.unusedVariables false
namespace Go.Proofs.Ytfpecjhgadijlaa.Y14
open Go.RowKit Go.Lib Go.Maps Go.Proofs.Ytfpecjhgadijlaa.Wd Go.Proofs.Ytfpecjhgadijlaa.U12

/-- block q is a yard of at most M that remembers m; its blocks are o -/
structure Yd (w : World) (q : Nat) (o : List Nat) (M : Nat) (m : List It) : Prop where
  qu : Qu w q o m
  c1 : w.cell? ⟨q, 1, none⟩ = some (.int .i64 (M : Int))
  le : m.length ≤ M
section
variable {w w' : World} {q M : Nat} {o : List Nat} {m : List It}
theorem Yd.fr {o' : List Nat} (h : Yd w q o M m) (f : Fr o' w w') (hd : ∀ x ∈ o, x ∉ o') : Yd w' q o M m := by
  refine ⟨h.qu.fr f hd, ?_, h.le⟩
  obtain ⟨p, o1, k, rfl⟩ := h.qu
  exact (World.cell?_of_block (a := ⟨q, 1, none⟩) (f.block q (World.block_lt_of_cell? _ _ k.c) (hd q (List.mem_cons_self ..)))).trans h.c1
theorem Yd.below (h : Yd w q o M m) (hb : Below w.heap.size w w') : Yd w' q o M m := h.fr (Fr.of_below [] hb) (fun _ _ hx => by cases hx)
theorem Yd.rest {m' : List It} {o' : List Nat} (h : Yd w q o M m) (k : Qu w' q o' m') (r : U12.Rest w w' q) (hl : m'.length ≤ M) : Yd w' q o' M m' := ⟨k, (r 1 (by omega)).trans h.c1, hl⟩
/-- what New tells -/
def NwY (w : World) (M : Nat) (e : Ending) (w' : World) : Prop := ∃ q o, e = .returned (.tuple #[.pointer (some ⟨q, 0, none⟩), .int .i64 0]) ∧ Yd w' q o M [] ∧ (∀ x ∈ o, w.heap.size ≤ x) ∧ Below w.heap.size w w'
set_option maxRecDepth 20000 in
theorem ynew_right (M : Nat) (w : World) (hM : M ≤ 65536) : Calls Try.prog 7 #[.int .i64 (M : Int)] w (NwY w M) := by
  have hn := new_at w
  go_enter Try.func7, Try.ntmps7
  go_wp2_with fail
  refine hn.mono ?_
  rintro e w1 ⟨q, o, rfl, ⟨p, o1, h, rfl⟩, ho, hb⟩
  have c0 := h.c
  have F := Lib.hid (show NwY w M (.returned (.tuple #[.pointer (some ⟨w1.heap.size, 0, none⟩), .int .i64 0])) (w1.alloc (.cells #[.pointer (some ⟨p, 0, none⟩), .int .i64 (M : Int)] 48)) from by
    have hh := heap_alloc_new w1 (.cells #[.pointer (some ⟨p, 0, none⟩), .int .i64 (M : Int)] 48)
    have hb1 : Below w1.heap.size w1 (w1.alloc (.cells #[.pointer (some ⟨p, 0, none⟩), .int .i64 (M : Int)] 48)) := (Below.refl _ _).alloc (Nat.le_refl _) _
    refine ⟨_, w1.heap.size :: o1, rfl, ⟨⟨p, o1, ⟨U12.cell_of hh rfl, U12.froz_of hh, h.ob.below hb1, fun hm => ?_⟩, rfl⟩, U12.cell_of hh rfl, Nat.zero_le _⟩, fun x hx => ?_, hb.trans (hb1.mono hb.size)⟩
    · have := h.ob.lt _ hm
      omega
    · rcases List.mem_cons.1 hx with rfl | hx
      · exact hb.size
      · exact ho x (List.mem_cons_of_mem _ hx))
  clear hn h ho hb
  go_wp2
  go_ret2
  exact F.out
set_option maxRecDepth 20000 in
theorem ynew_wrong (M : Int) (w : World) (hM : M < 0 ∨ 65536 < M) : Calls Try.prog 7 #[.int .i64 M] w fun e w' => e = .returned (.tuple #[.pointer none, .int .i64 1]) ∧ w = w' := by
  go_enter Try.func7, Try.ntmps7
  by_cases h : M < 0
  · go_wp2
    go_ret2
    exact ⟨rfl, rfl⟩
  · have h2 : 65536 < M := by omega
    clear hM
    go_wp2
    go_ret2
    exact ⟨rfl, rfl⟩
theorem ylen_at (n : Nat) (h : Yd w q o M m) (hn : m.length = n) : Calls Try.prog 10 #[.pointer (some ⟨q, 0, none⟩)] w fun e w' => e = .returned (.int .i64 (n : Int)) ∧ w = w' := by
  have hl := qlen_at n h.qu hn
  clear h hn
  go_enter Try.func10, Try.ntmps10
  go_wp2_with fail
  refine hl.mono ?_
  rintro e w1 ⟨rfl, rfl⟩
  go_wp2
  go_ret
  exact ⟨rfl, rfl⟩
theorem yhas_at (x : Nat) (h : Yd w q o M m) (hx : (x : Int) ≤ 18446744073709551615) : Calls Try.prog 11 #[.pointer (some ⟨q, 0, none⟩), .int .u64 (x : Int)] w fun e w' => e = .returned (.bool (isin m x)) ∧ w = w' := by
  have hat : ∃ z : Int, Calls Try.prog 19 #[.pointer (some ⟨q, 0, none⟩), .int .u64 (x : Int)] w fun e w' => e = .returned (.tuple #[.int .u64 z, .bool (isin m x)]) ∧ w = w' := by
    cases hr : isin m x with
    | true =>
      obtain ⟨y, hy, rfl⟩ := isin_true.1 hr
      exact ⟨_, at_in y h.qu hy⟩
    | false => exact ⟨_, at_out x h.qu hx hr⟩
  obtain ⟨z, hat⟩ := hat
  generalize isin m x = r at *
  clear h
  go_enter Try.func11, Try.ntmps11
  go_wp2_with fail
  refine hat.mono ?_
  rintro e w1 ⟨rfl, rfl⟩
  go_wp2
  go_ret
  exact ⟨rfl, rfl⟩
/-- no yard -/
theorem yput_nil (x y : Int) (w : World) : Calls Try.prog 8 #[.pointer none, .int .u64 x, .int .u64 y] w fun e w' => e = .returned (.tuple #[.int .u64 0, .bool false, .int .i64 3]) ∧ w = w' := by
  go_enter Try.func8, Try.ntmps8
  go_wp2
  go_ret3
  exact ⟨rfl, rfl⟩
theorem yhas_nil (x : Int) (w : World) : Calls Try.prog 11 #[.pointer none, .int .u64 x] w fun e w' => e = .returned (.bool false) ∧ w = w' := by
  go_enter Try.func11, Try.ntmps11
  go_wp2
  go_ret
  exact ⟨rfl, rfl⟩
theorem ylen_nil (w : World) : Calls Try.prog 10 #[.pointer none] w fun e w' => e = .returned (.int .i64 0) ∧ w = w' := by
  go_enter Try.func10, Try.ntmps10
  go_wp2
  go_ret
  exact ⟨rfl, rfl⟩
/-- what Put leaves -/
def YOut (w : World) (q : Nat) (o : List Nat) (M : Nat) (m : List It) (x : It) (e : Ending) (w' : World) : Prop :=
  e = .returned (.tuple #[.int .u64 (yid m x M : Int), .bool (yis m x M), .int .i64 0]) ∧ ∃ o', Yd w' q o' M (yput m x M) ∧ Fr o w w' ∧ Sub w o' o
set_option maxRecDepth 20000 in
set_option maxHeartbeats 2000000 in
theorem yput_at (x : It) (h : Yd w q o M m) (hx : (x.1 : Int) ≤ 18446744073709551615 ∧ (x.2 : Int) ≤ 18446744073709551615) (hN : m.length + 1 ≤ 1000) :
    Calls Try.prog 8 #[.pointer (some ⟨q, 0, none⟩), .int .u64 (x.1 : Int), .int .u64 (x.2 : Int)] w (YOut w q o M m x) := by
  obtain ⟨r, hr⟩ : ∃ r, isin m x.1 = !r := ⟨!isin m x.1, by simp⟩
  have hput := put_rest x r h.qu hx hN hr
  have hlen1 := putm_len m x
  have hle := h.le
  have HY := Lib.hid h
  clear h hr
  go_enter Try.func8, Try.ntmps8
  go_wp2_with fail
  refine hput.mono ?_
  rintro e w1 ⟨⟨rfl, o1, h1, F1, S1⟩, R1⟩
  clear hput
  have k1 : w1.cell? ⟨q, 1, none⟩ = some (.int .i64 (M : Int)) := (R1 1 (by omega)).trans HY.out.c1
  obtain ⟨n, hn⟩ : ∃ n, (putm m x).length = n := ⟨_, rfl⟩
  have hl := fun k => (qlen_at n (h1.below (below_dn (Below.refl _ _) k)) hn).mono (fun _ _ x => ⟨x.1, x.2.symm⟩ : ∀ e w', _ → e = .returned (.int .i64 (n : Int)) ∧ w' = w1.drewN k)
  have H1 := Lib.hid (And.intro h1 (And.intro F1 (And.intro S1 R1)))
  have HN := Lib.hid hn
  clear h1 F1 S1 R1 hn
  by_cases hnM : (n : Int) ≤ (M : Int)
  · have F := Lib.hid (show ∀ k, YOut w q o M m x (.returned (.tuple #[.int .u64 0, .bool false, .int .i64 0])) (w1.drewN k) from fun k => by
      obtain ⟨h1, F1, S1, R1⟩ := H1.out
      obtain ⟨e1, e2, e3⟩ := yput_room (m := m) (x := x) (M := M) (by rw [HN.out]; omega)
      unfold YOut
      rw [e1, e2, e3]
      have hd := below_dn (Below.refl w1.heap.size w1) k
      exact ⟨rfl, o1, (HY.out.rest h1 R1 (by rw [HN.out]; omega)).below hd, F1.then (Fr.of_below _ hd), S1⟩)
    clear H1 HY
    go_wp2_with fail
    go_quiet (first | (go_at_call 15; exact Calls.quiet_of_same (hl _)))
    clear hl
    go_wp2
    go_ret3
    exact F.out _
  · cases hpm : putm m x with
    | nil => have := HN.out; rw [hpm] at this; simp at this; omega
    | cons y t =>
      obtain ⟨e1, e2, e3⟩ := yput_full hpm (M := M) (by rw [HN.out]; omega)
      have HE := Lib.hid (And.intro e1 (And.intro e2 e3))
      have HP := Lib.hid hpm
      clear e1 e2 e3 hpm
      go_wp2_with fail
      go_quiet (first | (go_at_call 15; exact Calls.quiet_of_same (hl _)))
      clear hl
      have hd1 := below_dn (Below.refl w1.heap.size w1) nq
      have h2 := H1.out.1.below hd1
      rw [HP.out] at h2
      have HD := Lib.hid hd1
      have hf := first_some y h2
      generalize w1.drewN nq = w2 at *
      clear hd1
      go_wp2_with fail
      refine hf.mono ?_
      rintro e w3 ⟨rfl, hb3⟩
      have h3 := h2.below hb3
      have hy := (h2.num y (List.mem_cons_self ..)).1
      have hdr := drop_rest y.1 h3 hy (isin_true.2 ⟨y, List.mem_cons_self .., rfl⟩)
      rw [dropm_head h2.nodup] at hdr
      have hlt := h2.lt
      clear hf h2 h3 hy
      go_wp2_with fail
      refine hdr.mono ?_
      rintro e w4 ⟨⟨rfl, o4, h4, F4, S4⟩, R4⟩
      have F := Lib.hid (show YOut w q o M m x (.returned (.tuple #[.int .u64 (y.1 : Int), .bool true, .int .i64 0])) w4 from by
        obtain ⟨h1, F1, S1, R1⟩ := H1.out
        obtain ⟨e1, e2, e3⟩ := HE.out
        have hb13 := HD.out.trans (hb3.mono HD.out.size)
        have F13 := Fr.of_below o1 hb13
        have k4 : w4.cell? ⟨q, 1, none⟩ = some (.int .i64 (M : Int)) := by
          rw [R4 1 (by omega)]
          have hq : q < w1.heap.size := by
            obtain ⟨p, oo, hh, rfl⟩ := h1
            exact World.block_lt_of_cell? _ _ hh.c
          exact (World.cell?_of_block (a := ⟨q, 1, none⟩) (hb13.block q hq)).trans k1
        have S4' : Wd.Sub w1 o4 o1 := fun z hz => by
          rcases S4 z hz with hz | hz
          · exact .inl hz
          · exact .inr (Nat.le_trans hb13.size hz)
        unfold YOut
        rw [e1, e2, e3]
        have hlen := hlen1
        rw [HP.out, List.length_cons] at hlen
        refine ⟨rfl, o4, ⟨h4, k4, by omega⟩, F1.trans (F13.then F4) S1, fun z hz => ?_⟩
        rcases S4' z hz with hz | hz
        · exact S1 z hz
        · exact .inr (Nat.le_trans F1.size hz))
      clear hdr h4 F4 S4 R4 H1 HY HE hb3
      go_wp2
      go_ret3
      exact F.out
end
end Go.Proofs.Ytfpecjhgadijlaa.Y14
