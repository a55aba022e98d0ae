/-
  To: the program's span as the document's.
-/
import Derived.Test.YtjbnoioildbahaaP06Of
set_option linter.unusedSimpArgs false
set_option linter.unusedVariables false
namespace Go.Proofs.Ytjbnoioildbahaa.P06
open Go.Shelf Go.RowKit Go.Lib Go.Sort Go.Proofs.Ytjbnoioildbahaa.Wd Go.Proofs.Ytjbnoioildbahaa.V04

set_option maxHeartbeats 4000000 in
set_option maxRecDepth 20000 in
theorem to_any (s : Sp) (A : Option Addr) (c : Nat) (l : List At) (w : World) (h : Ats w A c l) (hm : l.length ≤ 40) :
    Calls Try.prog 19 #[spv s (.slice A l.length c)] w fun e w' => ∃ A' c', e = .returned (spv s (.slice A' l.length c')) ∧ Hd w.heap.size w' A' c' l ∧ Below w.heap.size w w' := by
  have mixed : Try.prog.follows .mixedOrders = true := by kernel_rfl
  obtain ⟨i0, hi, hz0, hz1, hz2⟩ := info_parts rattr_info
  obtain ⟨n, hn⟩ : ∃ n, l.length = n := ⟨_, rfl⟩
  have HN := Lib.hid hn
  rw [hn] at hm ⊢
  clear hn
  go_enter Try.func19, Try.ntmps19
  go_wp2
  have hst := OfR.start 39 36 53 w s A n c l
  go_loopw [4] (fun v wr => ∃ (k : Nat) (A2 : Option Addr) (c2 : Nat), v = .int .i64 k ∧ k ≤ n ∧ OfR 39 36 53 w s A n c l k A2 c2 wr) (fun v _ => n - (intOf v).toNat)
  case atStart => exact ⟨0, none, 0, rfl, Nat.zero_le _, hst⟩
  case round =>
    clear hst
    obtain ⟨k, A2, c2, rfl, hk, R⟩ := hrel
    have c9 : wr.cell? ⟨w.heap.size, 9, none⟩ = some (.slice A n c) := R.b1.cell 9
    by_cases hlt : k < n
    · have hltz : (k : Int) < (n : Int) := by omega
      have hkl : k < l.length := by rw [un HN]; exact hlt
      obtain ⟨ad, p, rfl, hp, F⟩ := h.get hkl
      have pl := World.block_lt_of_cell? _ _ F.c0
      have x9 : wr.cell? ⟨w.heap.size + 1 + 1, 9, none⟩ = some (.slice A2 k c2) := R.b3.cell 9
      have fx : wr.frozen? ⟨w.heap.size + 1 + 1, 9, none⟩ = false := R.b3.frozen 9
      have f0 := (R.bel.cell (p := p) pl).trans F.c0
      have f1 := (R.bel.cell (p := ⟨p.block, p.off + 1, none⟩) pl).trans F.c1
      have f2 : wr.cell? ⟨p.block, p.off + 1 + 1, none⟩ = some (.int .i64 l[k].N) := (R.bel.cell (p := ⟨p.block, p.off + 2, none⟩) pl).trans F.c2
      have f3 : wr.cell? ⟨p.block, p.off + 1 + 2, none⟩ = some (.string l[k].S) := (R.bel.cell (p := ⟨p.block, p.off + 3, none⟩) pl).trans F.c3
      go_wp2_with fail
      have R' : OfR 39 36 53 w s (some ad) n c l k A2 c2 wr.drew := ⟨R.b1, R.b2, R.b3, R.own, ⟨R.bel.os, R.bel.tape, R.bel.output, R.bel.size, R.bel.block⟩, R.lt⟩
      replace c9 : wr.drew.cell? ⟨w.heap.size, 9, none⟩ = some (.slice (some ad) n c) := c9
      replace x9 : wr.drew.cell? ⟨w.heap.size + 1 + 1, 9, none⟩ = some (.slice A2 k c2) := x9
      replace f0 : wr.drew.cell? p = some (.string l[k].key) := f0
      replace f1 : wr.drew.cell? ⟨p.block, p.off + 1, none⟩ = some (.int .i64 l[k].K) := f1
      replace f2 : wr.drew.cell? ⟨p.block, p.off + 1 + 1, none⟩ = some (.int .i64 l[k].N) := f2
      replace f3 : wr.drew.cell? ⟨p.block, p.off + 1 + 2, none⟩ = some (.string l[k].S) := f3
      clear F R fx
      have e0 : (0 : Int) ≤ (k : Int) := by omega
      have e1 : ((k : Int)).toNat = k := by omega
      generalize hx : l[k] = x at *
      have hb1 : Below wr.drew.heap.size wr.drew ((wr.alloc (.cells #[.string x.key, .int .i64 x.K, .int .i64 x.N, .string x.S] 53)).drew) := ((Below.refl _ _).alloc (Nat.le_refl _) _ : Below wr.drew.heap.size wr.drew (wr.drew.alloc _))
      have ho1 : (wr.alloc (.cells #[.string x.key, .int .i64 x.K, .int .i64 x.N, .string x.S] 53)).drew.ownsRow (w.heap.size + 1 + 1 + 1) 53 4 (.slice A2 k c2) k ((l.take k).flatMap enc) := R'.own.alloc (.cells #[.string x.key, .int .i64 x.K, .int .i64 x.N, .string x.S] 53)
      have hlit : Rd 4 (wr.alloc (.cells #[.string x.key, .int .i64 x.K, .int .i64 x.N, .string x.S] 53)).drew (some ⟨wr.heap.size, 0, none⟩) 1 1 (enc x) := Rd.lit4 wr.drew 53 x
      have hlt3 := R'.lt
      have a9 : ((wr.alloc (.cells #[.string x.key, .int .i64 x.K, .int .i64 x.N, .string x.S] 53)).drew).cell? ⟨w.heap.size + 1 + 1, 9, none⟩ = some (.slice A2 k c2) := (R'.b3.below hb1).cell 9
      have d1 : k + 1 ≤ maxLen := by unfold maxLen; omega
      have d2 : (k + 1) * 48 ≤ 140737488355328 := by omega
      have d3 : w.heap.size + 1 + 1 + 1 ≤ ((wr.alloc (.cells #[.string x.key, .int .i64 x.K, .int .i64 x.N, .string x.S] 53)).drew).heap.size := Nat.le_trans hlt3 hb1.size
      have keep1 : ∀ (q : Addr) (v : Value), wr.drew.cell? q = some v → (wr.alloc (.cells #[.string x.key, .int .i64 x.K, .int .i64 x.N, .string x.S] 53)).drew.cell? q = some v := fun q v h => by rw [hb1.cell (World.block_lt_of_cell? _ _ h)]; exact h
      have keep2 : ∀ (w2 : World), (wr.alloc (.cells #[.string x.key, .int .i64 x.K, .int .i64 x.N, .string x.S] 53)).drew.grownBy w2 (Value.slice A2 k c2).ownBlock → ∀ (q : Addr) (v : Value), q.block < w.heap.size + 1 + 1 + 1 → wr.drew.cell? q = some v → w2.cell? q = some v := fun w2 hg q v hq h => by
        have h1 := keep1 q v h
        rw [World.cell?_of_block (hg.block _ (World.block_lt_of_cell? _ _ h1) (fun e => by have := (ho1.lt _ e.symm).1; omega))]
        exact h1
      have pl2 : p.block < w.heap.size + 1 + 1 + 1 := by omega
      have n1 : w.heap.size < w.heap.size + 1 + 1 + 1 := by omega
      have n2 : w.heap.size + 1 + 1 < w.heap.size + 1 + 1 + 1 := by omega
      have S1 : Aside ((wr.alloc (.cells #[.string x.key, .int .i64 x.K, .int .i64 x.N, .string x.S] 53)).drew.cell? ⟨w.heap.size + 1 + 1, 9, none⟩ = some (.slice A2 k c2) ∧ (wr.alloc (.cells #[.string x.key, .int .i64 x.K, .int .i64 x.N, .string x.S] 53)).drew.cell? ⟨w.heap.size, 9, none⟩ = some (.slice (some ad) n c) ∧ (wr.alloc (.cells #[.string x.key, .int .i64 x.K, .int .i64 x.N, .string x.S] 53)).drew.cell? p = some (.string x.key) ∧ (wr.alloc (.cells #[.string x.key, .int .i64 x.K, .int .i64 x.N, .string x.S] 53)).drew.cell? ⟨p.block, p.off + 1, none⟩ = some (.int .i64 x.K) ∧ (wr.alloc (.cells #[.string x.key, .int .i64 x.K, .int .i64 x.N, .string x.S] 53)).drew.cell? ⟨p.block, p.off + 1 + 1, none⟩ = some (.int .i64 x.N) ∧ (wr.alloc (.cells #[.string x.key, .int .i64 x.K, .int .i64 x.N, .string x.S] 53)).drew.cell? ⟨p.block, p.off + 1 + 2, none⟩ = some (.string x.S)) := (show _ ∧ _ from ⟨keep1 _ _ x9, keep1 _ _ c9, keep1 _ _ f0, keep1 _ _ f1, keep1 _ _ f2, keep1 _ _ f3⟩)
      have KP : Aside (∀ w2 : World, (wr.alloc (.cells #[.string x.key, .int .i64 x.K, .int .i64 x.N, .string x.S] 53)).drew.grownBy w2 (Value.slice A2 k c2).ownBlock → w2.cell? ⟨w.heap.size + 1 + 1, 9, none⟩ = some (.slice A2 k c2) ∧ w2.cell? ⟨w.heap.size, 9, none⟩ = some (.slice (some ad) n c) ∧ w2.cell? p = some (.string x.key) ∧ w2.cell? ⟨p.block, p.off + 1, none⟩ = some (.int .i64 x.K) ∧ w2.cell? ⟨p.block, p.off + 1 + 1, none⟩ = some (.int .i64 x.N) ∧ w2.cell? ⟨p.block, p.off + 1 + 2, none⟩ = some (.string x.S)) := fun w2 hg => ⟨keep2 w2 hg _ _ n2 x9, keep2 w2 hg _ _ n1 c9, keep2 w2 hg _ _ pl2 f0, keep2 w2 hg _ _ pl2 f1, keep2 w2 hg _ _ pl2 f2, keep2 w2 hg _ _ pl2 f3⟩
      have KF : Aside (∀ w2 : World, (wr.alloc (.cells #[.string x.key, .int .i64 x.K, .int .i64 x.N, .string x.S] 53)).drew.grownBy w2 (Value.slice A2 k c2).ownBlock → Bk w2 (w.heap.size + 1 + 1) 36 (spc s (.slice A2 k c2))) := fun w2 hg => by
        have h1 : Bk (wr.alloc (.cells #[.string x.key, .int .i64 x.K, .int .i64 x.N, .string x.S] 53)).drew (w.heap.size + 1 + 1) 36 (spc s (.slice A2 k c2)) := R'.b3.below hb1
        unfold Bk at h1 ⊢
        rw [hg.block _ (Array.getElem?_eq_some_iff.1 h1).1 (fun e => by have := (ho1.lt _ e.symm).1; omega)]
        exact h1
      clear keep1 keep2
      refine wp_zed (S := fun w' => w'.cell? ⟨w.heap.size + 1 + 1, 9, none⟩ = some (.slice A2 k c2) ∧ w'.cell? ⟨w.heap.size, 9, none⟩ = some (.slice (some ad) n c) ∧ w'.cell? p = some (.string x.key) ∧ w'.cell? ⟨p.block, p.off + 1, none⟩ = some (.int .i64 x.K) ∧ w'.cell? ⟨p.block, p.off + 1 + 1, none⟩ = some (.int .i64 x.N) ∧ w'.cell? ⟨p.block, p.off + 1 + 2, none⟩ = some (.string x.S)) (z := 18) mixed ?_
      refine Zed.take (i := 0) (v := .pointer (some ⟨w.heap.size + 1 + 1, 9, none⟩)) rfl (by kernel_rfl) rfl (by kernel_rfl) (by kernel_rfl) (by kernel_rfl) (fun _ _ _ h => h) ?_ ⟨x9, c9, f0, f1, f2, f3⟩ ?_
      · refine .inl ⟨rfl, fun W hW => ?_⟩
        obtain ⟨q1, q2, q3, q4, q5, q6⟩ := hW
        go_simp
      (try simp only [Act.put, List.setIfInBounds_toArray, List.set_cons_zero, List.set_cons_succ])
      refine Zed.take (i := 1) (v := .slice A2 k c2) rfl (by kernel_rfl) rfl (by kernel_rfl) (by kernel_rfl) (by kernel_rfl) (fun _ _ _ h => h) ?_ ⟨x9, c9, f0, f1, f2, f3⟩ ?_
      · refine .inl ⟨rfl, fun W hW => ?_⟩
        obtain ⟨q1, q2, q3, q4, q5, q6⟩ := hW
        go_simp
      (try simp only [Act.put, List.setIfInBounds_toArray, List.set_cons_zero, List.set_cons_succ])
      refine Zed.take (i := 2) (v := .pointer (some ⟨w.heap.size, 9, none⟩)) rfl (by kernel_rfl) rfl (by kernel_rfl) (by kernel_rfl) (by kernel_rfl) (fun _ _ _ h => h) ?_ ⟨x9, c9, f0, f1, f2, f3⟩ ?_
      · refine .inl ⟨rfl, fun W hW => ?_⟩
        obtain ⟨q1, q2, q3, q4, q5, q6⟩ := hW
        go_simp
      (try simp only [Act.put, List.setIfInBounds_toArray, List.set_cons_zero, List.set_cons_succ])
      refine Zed.take (i := 3) (v := .slice (some ad) n c) rfl (by kernel_rfl) rfl (by kernel_rfl) (by kernel_rfl) (by kernel_rfl) (fun _ _ _ h => h) ?_ ⟨x9, c9, f0, f1, f2, f3⟩ ?_
      · refine .inl ⟨rfl, fun W hW => ?_⟩
        obtain ⟨q1, q2, q3, q4, q5, q6⟩ := hW
        go_simp
      (try simp only [Act.put, List.setIfInBounds_toArray, List.set_cons_zero, List.set_cons_succ])
      refine Zed.take (i := 4) (v := .int .i64 (k : Int)) rfl (by kernel_rfl) rfl (by kernel_rfl) (by kernel_rfl) (by kernel_rfl) (fun _ _ _ h => h) ?_ ⟨x9, c9, f0, f1, f2, f3⟩ ?_
      · refine .inl ⟨rfl, fun W hW => ?_⟩
        obtain ⟨q1, q2, q3, q4, q5, q6⟩ := hW
        go_simp
      (try simp only [Act.put, List.setIfInBounds_toArray, List.set_cons_zero, List.set_cons_succ])
      refine Zed.take (i := 5) (v := .pointer (some p)) rfl (by kernel_rfl) rfl (by kernel_rfl) (by kernel_rfl) (by kernel_rfl) (fun _ _ _ h => h) ?_ ⟨x9, c9, f0, f1, f2, f3⟩ ?_
      · refine .inl ⟨rfl, fun W hW => ?_⟩
        obtain ⟨q1, q2, q3, q4, q5, q6⟩ := hW
        go_simp
      (try simp only [Act.put, List.setIfInBounds_toArray, List.set_cons_zero, List.set_cons_succ])
      refine Zed.take (i := 6) (v := .pointer (some p)) rfl (by kernel_rfl) rfl (by kernel_rfl) (by kernel_rfl) (by kernel_rfl) (fun _ _ _ h => h) ?_ ⟨x9, c9, f0, f1, f2, f3⟩ ?_
      · refine .inl ⟨rfl, fun W hW => ?_⟩
        obtain ⟨q1, q2, q3, q4, q5, q6⟩ := hW
        go_simp
      (try simp only [Act.put, List.setIfInBounds_toArray, List.set_cons_zero, List.set_cons_succ])
      refine Zed.take (i := 7) (v := .string x.key) rfl (by kernel_rfl) rfl (by kernel_rfl) (by kernel_rfl) (by kernel_rfl) (fun _ _ _ h => h) ?_ ⟨x9, c9, f0, f1, f2, f3⟩ ?_
      · refine .inl ⟨rfl, fun W hW => ?_⟩
        obtain ⟨q1, q2, q3, q4, q5, q6⟩ := hW
        go_simp
      (try simp only [Act.put, List.setIfInBounds_toArray, List.set_cons_zero, List.set_cons_succ])
      refine Zed.take (i := 8) (v := .pointer (some ⟨w.heap.size, 9, none⟩)) rfl (by kernel_rfl) rfl (by kernel_rfl) (by kernel_rfl) (by kernel_rfl) (fun _ _ _ h => h) ?_ ⟨x9, c9, f0, f1, f2, f3⟩ ?_
      · refine .inl ⟨rfl, fun W hW => ?_⟩
        obtain ⟨q1, q2, q3, q4, q5, q6⟩ := hW
        go_simp
      (try simp only [Act.put, List.setIfInBounds_toArray, List.set_cons_zero, List.set_cons_succ])
      refine Zed.take (i := 9) (v := .slice (some ad) n c) rfl (by kernel_rfl) rfl (by kernel_rfl) (by kernel_rfl) (by kernel_rfl) (fun _ _ _ h => h) ?_ ⟨x9, c9, f0, f1, f2, f3⟩ ?_
      · refine .inl ⟨rfl, fun W hW => ?_⟩
        obtain ⟨q1, q2, q3, q4, q5, q6⟩ := hW
        go_simp
      (try simp only [Act.put, List.setIfInBounds_toArray, List.set_cons_zero, List.set_cons_succ])
      refine Zed.take (i := 10) (v := .int .i64 (k : Int)) rfl (by kernel_rfl) rfl (by kernel_rfl) (by kernel_rfl) (by kernel_rfl) (fun _ _ _ h => h) ?_ ⟨x9, c9, f0, f1, f2, f3⟩ ?_
      · refine .inl ⟨rfl, fun W hW => ?_⟩
        obtain ⟨q1, q2, q3, q4, q5, q6⟩ := hW
        go_simp
      (try simp only [Act.put, List.setIfInBounds_toArray, List.set_cons_zero, List.set_cons_succ])
      refine Zed.take (i := 11) (v := .pointer (some p)) rfl (by kernel_rfl) rfl (by kernel_rfl) (by kernel_rfl) (by kernel_rfl) (fun _ _ _ h => h) ?_ ⟨x9, c9, f0, f1, f2, f3⟩ ?_
      · refine .inl ⟨rfl, fun W hW => ?_⟩
        obtain ⟨q1, q2, q3, q4, q5, q6⟩ := hW
        go_simp
      (try simp only [Act.put, List.setIfInBounds_toArray, List.set_cons_zero, List.set_cons_succ])
      refine Zed.take (i := 12) (v := .pointer (some ⟨p.block, p.off + 1, none⟩)) rfl (by kernel_rfl) rfl (by kernel_rfl) (by kernel_rfl) (by kernel_rfl) (fun _ _ _ h => h) ?_ ⟨x9, c9, f0, f1, f2, f3⟩ ?_
      · refine .inl ⟨rfl, fun W hW => ?_⟩
        obtain ⟨q1, q2, q3, q4, q5, q6⟩ := hW
        go_simp
      (try simp only [Act.put, List.setIfInBounds_toArray, List.set_cons_zero, List.set_cons_succ])
      refine Zed.take (i := 13) (v := .agg #[.int .i64 x.K, .int .i64 x.N, .string x.S]) rfl (by kernel_rfl) rfl (by kernel_rfl) (by kernel_rfl) (by kernel_rfl) (fun _ _ _ h => h) ?_ ⟨x9, c9, f0, f1, f2, f3⟩ ?_
      · refine .inl ⟨rfl, fun W hW => ?_⟩
        obtain ⟨q1, q2, q3, q4, q5, q6⟩ := hW
        go_simp
      (try simp only [Act.put, List.setIfInBounds_toArray, List.set_cons_zero, List.set_cons_succ])
      refine Zed.take (i := 14) (v := .agg #[.string x.key, .int .i64 x.K, .int .i64 x.N, .string x.S]) rfl (by kernel_rfl) rfl (by kernel_rfl) (by kernel_rfl) (by kernel_rfl) (fun _ _ _ h => h) ?_ ⟨x9, c9, f0, f1, f2, f3⟩ ?_
      · refine .inl ⟨rfl, fun W hW => ?_⟩
        obtain ⟨q1, q2, q3, q4, q5, q6⟩ := hW
        go_simp
      (try simp only [Act.put, List.setIfInBounds_toArray, List.set_cons_zero, List.set_cons_succ])
      refine Zed.step (i := 15) (by kernel_rfl) rfl rfl (fun K hK => ?_)
      go_simp
      refine hK _ _ ⟨.inr S1.out, ?_⟩
      clear hK K
      (try simp only [Act.put, List.setIfInBounds_toArray, List.set_cons_zero, List.set_cons_succ])
      refine Zed.step (i := 16) (by kernel_rfl) rfl rfl (fun K hK => ?_)
      refine wp_append_rd (.tmp 32) (.tmp 46) 34 rfl (w.heap.size + 1 + 1 + 1) 53 i0 _ 4 48 Try.underlying34 hi hz0 hz1 hz2 rfl (Nat.succ_pos 3) (.slice A2 k c2) k ((l.take k).flatMap enc) rfl ho1 (some ⟨wr.heap.size, 0, none⟩) 1 1 (enc x) rfl hlit (enc_one x) d1 d2 d3 ?_
      intro A3 c3 w2 hown3 hg3
      refine hK _ _ ⟨.inr (KP.out w2 hg3), ?_⟩
      clear hK K
      have y9 : w2.cell? ⟨w.heap.size + 1 + 1, 9, none⟩ = some (.slice A2 k c2) := (KF.out w2 hg3).cell 9
      have F2 := (KF.out w2 hg3).frozen 9
      (try simp only [Act.put, List.setIfInBounds_toArray, List.set_cons_zero, List.set_cons_succ])
      refine Zed.step (i := 17) (by kernel_rfl) rfl rfl (fun K hK => ?_)
      go_simp
      refine hK _ _ ⟨.inr (KP.out w2 hg3), ?_⟩
      clear hK K
      (try simp only [Act.put, List.setIfInBounds_toArray, List.set_cons_zero, List.set_cons_succ])
      refine Zed.step (i := 18) (by kernel_rfl) rfl rfl (fun K hK => ?_)
      go_simp
      refine hK _ _ ⟨.inl rfl, Zed.done (by kernel_rfl) ?_ _⟩
      clear hK K
      (try simp only [Act.put, List.setIfInBounds_toArray, List.set_cons_zero, List.set_cons_succ])
      have R2 := R'.step hkl hb1 hg3 (by rw [hx]; exact hown3)
      clear hg3 hown3 hlit ho1 hb1 R' c9 x9 f0 f1 f2 f3 S1 KP KF y9 F2
      go_wp2
      go_roundw
      case rel => exact ⟨k + 1, A3, c3, by go_num, by omega, R2⟩
      case measure => simp [intOf]; omega
    · have hltz : ¬ ((k : Int) < (n : Int)) := by omega
      have hkn : k = n := by omega
      subst hkn
      have x0 : wr.cell? ⟨w.heap.size + 1 + 1, 0, none⟩ = some (.int .u64 s.T) := R.b3.cell 0
      have x1 : wr.cell? ⟨w.heap.size + 1 + 1, 1, none⟩ = some (.int .u64 s.I) := R.b3.cell 1
      have x2 : wr.cell? ⟨w.heap.size + 1 + 1, 2, none⟩ = some (.int .u64 s.P) := R.b3.cell 2
      have x3 : wr.cell? ⟨w.heap.size + 1 + 1, 3, none⟩ = some (.string s.sv) := R.b3.cell 3
      have x4 : wr.cell? ⟨w.heap.size + 1 + 1, 4, none⟩ = some (.string s.nm) := R.b3.cell 4
      have x5 : wr.cell? ⟨w.heap.size + 1 + 1, 5, none⟩ = some (.int .i64 s.kd) := R.b3.cell 5
      have x6 : wr.cell? ⟨w.heap.size + 1 + 1, 6, none⟩ = some (.int .i64 s.st) := R.b3.cell 6
      have x7 : wr.cell? ⟨w.heap.size + 1 + 1, 7, none⟩ = some (.int .u64 s.t0) := R.b3.cell 7
      have x8 : wr.cell? ⟨w.heap.size + 1 + 1, 8, none⟩ = some (.int .u64 s.t1) := R.b3.cell 8
      have x9 : wr.cell? ⟨w.heap.size + 1 + 1, 9, none⟩ = some (.slice A2 k c2) := R.b3.cell 9
      have z0 : wr.cell? ⟨w.heap.size + 1, 0, none⟩ = some (.int .u64 0) := R.b2.cell 0
      have z1 : wr.cell? ⟨w.heap.size + 1, 1, none⟩ = some (.int .u64 0) := R.b2.cell 1
      have z2 : wr.cell? ⟨w.heap.size + 1, 2, none⟩ = some (.int .u64 0) := R.b2.cell 2
      have z3 : wr.cell? ⟨w.heap.size + 1, 3, none⟩ = some (.string ⟨#[]⟩) := R.b2.cell 3
      have z4 : wr.cell? ⟨w.heap.size + 1, 4, none⟩ = some (.string ⟨#[]⟩) := R.b2.cell 4
      have z5 : wr.cell? ⟨w.heap.size + 1, 5, none⟩ = some (.int .i64 0) := R.b2.cell 5
      have z6 : wr.cell? ⟨w.heap.size + 1, 6, none⟩ = some (.int .i64 0) := R.b2.cell 6
      have z7 : wr.cell? ⟨w.heap.size + 1, 7, none⟩ = some (.int .u64 0) := R.b2.cell 7
      have z8 : wr.cell? ⟨w.heap.size + 1, 8, none⟩ = some (.int .u64 0) := R.b2.cell 8
      have z9 : wr.cell? ⟨w.heap.size + 1, 9, none⟩ = some (.slice none 0 0) := R.b2.cell 9
      have g0 : wr.frozen? ⟨w.heap.size + 1, 0, none⟩ = false := R.b2.frozen 0
      have g1 : wr.frozen? ⟨w.heap.size + 1, 1, none⟩ = false := R.b2.frozen 1
      have g2 : wr.frozen? ⟨w.heap.size + 1, 2, none⟩ = false := R.b2.frozen 2
      have g3 : wr.frozen? ⟨w.heap.size + 1, 3, none⟩ = false := R.b2.frozen 3
      have g4 : wr.frozen? ⟨w.heap.size + 1, 4, none⟩ = false := R.b2.frozen 4
      have g5 : wr.frozen? ⟨w.heap.size + 1, 5, none⟩ = false := R.b2.frozen 5
      have g6 : wr.frozen? ⟨w.heap.size + 1, 6, none⟩ = false := R.b2.frozen 6
      have g7 : wr.frozen? ⟨w.heap.size + 1, 7, none⟩ = false := R.b2.frozen 7
      have g8 : wr.frozen? ⟨w.heap.size + 1, 8, none⟩ = false := R.b2.frozen 8
      have g9 : wr.frozen? ⟨w.heap.size + 1, 9, none⟩ = false := R.b2.frozen 9
      go_wp2
      have hfin := fun W hW => R.fin (W := W) (un HN) hW
      change bodyPost _ _ _ _ _ (P06.put10 wr (w.heap.size + 1) s (.slice A2 k c2))
      clear x0 z0 g0 x1 z1 g1 x2 z2 g2 x3 z3 g3 x4 z4 g4 x5 z5 g5 x6 z6 g6 x7 z7 g7 x8 z8 g8 x9 z9 g9 R c9
      generalize hW : P06.put10 wr (w.heap.size + 1) s (.slice A2 k c2) = W at *
      obtain ⟨hB, hH, hb⟩ := hfin W rfl
      clear hfin
      have x0 : W.cell? ⟨w.heap.size + 1, 0, none⟩ = some (.int .u64 s.T) := hB.cell 0
      have x1 : W.cell? ⟨w.heap.size + 1, 1, none⟩ = some (.int .u64 s.I) := hB.cell 1
      have x2 : W.cell? ⟨w.heap.size + 1, 2, none⟩ = some (.int .u64 s.P) := hB.cell 2
      have x3 : W.cell? ⟨w.heap.size + 1, 3, none⟩ = some (.string s.sv) := hB.cell 3
      have x4 : W.cell? ⟨w.heap.size + 1, 4, none⟩ = some (.string s.nm) := hB.cell 4
      have x5 : W.cell? ⟨w.heap.size + 1, 5, none⟩ = some (.int .i64 s.kd) := hB.cell 5
      have x6 : W.cell? ⟨w.heap.size + 1, 6, none⟩ = some (.int .i64 s.st) := hB.cell 6
      have x7 : W.cell? ⟨w.heap.size + 1, 7, none⟩ = some (.int .u64 s.t0) := hB.cell 7
      have x8 : W.cell? ⟨w.heap.size + 1, 8, none⟩ = some (.int .u64 s.t1) := hB.cell 8
      have x9 : W.cell? ⟨w.heap.size + 1, 9, none⟩ = some (.slice A2 k c2) := hB.cell 9
      (try simp only [Exit.inBlock, Exit.then])
      refine bodyPost_ret (by simp [results, Try.results19, go_sem, x0, x1, x2, x3, x4, x5, x6, x7, x8, x9]; try rfl) rfl ?_
      exact ⟨A2, c2, rfl, hH, hb⟩
end Go.Proofs.Ytjbnoioildbahaa.P06
