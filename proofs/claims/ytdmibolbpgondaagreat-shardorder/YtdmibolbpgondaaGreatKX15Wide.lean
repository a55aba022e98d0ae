/-
  Of, Check, Add of a span with any number of attributes.
  New of what may not be; Held, Deadline, Due.
  Shard.Take; Traces of an empty one.
  tallyroomlaw15.alive.
-/
import Derived.Test.YtdmibolbpgondaaGreatKX15Add
import Derived.Test.YtdmibolbpgondaaGreatKP06Ord
import Derived.Test.YtdmibolbpgondaaGreatKX15Shd
import Derived.Handy
section
set_option linter.unusedSimpArgs false
set_option linter.unusedVariables false
namespace Go.Proofs.YtdmibolbpgondaaGreat.P06
open Go.Shelf Go.RowKit Go.Lib Go.Sort Go.Proofs.YtdmibolbpgondaaGreat.Wd Go.Proofs.YtdmibolbpgondaaGreat.V04
set_option maxRecDepth 20000 in
set_option maxHeartbeats 4000000 in
theorem ofw_any (s : Sp) (A : Option Addr) (c : Nat) (l : List At) (w : World) (h : Ats w A c l) (hm : l.length * 48 ≤ 140737488355328) :
    Calls Tryz.prog 11 #[spv s (.slice A l.length c)] w fun e w' => ∃ A' c', e = .returned (spv s (.slice A' l.length c')) ∧ Hd w.heap.size w' A' c' l ∧ Below w.heap.size w w' := by
  have mixed : Tryz.prog.follows .mixedOrders = true := by kernel_rfl
  obtain ⟨i0, hi, hz0, hz1, hz2⟩ := info_parts attr_info
  obtain ⟨n, hn⟩ : ∃ n, l.length = n := ⟨_, rfl⟩
  have HN := Lib.hid hn
  rw [hn] at hm ⊢
  clear hn
  go_enter Tryz.func11, Tryz.ntmps11
  go_wp2
  have hst := OfR.start 34 45 86 w s A n c l
  go_loopw [4] (fun v wr => ∃ (k : Nat) (A2 : Option Addr) (c2 : Nat), v = .int .i64 k ∧ k ≤ n ∧ OfR 34 45 86 w s A n c l k A2 c2 wr) (fun v _ => n - (intOf v).toNat)
  case atStart => exact ⟨0, none, 0, rfl, Nat.zero_le _, hst⟩
  case round =>
    clear hst
    obtain ⟨k, A2, c2, rfl, hk, R⟩ := hrel
    have c9 : wr.cell? ⟨w.heap.size, 9, none⟩ = some (.slice A n c) := R.b1.cell 9
    by_cases hlt : k < n
    · have hltz : (k : Int) < (n : Int) := by omega
      have hkl : k < l.length := by rw [un HN]; exact hlt
      obtain ⟨ad, p, rfl, hp, F⟩ := h.get hkl
      have pl := World.block_lt_of_cell? _ _ F.c0
      have x9 : wr.cell? ⟨w.heap.size + 1 + 1, 9, none⟩ = some (.slice A2 k c2) := R.b3.cell 9
      have fx : wr.frozen? ⟨w.heap.size + 1 + 1, 9, none⟩ = false := R.b3.frozen 9
      have f0 := (R.bel.cell (p := p) pl).trans F.c0
      have f1 := (R.bel.cell (p := ⟨p.block, p.off + 1, none⟩) pl).trans F.c1
      have f2 : wr.cell? ⟨p.block, p.off + 1 + 1, none⟩ = some (.int .i64 l[k].N) := (R.bel.cell (p := ⟨p.block, p.off + 2, none⟩) pl).trans F.c2
      have f3 : wr.cell? ⟨p.block, p.off + 1 + 2, none⟩ = some (.string l[k].S) := (R.bel.cell (p := ⟨p.block, p.off + 3, none⟩) pl).trans F.c3
      go_wp2_with fail
      have R' : OfR 34 45 86 w s (some ad) n c l k A2 c2 wr.drew := ⟨R.b1, R.b2, R.b3, R.own, ⟨R.bel.os, R.bel.tape, R.bel.output, R.bel.size, R.bel.block⟩, R.lt⟩
      replace c9 : wr.drew.cell? ⟨w.heap.size, 9, none⟩ = some (.slice (some ad) n c) := c9
      replace x9 : wr.drew.cell? ⟨w.heap.size + 1 + 1, 9, none⟩ = some (.slice A2 k c2) := x9
      replace f0 : wr.drew.cell? p = some (.string l[k].key) := f0
      replace f1 : wr.drew.cell? ⟨p.block, p.off + 1, none⟩ = some (.int .i64 l[k].K) := f1
      replace f2 : wr.drew.cell? ⟨p.block, p.off + 1 + 1, none⟩ = some (.int .i64 l[k].N) := f2
      replace f3 : wr.drew.cell? ⟨p.block, p.off + 1 + 2, none⟩ = some (.string l[k].S) := f3
      clear F R fx
      have e0 : (0 : Int) ≤ (k : Int) := by omega
      have e1 : ((k : Int)).toNat = k := by omega
      generalize hx : l[k] = x at *
      have hb1 : Below wr.drew.heap.size wr.drew ((wr.alloc (.cells #[.string x.key, .int .i64 x.K, .int .i64 x.N, .string x.S] 86)).drew) := ((Below.refl _ _).alloc (Nat.le_refl _) _ : Below wr.drew.heap.size wr.drew (wr.drew.alloc _))
      have ho1 : (wr.alloc (.cells #[.string x.key, .int .i64 x.K, .int .i64 x.N, .string x.S] 86)).drew.ownsRow (w.heap.size + 1 + 1 + 1) 86 4 (.slice A2 k c2) k ((l.take k).flatMap enc) := R'.own.alloc (.cells #[.string x.key, .int .i64 x.K, .int .i64 x.N, .string x.S] 86)
      have hlit : Rd 4 (wr.alloc (.cells #[.string x.key, .int .i64 x.K, .int .i64 x.N, .string x.S] 86)).drew (some ⟨wr.heap.size, 0, none⟩) 1 1 (enc x) := Rd.lit4 wr.drew 86 x
      have hlt3 := R'.lt
      have a9 : ((wr.alloc (.cells #[.string x.key, .int .i64 x.K, .int .i64 x.N, .string x.S] 86)).drew).cell? ⟨w.heap.size + 1 + 1, 9, none⟩ = some (.slice A2 k c2) := (R'.b3.below hb1).cell 9
      have d1 : k + 1 ≤ maxLen := by unfold maxLen; omega
      have d2 : (k + 1) * 48 ≤ 140737488355328 := by omega
      have d3 : w.heap.size + 1 + 1 + 1 ≤ ((wr.alloc (.cells #[.string x.key, .int .i64 x.K, .int .i64 x.N, .string x.S] 86)).drew).heap.size := Nat.le_trans hlt3 hb1.size
      have keep1 : ∀ (q : Addr) (v : Value), wr.drew.cell? q = some v → (wr.alloc (.cells #[.string x.key, .int .i64 x.K, .int .i64 x.N, .string x.S] 86)).drew.cell? q = some v := fun q v h => by rw [hb1.cell (World.block_lt_of_cell? _ _ h)]; exact h
      have keep2 : ∀ (w2 : World), (wr.alloc (.cells #[.string x.key, .int .i64 x.K, .int .i64 x.N, .string x.S] 86)).drew.grownBy w2 (Value.slice A2 k c2).ownBlock → ∀ (q : Addr) (v : Value), q.block < w.heap.size + 1 + 1 + 1 → wr.drew.cell? q = some v → w2.cell? q = some v := fun w2 hg q v hq h => by
        have h1 := keep1 q v h
        rw [World.cell?_of_block (hg.block _ (World.block_lt_of_cell? _ _ h1) (fun e => by have := (ho1.lt _ e.symm).1; omega))]
        exact h1
      have pl2 : p.block < w.heap.size + 1 + 1 + 1 := by omega
      have n1 : w.heap.size < w.heap.size + 1 + 1 + 1 := by omega
      have n2 : w.heap.size + 1 + 1 < w.heap.size + 1 + 1 + 1 := by omega
      have S1 : Aside ((wr.alloc (.cells #[.string x.key, .int .i64 x.K, .int .i64 x.N, .string x.S] 86)).drew.cell? ⟨w.heap.size + 1 + 1, 9, none⟩ = some (.slice A2 k c2) ∧ (wr.alloc (.cells #[.string x.key, .int .i64 x.K, .int .i64 x.N, .string x.S] 86)).drew.cell? ⟨w.heap.size, 9, none⟩ = some (.slice (some ad) n c) ∧ (wr.alloc (.cells #[.string x.key, .int .i64 x.K, .int .i64 x.N, .string x.S] 86)).drew.cell? p = some (.string x.key) ∧ (wr.alloc (.cells #[.string x.key, .int .i64 x.K, .int .i64 x.N, .string x.S] 86)).drew.cell? ⟨p.block, p.off + 1, none⟩ = some (.int .i64 x.K) ∧ (wr.alloc (.cells #[.string x.key, .int .i64 x.K, .int .i64 x.N, .string x.S] 86)).drew.cell? ⟨p.block, p.off + 1 + 1, none⟩ = some (.int .i64 x.N) ∧ (wr.alloc (.cells #[.string x.key, .int .i64 x.K, .int .i64 x.N, .string x.S] 86)).drew.cell? ⟨p.block, p.off + 1 + 2, none⟩ = some (.string x.S)) := (show _ ∧ _ from ⟨keep1 _ _ x9, keep1 _ _ c9, keep1 _ _ f0, keep1 _ _ f1, keep1 _ _ f2, keep1 _ _ f3⟩)
      have KP : Aside (∀ w2 : World, (wr.alloc (.cells #[.string x.key, .int .i64 x.K, .int .i64 x.N, .string x.S] 86)).drew.grownBy w2 (Value.slice A2 k c2).ownBlock → w2.cell? ⟨w.heap.size + 1 + 1, 9, none⟩ = some (.slice A2 k c2) ∧ w2.cell? ⟨w.heap.size, 9, none⟩ = some (.slice (some ad) n c) ∧ w2.cell? p = some (.string x.key) ∧ w2.cell? ⟨p.block, p.off + 1, none⟩ = some (.int .i64 x.K) ∧ w2.cell? ⟨p.block, p.off + 1 + 1, none⟩ = some (.int .i64 x.N) ∧ w2.cell? ⟨p.block, p.off + 1 + 2, none⟩ = some (.string x.S)) := fun w2 hg => ⟨keep2 w2 hg _ _ n2 x9, keep2 w2 hg _ _ n1 c9, keep2 w2 hg _ _ pl2 f0, keep2 w2 hg _ _ pl2 f1, keep2 w2 hg _ _ pl2 f2, keep2 w2 hg _ _ pl2 f3⟩
      have KF : Aside (∀ w2 : World, (wr.alloc (.cells #[.string x.key, .int .i64 x.K, .int .i64 x.N, .string x.S] 86)).drew.grownBy w2 (Value.slice A2 k c2).ownBlock → Bk w2 (w.heap.size + 1 + 1) 45 (spc s (.slice A2 k c2))) := fun w2 hg => by
        have h1 : Bk (wr.alloc (.cells #[.string x.key, .int .i64 x.K, .int .i64 x.N, .string x.S] 86)).drew (w.heap.size + 1 + 1) 45 (spc s (.slice A2 k c2)) := R'.b3.below hb1
        unfold Bk at h1 ⊢
        rw [hg.block _ (Array.getElem?_eq_some_iff.1 h1).1 (fun e => by have := (ho1.lt _ e.symm).1; omega)]
        exact h1
      clear keep1 keep2
      refine wp_zed (S := fun w' => w'.cell? ⟨w.heap.size + 1 + 1, 9, none⟩ = some (.slice A2 k c2) ∧ w'.cell? ⟨w.heap.size, 9, none⟩ = some (.slice (some ad) n c) ∧ w'.cell? p = some (.string x.key) ∧ w'.cell? ⟨p.block, p.off + 1, none⟩ = some (.int .i64 x.K) ∧ w'.cell? ⟨p.block, p.off + 1 + 1, none⟩ = some (.int .i64 x.N) ∧ w'.cell? ⟨p.block, p.off + 1 + 2, none⟩ = some (.string x.S)) (z := 18) mixed ?_
      refine Zed.take (i := 0) (v := .pointer (some ⟨w.heap.size + 1 + 1, 9, none⟩)) rfl (by kernel_rfl) rfl (by kernel_rfl) (by kernel_rfl) (by kernel_rfl) (fun _ _ _ h => h) ?_ ⟨x9, c9, f0, f1, f2, f3⟩ ?_
      · refine .inl ⟨rfl, fun W hW => ?_⟩
        obtain ⟨q1, q2, q3, q4, q5, q6⟩ := hW
        go_simp
      (try simp only [Act.put, List.setIfInBounds_toArray, List.set_cons_zero, List.set_cons_succ])
      refine Zed.take (i := 1) (v := .slice A2 k c2) rfl (by kernel_rfl) rfl (by kernel_rfl) (by kernel_rfl) (by kernel_rfl) (fun _ _ _ h => h) ?_ ⟨x9, c9, f0, f1, f2, f3⟩ ?_
      · refine .inl ⟨rfl, fun W hW => ?_⟩
        obtain ⟨q1, q2, q3, q4, q5, q6⟩ := hW
        go_simp
      (try simp only [Act.put, List.setIfInBounds_toArray, List.set_cons_zero, List.set_cons_succ])
      refine Zed.take (i := 2) (v := .pointer (some ⟨w.heap.size, 9, none⟩)) rfl (by kernel_rfl) rfl (by kernel_rfl) (by kernel_rfl) (by kernel_rfl) (fun _ _ _ h => h) ?_ ⟨x9, c9, f0, f1, f2, f3⟩ ?_
      · refine .inl ⟨rfl, fun W hW => ?_⟩
        obtain ⟨q1, q2, q3, q4, q5, q6⟩ := hW
        go_simp
      (try simp only [Act.put, List.setIfInBounds_toArray, List.set_cons_zero, List.set_cons_succ])
      refine Zed.take (i := 3) (v := .slice (some ad) n c) rfl (by kernel_rfl) rfl (by kernel_rfl) (by kernel_rfl) (by kernel_rfl) (fun _ _ _ h => h) ?_ ⟨x9, c9, f0, f1, f2, f3⟩ ?_
      · refine .inl ⟨rfl, fun W hW => ?_⟩
        obtain ⟨q1, q2, q3, q4, q5, q6⟩ := hW
        go_simp
      (try simp only [Act.put, List.setIfInBounds_toArray, List.set_cons_zero, List.set_cons_succ])
      refine Zed.take (i := 4) (v := .int .i64 (k : Int)) rfl (by kernel_rfl) rfl (by kernel_rfl) (by kernel_rfl) (by kernel_rfl) (fun _ _ _ h => h) ?_ ⟨x9, c9, f0, f1, f2, f3⟩ ?_
      · refine .inl ⟨rfl, fun W hW => ?_⟩
        obtain ⟨q1, q2, q3, q4, q5, q6⟩ := hW
        go_simp
      (try simp only [Act.put, List.setIfInBounds_toArray, List.set_cons_zero, List.set_cons_succ])
      refine Zed.take (i := 5) (v := .pointer (some p)) rfl (by kernel_rfl) rfl (by kernel_rfl) (by kernel_rfl) (by kernel_rfl) (fun _ _ _ h => h) ?_ ⟨x9, c9, f0, f1, f2, f3⟩ ?_
      · refine .inl ⟨rfl, fun W hW => ?_⟩
        obtain ⟨q1, q2, q3, q4, q5, q6⟩ := hW
        go_simp
      (try simp only [Act.put, List.setIfInBounds_toArray, List.set_cons_zero, List.set_cons_succ])
      refine Zed.take (i := 6) (v := .pointer (some p)) rfl (by kernel_rfl) rfl (by kernel_rfl) (by kernel_rfl) (by kernel_rfl) (fun _ _ _ h => h) ?_ ⟨x9, c9, f0, f1, f2, f3⟩ ?_
      · refine .inl ⟨rfl, fun W hW => ?_⟩
        obtain ⟨q1, q2, q3, q4, q5, q6⟩ := hW
        go_simp
      (try simp only [Act.put, List.setIfInBounds_toArray, List.set_cons_zero, List.set_cons_succ])
      refine Zed.take (i := 7) (v := .string x.key) rfl (by kernel_rfl) rfl (by kernel_rfl) (by kernel_rfl) (by kernel_rfl) (fun _ _ _ h => h) ?_ ⟨x9, c9, f0, f1, f2, f3⟩ ?_
      · refine .inl ⟨rfl, fun W hW => ?_⟩
        obtain ⟨q1, q2, q3, q4, q5, q6⟩ := hW
        go_simp
      (try simp only [Act.put, List.setIfInBounds_toArray, List.set_cons_zero, List.set_cons_succ])
      refine Zed.take (i := 8) (v := .pointer (some ⟨w.heap.size, 9, none⟩)) rfl (by kernel_rfl) rfl (by kernel_rfl) (by kernel_rfl) (by kernel_rfl) (fun _ _ _ h => h) ?_ ⟨x9, c9, f0, f1, f2, f3⟩ ?_
      · refine .inl ⟨rfl, fun W hW => ?_⟩
        obtain ⟨q1, q2, q3, q4, q5, q6⟩ := hW
        go_simp
      (try simp only [Act.put, List.setIfInBounds_toArray, List.set_cons_zero, List.set_cons_succ])
      refine Zed.take (i := 9) (v := .slice (some ad) n c) rfl (by kernel_rfl) rfl (by kernel_rfl) (by kernel_rfl) (by kernel_rfl) (fun _ _ _ h => h) ?_ ⟨x9, c9, f0, f1, f2, f3⟩ ?_
      · refine .inl ⟨rfl, fun W hW => ?_⟩
        obtain ⟨q1, q2, q3, q4, q5, q6⟩ := hW
        go_simp
      (try simp only [Act.put, List.setIfInBounds_toArray, List.set_cons_zero, List.set_cons_succ])
      refine Zed.take (i := 10) (v := .int .i64 (k : Int)) rfl (by kernel_rfl) rfl (by kernel_rfl) (by kernel_rfl) (by kernel_rfl) (fun _ _ _ h => h) ?_ ⟨x9, c9, f0, f1, f2, f3⟩ ?_
      · refine .inl ⟨rfl, fun W hW => ?_⟩
        obtain ⟨q1, q2, q3, q4, q5, q6⟩ := hW
        go_simp
      (try simp only [Act.put, List.setIfInBounds_toArray, List.set_cons_zero, List.set_cons_succ])
      refine Zed.take (i := 11) (v := .pointer (some p)) rfl (by kernel_rfl) rfl (by kernel_rfl) (by kernel_rfl) (by kernel_rfl) (fun _ _ _ h => h) ?_ ⟨x9, c9, f0, f1, f2, f3⟩ ?_
      · refine .inl ⟨rfl, fun W hW => ?_⟩
        obtain ⟨q1, q2, q3, q4, q5, q6⟩ := hW
        go_simp
      (try simp only [Act.put, List.setIfInBounds_toArray, List.set_cons_zero, List.set_cons_succ])
      refine Zed.take (i := 12) (v := .pointer (some ⟨p.block, p.off + 1, none⟩)) rfl (by kernel_rfl) rfl (by kernel_rfl) (by kernel_rfl) (by kernel_rfl) (fun _ _ _ h => h) ?_ ⟨x9, c9, f0, f1, f2, f3⟩ ?_
      · refine .inl ⟨rfl, fun W hW => ?_⟩
        obtain ⟨q1, q2, q3, q4, q5, q6⟩ := hW
        go_simp
      (try simp only [Act.put, List.setIfInBounds_toArray, List.set_cons_zero, List.set_cons_succ])
      refine Zed.take (i := 13) (v := .agg #[.int .i64 x.K, .int .i64 x.N, .string x.S]) rfl (by kernel_rfl) rfl (by kernel_rfl) (by kernel_rfl) (by kernel_rfl) (fun _ _ _ h => h) ?_ ⟨x9, c9, f0, f1, f2, f3⟩ ?_
      · refine .inl ⟨rfl, fun W hW => ?_⟩
        obtain ⟨q1, q2, q3, q4, q5, q6⟩ := hW
        go_simp
      (try simp only [Act.put, List.setIfInBounds_toArray, List.set_cons_zero, List.set_cons_succ])
      refine Zed.take (i := 14) (v := .agg #[.string x.key, .int .i64 x.K, .int .i64 x.N, .string x.S]) rfl (by kernel_rfl) rfl (by kernel_rfl) (by kernel_rfl) (by kernel_rfl) (fun _ _ _ h => h) ?_ ⟨x9, c9, f0, f1, f2, f3⟩ ?_
      · refine .inl ⟨rfl, fun W hW => ?_⟩
        obtain ⟨q1, q2, q3, q4, q5, q6⟩ := hW
        go_simp
      (try simp only [Act.put, List.setIfInBounds_toArray, List.set_cons_zero, List.set_cons_succ])
      refine Zed.step (i := 15) (by kernel_rfl) rfl rfl (fun K hK => ?_)
      go_simp
      refine hK _ _ ⟨.inr S1.out, ?_⟩
      clear hK K
      (try simp only [Act.put, List.setIfInBounds_toArray, List.set_cons_zero, List.set_cons_succ])
      refine Zed.step (i := 16) (by kernel_rfl) rfl rfl (fun K hK => ?_)
      refine wp_append_rd (.tmp 32) (.tmp 46) 43 rfl (w.heap.size + 1 + 1 + 1) 86 i0 _ 4 48 Tryz.underlying43 hi hz0 hz1 hz2 rfl (Nat.succ_pos 3) (.slice A2 k c2) k ((l.take k).flatMap enc) rfl ho1 (some ⟨wr.heap.size, 0, none⟩) 1 1 (enc x) rfl hlit (enc_one x) d1 d2 d3 ?_
      intro A3 c3 w2 hown3 hg3
      refine hK _ _ ⟨.inr (KP.out w2 hg3), ?_⟩
      clear hK K
      have y9 : w2.cell? ⟨w.heap.size + 1 + 1, 9, none⟩ = some (.slice A2 k c2) := (KF.out w2 hg3).cell 9
      have F2 := (KF.out w2 hg3).frozen 9
      (try simp only [Act.put, List.setIfInBounds_toArray, List.set_cons_zero, List.set_cons_succ])
      refine Zed.step (i := 17) (by kernel_rfl) rfl rfl (fun K hK => ?_)
      go_simp
      refine hK _ _ ⟨.inr (KP.out w2 hg3), ?_⟩
      clear hK K
      (try simp only [Act.put, List.setIfInBounds_toArray, List.set_cons_zero, List.set_cons_succ])
      refine Zed.step (i := 18) (by kernel_rfl) rfl rfl (fun K hK => ?_)
      go_simp
      refine hK _ _ ⟨.inl rfl, Zed.done (by kernel_rfl) ?_ _⟩
      clear hK K
      (try simp only [Act.put, List.setIfInBounds_toArray, List.set_cons_zero, List.set_cons_succ])
      have R2 := R'.step hkl hb1 hg3 (by rw [hx]; exact hown3)
      clear hg3 hown3 hlit ho1 hb1 R' c9 x9 f0 f1 f2 f3 S1 KP KF y9 F2
      go_wp2
      go_roundw
      case rel => exact ⟨k + 1, A3, c3, by go_num, by omega, R2⟩
      case measure => simp [intOf]; omega
    · have hltz : ¬ ((k : Int) < (n : Int)) := by omega
      have hkn : k = n := by omega
      subst hkn
      have x0 : wr.cell? ⟨w.heap.size + 1 + 1, 0, none⟩ = some (.int .u64 s.T) := R.b3.cell 0
      have x1 : wr.cell? ⟨w.heap.size + 1 + 1, 1, none⟩ = some (.int .u64 s.I) := R.b3.cell 1
      have x2 : wr.cell? ⟨w.heap.size + 1 + 1, 2, none⟩ = some (.int .u64 s.P) := R.b3.cell 2
      have x3 : wr.cell? ⟨w.heap.size + 1 + 1, 3, none⟩ = some (.string s.sv) := R.b3.cell 3
      have x4 : wr.cell? ⟨w.heap.size + 1 + 1, 4, none⟩ = some (.string s.nm) := R.b3.cell 4
      have x5 : wr.cell? ⟨w.heap.size + 1 + 1, 5, none⟩ = some (.int .i64 s.kd) := R.b3.cell 5
      have x6 : wr.cell? ⟨w.heap.size + 1 + 1, 6, none⟩ = some (.int .i64 s.st) := R.b3.cell 6
      have x7 : wr.cell? ⟨w.heap.size + 1 + 1, 7, none⟩ = some (.int .u64 s.t0) := R.b3.cell 7
      have x8 : wr.cell? ⟨w.heap.size + 1 + 1, 8, none⟩ = some (.int .u64 s.t1) := R.b3.cell 8
      have x9 : wr.cell? ⟨w.heap.size + 1 + 1, 9, none⟩ = some (.slice A2 k c2) := R.b3.cell 9
      have z0 : wr.cell? ⟨w.heap.size + 1, 0, none⟩ = some (.int .u64 0) := R.b2.cell 0
      have z1 : wr.cell? ⟨w.heap.size + 1, 1, none⟩ = some (.int .u64 0) := R.b2.cell 1
      have z2 : wr.cell? ⟨w.heap.size + 1, 2, none⟩ = some (.int .u64 0) := R.b2.cell 2
      have z3 : wr.cell? ⟨w.heap.size + 1, 3, none⟩ = some (.string ⟨#[]⟩) := R.b2.cell 3
      have z4 : wr.cell? ⟨w.heap.size + 1, 4, none⟩ = some (.string ⟨#[]⟩) := R.b2.cell 4
      have z5 : wr.cell? ⟨w.heap.size + 1, 5, none⟩ = some (.int .i64 0) := R.b2.cell 5
      have z6 : wr.cell? ⟨w.heap.size + 1, 6, none⟩ = some (.int .i64 0) := R.b2.cell 6
      have z7 : wr.cell? ⟨w.heap.size + 1, 7, none⟩ = some (.int .u64 0) := R.b2.cell 7
      have z8 : wr.cell? ⟨w.heap.size + 1, 8, none⟩ = some (.int .u64 0) := R.b2.cell 8
      have z9 : wr.cell? ⟨w.heap.size + 1, 9, none⟩ = some (.slice none 0 0) := R.b2.cell 9
      have g0 : wr.frozen? ⟨w.heap.size + 1, 0, none⟩ = false := R.b2.frozen 0
      have g1 : wr.frozen? ⟨w.heap.size + 1, 1, none⟩ = false := R.b2.frozen 1
      have g2 : wr.frozen? ⟨w.heap.size + 1, 2, none⟩ = false := R.b2.frozen 2
      have g3 : wr.frozen? ⟨w.heap.size + 1, 3, none⟩ = false := R.b2.frozen 3
      have g4 : wr.frozen? ⟨w.heap.size + 1, 4, none⟩ = false := R.b2.frozen 4
      have g5 : wr.frozen? ⟨w.heap.size + 1, 5, none⟩ = false := R.b2.frozen 5
      have g6 : wr.frozen? ⟨w.heap.size + 1, 6, none⟩ = false := R.b2.frozen 6
      have g7 : wr.frozen? ⟨w.heap.size + 1, 7, none⟩ = false := R.b2.frozen 7
      have g8 : wr.frozen? ⟨w.heap.size + 1, 8, none⟩ = false := R.b2.frozen 8
      have g9 : wr.frozen? ⟨w.heap.size + 1, 9, none⟩ = false := R.b2.frozen 9
      go_wp2
      have hfin := fun W hW => R.fin (W := W) (un HN) hW
      change bodyPost _ _ _ _ _ (P06.put10 wr (w.heap.size + 1) s (.slice A2 k c2))
      clear x0 z0 g0 x1 z1 g1 x2 z2 g2 x3 z3 g3 x4 z4 g4 x5 z5 g5 x6 z6 g6 x7 z7 g7 x8 z8 g8 x9 z9 g9 R c9
      generalize hW : P06.put10 wr (w.heap.size + 1) s (.slice A2 k c2) = W at *
      obtain ⟨hB, hH, hb⟩ := hfin W rfl
      clear hfin
      have x0 : W.cell? ⟨w.heap.size + 1, 0, none⟩ = some (.int .u64 s.T) := hB.cell 0
      have x1 : W.cell? ⟨w.heap.size + 1, 1, none⟩ = some (.int .u64 s.I) := hB.cell 1
      have x2 : W.cell? ⟨w.heap.size + 1, 2, none⟩ = some (.int .u64 s.P) := hB.cell 2
      have x3 : W.cell? ⟨w.heap.size + 1, 3, none⟩ = some (.string s.sv) := hB.cell 3
      have x4 : W.cell? ⟨w.heap.size + 1, 4, none⟩ = some (.string s.nm) := hB.cell 4
      have x5 : W.cell? ⟨w.heap.size + 1, 5, none⟩ = some (.int .i64 s.kd) := hB.cell 5
      have x6 : W.cell? ⟨w.heap.size + 1, 6, none⟩ = some (.int .i64 s.st) := hB.cell 6
      have x7 : W.cell? ⟨w.heap.size + 1, 7, none⟩ = some (.int .u64 s.t0) := hB.cell 7
      have x8 : W.cell? ⟨w.heap.size + 1, 8, none⟩ = some (.int .u64 s.t1) := hB.cell 8
      have x9 : W.cell? ⟨w.heap.size + 1, 9, none⟩ = some (.slice A2 k c2) := hB.cell 9
      (try simp only [Exit.inBlock, Exit.then])
      refine bodyPost_ret (by simp [results, Tryz.results11, go_sem, x0, x1, x2, x3, x4, x5, x6, x7, x8, x9]; try rfl) rfl ?_
      exact ⟨A2, c2, rfl, hH, hb⟩
set_option maxRecDepth 20000 in
set_option maxHeartbeats 4000000 in
theorem attrsw_any (A : Option Addr) (c n : Nat) (l : List At) (w : World) (h : Hd 0 w A c l) (hn : l.length = n) (hm : n ≤ 9223372036854775807) :
    Calls Tryz.prog 51 #[.slice A n c] w (AtOut w l) := by
  by_cases h40 : n ≤ 40
  · exact attrs_any A c n l w h hn h40
  have h16 : (16 : Int) < (n : Int) := by omega
  have hz : (0 : Int) ≤ (n : Int) := by omega
  go_enter Tryz.func51, Tryz.ntmps51
  go_wp2
  go_ret
  exact AtOut.of false rfl (by unfold Amb; simp; omega) (Below.refl _ _)
set_option maxRecDepth 20000 in
set_option maxHeartbeats 4000000 in
theorem checkw_any (s : Sp) (A : Option Addr) (c n : Nat) (l : List At) (w : World) (h : Hd 0 w A c l) (hn : l.length = n) (hm : n ≤ 9223372036854775807) (b : Bool) (hb : b = true ↔ Amb l) :
    Calls Tryz.prog 29 #[spv s (.slice A n c)] w fun e w' => e = .returned (.int .i64 (chk s b)) ∧ Below w.heap.size w w' := by
  have b0 : Below w.heap.size w (w.alloc (.cells (spc s (.slice A n c)) 45)) := by go_grown
  have hca : ∀ W, Below w.heap.size w W → Calls Tryz.prog 51 #[.slice A n c] W fun e w' => e = .returned (.bool b) ∧ Below W.heap.size W w' := fun W hW => by
    refine (attrsw_any A c n l W (h.below hW) hn hm).mono ?_
    rintro e w' ⟨b', rfl, hb', hB⟩
    refine ⟨?_, hB⟩
    rw [Bool.eq_iff_iff.2 (hb'.trans hb.symm)]
  clear h hn hb
  obtain ⟨n1, e1⟩ : ∃ q, nmb s.sv = q := ⟨_, rfl⟩
  obtain ⟨n2, e2⟩ : ∃ q, nmb s.nm = q := ⟨_, rfl⟩
  have hc1 := fun W => name_any s.sv W
  have hc2 := fun W => name_any s.nm W
  rw [e1] at hc1
  rw [e2] at hc2
  obtain ⟨r, hr⟩ : ∃ r, chk s b = r := ⟨_, rfl⟩
  rw [hr]
  unfold chk at hr
  rw [e1, e2] at hr
  clear e1 e2
  by_cases g1 : s.T = 0
  · have k1 : (s.T == 0) = true := by simp [g1]
    rw [if_pos (.inl g1)] at hr
    subst hr
    clear g1
    go_enter Tryz.func29, Tryz.ntmps29
    go_wp2
    go_ret
    exact ⟨rfl, b0⟩
  have k1 : (s.T == 0) = false := beq_false_of_ne g1
  by_cases g2 : s.I = 0
  · have k2 : (s.I == 0) = true := by simp [g2]
    rw [if_pos (.inr g2)] at hr
    subst hr
    clear g1 g2
    go_enter Tryz.func29, Tryz.ntmps29
    go_wp2
    go_ret
    exact ⟨rfl, b0⟩
  have k2 : (s.I == 0) = false := beq_false_of_ne g2
  rw [if_neg (fun h => h.elim g1 g2)] at hr
  clear g1 g2
  by_cases g3 : s.t1 < s.t0
  · rw [if_pos (.inl g3)] at hr
    subst hr
    go_enter Tryz.func29, Tryz.ntmps29
    go_wp2
    go_ret
    exact ⟨rfl, b0⟩
  by_cases g4 : 4611686018427387904 < s.t1
  · rw [if_pos (.inr g4)] at hr
    subst hr
    go_enter Tryz.func29, Tryz.ntmps29
    go_wp2
    go_ret
    exact ⟨rfl, b0⟩
  rw [if_neg (fun h => h.elim g3 g4)] at hr
  by_cases g5 : s.kd < 0
  · rw [if_pos (.inl g5)] at hr
    subst hr
    go_enter Tryz.func29, Tryz.ntmps29
    go_wp2
    go_ret
    exact ⟨rfl, b0⟩
  by_cases g6 : 4 < s.kd
  · rw [if_pos (.inr g6)] at hr
    subst hr
    go_enter Tryz.func29, Tryz.ntmps29
    go_wp2
    go_ret
    exact ⟨rfl, b0⟩
  rw [if_neg (fun h => h.elim g5 g6)] at hr
  by_cases g7 : s.st < 0
  · rw [if_pos (.inl g7)] at hr
    subst hr
    go_enter Tryz.func29, Tryz.ntmps29
    go_wp2
    go_ret
    exact ⟨rfl, b0⟩
  by_cases g8 : 2 < s.st
  · rw [if_pos (.inr g8)] at hr
    subst hr
    go_enter Tryz.func29, Tryz.ntmps29
    go_wp2
    go_ret
    exact ⟨rfl, b0⟩
  rw [if_neg (fun h => h.elim g7 g8)] at hr
  cases n1 with
  | false =>
    rw [if_pos (.inl rfl)] at hr
    subst hr
    go_enter Tryz.func29, Tryz.ntmps29
    go_wp2_with fail
    refine (hc1 _).mono ?_
    rintro e w' ⟨rfl, rfl⟩
    go_wp2
    go_ret
    exact ⟨rfl, b0⟩
  | true =>
    cases n2 with
    | false =>
      rw [if_pos (.inr rfl)] at hr
      subst hr
      go_enter Tryz.func29, Tryz.ntmps29
      go_wp2_with fail
      refine (hc1 _).mono ?_
      rintro e w' ⟨rfl, rfl⟩
      go_wp2_with fail
      refine (hc2 _).mono ?_
      rintro e w' ⟨rfl, rfl⟩
      go_wp2
      go_ret
      exact ⟨rfl, b0⟩
    | true =>
      rw [if_neg (by simp)] at hr
      cases b with
      | false =>
        rw [if_pos rfl] at hr
        subst hr
        go_enter Tryz.func29, Tryz.ntmps29
        go_wp2_with fail
        refine (hc1 _).mono ?_
        rintro e w' ⟨rfl, rfl⟩
        go_wp2_with fail
        refine (hc2 _).mono ?_
        rintro e w' ⟨rfl, rfl⟩
        go_wp2_with fail
        refine (hca _ b0).mono ?_
        rintro e w' ⟨rfl, hb2⟩
        go_wp2
        go_ret
        exact ⟨rfl, b0.trans (hb2.mono b0.size)⟩
      | true =>
        rw [if_neg (by simp)] at hr
        subst hr
        go_enter Tryz.func29, Tryz.ntmps29
        go_wp2_with fail
        refine (hc1 _).mono ?_
        rintro e w' ⟨rfl, rfl⟩
        go_wp2_with fail
        refine (hc2 _).mono ?_
        rintro e w' ⟨rfl, rfl⟩
        go_wp2_with fail
        refine (hca _ b0).mono ?_
        rintro e w' ⟨rfl, hb2⟩
        go_wp2
        go_ret
        exact ⟨rfl, b0.trans (hb2.mono b0.size)⟩
end Go.Proofs.YtdmibolbpgondaaGreat.P06
namespace Go.Proofs.YtdmibolbpgondaaGreat.X15
open Go.RowKit Go.Lib Go.Maps Go.Proofs.YtdmibolbpgondaaGreat.Wd Go.Proofs.YtdmibolbpgondaaGreat.P06
open Go.Proofs.YtdmibolbpgondaaGreat.B07 (Pn OkN OkA OkP Spn Sps pns tenA ten Ten ten_len)
open Go.Proofs.YtdmibolbpgondaaGreat.D09 (cp)
open Go.Proofs.YtdmibolbpgondaaGreat.U12 (drew_below)
set_option maxRecDepth 20000 in
set_option maxHeartbeats 4000000 in
theorem addw_wrong {sp : Nat} (s : Sp) (A : Option Addr) (c n : Nat) (l : List At) (w : World) (hn : l.length = n) (hn40 : n ≤ 9223372036854775807) (hd : Hd 0 w A c l) (b : Bool) (hb : b = true ↔ Amb l) (hck : ¬ chk s b = 0) :
    Calls Tryz.prog 10 #[.pointer (some ⟨sp, 0, none⟩), spv s (.slice A n c)] w fun e w' => e = .returned (.tuple #[.agg #[.slice none 0 0, .slice none 0 0], .int .i64 1]) ∧ Below w.heap.size w w' := by
  have bx : Bk (w.alloc (.cells (spc s (.slice A n c)) 45)) w.heap.size 45 (spc s (.slice A n c)) := Bk.new w _ _
  obtain ⟨g, hg⟩ : ∃ g, w.heap.size = g := ⟨_, rfl⟩
  obtain ⟨V, hV⟩ : ∃ V, (w.alloc (.cells (spc s (.slice A n c)) 45)).alloc (.cells #[.slice none 0 0, .slice none 0 0] 40) = V := ⟨_, rfl⟩
  have bf : Bk V (g + 1) 40 #[.slice none 0 0, .slice none 0 0] := by rw [← hV, ← hg]; have := Bk.new (w.alloc (.cells (spc s (.slice A n c)) 45)) 40 #[.slice none 0 0, .slice none 0 0]; rw [World.size_alloc] at this; exact this
  have bV : Below w.heap.size w V := by rw [← hV]; exact ((Below.refl _ _).alloc (Nat.le_refl _) _).alloc (by simp) _
  have bk : Bk V g 45 (spc s (.slice A n c)) := by rw [← hV]; rw [hg] at bx; exact bx.below ((Below.refl _ _).alloc (Nat.le_refl _) _)
  obtain ⟨k, hk⟩ : ∃ k, chk s b = k := ⟨_, rfl⟩
  have hchk := checkw_any s A c n l V (hd.below bV) hn hn40 b hb
  rw [hk] at hchk hck
  have hkb : (k == 0) = false := by simpa using hck
  clear bx hn hk
  go_enter Tryz.func10, Tryz.ntmps10
  obtain ⟨x0, x1, x2, x3, x4, x5, x6, x7, x8, x9⟩ := ten_cells bk
  go_wp2_with fail
  refine hchk.mono ?_
  rintro e w1 ⟨rfl, b1⟩
  have bf1 := bf.below b1
  have bw1 := bV.trans (b1.mono bV.size)
  have z0 := bf1.cell 0
  have z1 := bf1.cell 1
  have g0 := bf1.frozen 0
  have g1 := bf1.frozen 1
  simp only [List.getElem?_toArray, List.getElem?_cons_zero, List.getElem?_cons_succ] at z0 z1
  obtain ⟨W8, hW8⟩ : ∃ W8, (w1.setCell ⟨g + 1, 0, none⟩ (.slice none 0 0)).setCell ⟨g + 1, 1, none⟩ (.slice none 0 0) = W8 := ⟨_, rfl⟩
  have fr8 : Wd.Fr [g + 1] w1 W8 := by rw [← hW8]; exact (Fr.setCell w1 ⟨g + 1, 0, none⟩ _ (List.mem_singleton.2 rfl)).then (Fr.setCell _ ⟨g + 1, 1, none⟩ _ (List.mem_singleton.2 rfl))
  have bf8 : Bk W8 (g + 1) 40 #[.slice none 0 0, .slice none 0 0] := by rw [← hW8]; exact (bf1.set 0 _).set 1 _
  have b8 : Below w.heap.size w W8 := ((Fr.of_below [g + 1] bw1).then fr8).below (Nat.le_refl _) fun x hx => by rw [List.mem_singleton.1 hx]; omega
  have y0 := bf8.cell 0
  have y1 := bf8.cell 1
  simp only [List.getElem?_toArray, List.getElem?_cons_zero, List.getElem?_cons_succ] at y0 y1
  have HB := Lib.hid b8
  clear b8 fr8 bf8 bf bf1 bV bw1 b1 hchk hV hd bk
  go_wp2
  (try rw [hW8])
  refine bodyPost_ret (by simp [results, Tryz.results10, go_sem, y0, y1]; try rfl) rfl ?_
  exact ⟨rfl, HB.out⟩
end Go.Proofs.YtdmibolbpgondaaGreat.X15
end

section
set_option linter.unusedSimpArgs false
set_option linter.unusedVariables false
namespace Go.Proofs.YtdmibolbpgondaaGreat.X15
open Go.RowKit Go.Lib Go.Maps Go.Proofs.YtdmibolbpgondaaGreat.Wd Go.Proofs.YtdmibolbpgondaaGreat.P06
open Go.Proofs.YtdmibolbpgondaaGreat.B07 (Pn OkN OkA OkP Spn)
open Go.Proofs.YtdmibolbpgondaaGreat.U12 (It Lt Qu at_in at_out isin_false isin_true isin qunt_at UtOut)
section
variable {w w' : World} {col col' : Nat → Nat} {p : Pr} {L : List Pn} {sp : Nat}
set_option maxRecDepth 20000 in
set_option maxHeartbeats 2000000 in
theorem snew_wrong (G : Nat) (S B : Int) (w : World) (hw : MT < G ∨ S < 1 ∨ 65536 < S ∨ B < 1 ∨ 4611686018427387904 < B) : Calls Tryz.prog 8 #[.int .u64 (G : Int), .int .i64 S, .int .i64 B] w fun e w' => e = .returned (.tuple #[.pointer none, .int .i64 1]) ∧ Below w.heap.size w w' := by
  unfold MT at hw
  go_enter Tryz.func8, Tryz.ntmps8
  by_cases k1 : (4611686018427387904 : Int) < (G : Int)
  · go_wp2
    all_goals first | (exfalso; omega) | skip
    all_goals go_ret2
    all_goals exact ⟨rfl, by go_grown⟩
  · by_cases k2 : S < 1
    · go_wp2
      all_goals first | (exfalso; omega) | skip
      all_goals go_ret2
      all_goals exact ⟨rfl, by go_grown⟩
    · by_cases k3 : (65536 : Int) < S
      · go_wp2
        all_goals first | (exfalso; omega) | skip
        all_goals go_ret2
        all_goals exact ⟨rfl, by go_grown⟩
      · by_cases k4 : B < 1
        · go_wp2
          all_goals first | (exfalso; omega) | skip
          all_goals go_ret2
          all_goals exact ⟨rfl, by go_grown⟩
        · have k5 : (4611686018427387904 : Int) < B := by omega
          go_wp2
          all_goals first | (exfalso; omega) | skip
          all_goals go_ret2
          all_goals exact ⟨rfl, by go_grown⟩
set_option maxRecDepth 20000 in
set_option maxHeartbeats 2000000 in
theorem held_core {sv : Value} {pr : Pr → Prop} {n h : Nat} (ha : Calls Tryz.prog 31 #[sv] w (Alp w pr)) (hp : ∀ p, pr p → p.n = n ∧ p.h = h) :
    Calls Tryz.prog 22 #[sv] w fun e w' => e = .returned (.tuple #[.int .i64 (n : Int), .int .i64 (h : Int)]) ∧ Below w.heap.size w w' := by
  go_enter Tryz.func22, Tryz.ntmps22
  go_wp2_with fail
  refine ha.mono ?_
  rintro e w1 ⟨col, p, rfl, hR, hpr, hb⟩
  obtain ⟨e1, e2⟩ := hp p hpr
  have c3 := hR.cl.c3
  have c4 := hR.cl.c4
  rw [e1] at c3
  rw [e2] at c4
  clear ha hp hR hpr e1 e2
  go_wp2_with fail
  obtain ⟨V, hV⟩ : ∃ V, w1.alloc (.cells #[.int .i64 (n : Int), .int .i64 (h : Int)] 75) = V := ⟨_, rfl⟩
  have x0 : V.cell? ⟨w1.heap.size, 0, none⟩ = some (.int .i64 (n : Int)) := by subst hV; simp
  have x1 : V.cell? ⟨w1.heap.size, 1, none⟩ = some (.int .i64 (h : Int)) := by subst hV; simp
  have b2 : Below w.heap.size w V := by subst hV; exact hb.alloc hb.size _
  rw [hV]
  clear hV hb c3 c4
  have HB := Lib.hid (b2.drew)
  clear b2
  go_region
  go_wp2
  go_ret2
  exact ⟨rfl, HB.out⟩
set_option maxRecDepth 20000 in
set_option maxHeartbeats 2000000 in
theorem dead_core {sv : Value} {pr : Pr → Prop} {t d : Nat} {r : Bool} (ha : Calls Tryz.prog 31 #[sv] w (Alp w pr)) (ht : (t : Int) ≤ 18446744073709551615)
    (hp : ∀ p, pr p → (r = true ∧ (t, d) ∈ p.dq) ∨ (r = false ∧ d = 0 ∧ isin p.dq t = false)) :
    Calls Tryz.prog 24 #[sv, .int .u64 (t : Int)] w fun e w' => e = .returned (.tuple #[.int .u64 (d : Int), .bool r]) ∧ Below w.heap.size w w' := by
  go_enter Tryz.func24, Tryz.ntmps24
  go_wp2_with fail
  refine ha.mono ?_
  rintro e w1 ⟨col, p, rfl, hR, hpr, hb⟩
  have c6 := hR.cl.c6
  obtain ⟨o, hq, _⟩ := hR.dl
  have hat : Calls Tryz.prog 48 #[.pointer (some ⟨p.q, 0, none⟩), .int .u64 (t : Int)] w1 fun e w' => e = .returned (.tuple #[.int .u64 (d : Int), .bool r]) ∧ w1 = w' := by
    rcases hp p hpr with ⟨rfl, h1⟩ | ⟨rfl, rfl, h1⟩
    · exact at_in (t, d) hq h1
    · exact at_out t hq ht h1
  clear ha hp hR hpr hq
  go_wp2_with fail
  refine hat.mono ?_
  rintro e w2 ⟨rfl, rfl⟩
  clear hat
  go_wp2
  go_ret2
  exact ⟨rfl, hb⟩
/-- what Due tells -/
def DuOut (w : World) (ids : List Nat) (e : Ending) (w' : World) : Prop := ∃ U d, e = .returned (.slice U ids.length d) ∧ Us w' U d ids ∧ Below w.heap.size w w' ∧ ∀ a, U = some a → w.heap.size ≤ a.block ∧ a.block < w'.heap.size
set_option maxRecDepth 20000 in
set_option maxHeartbeats 2000000 in
theorem due_core {sv : Value} {pr : Pr → Prop} {m : Nat} {ids : List Nat} (ha : Calls Tryz.prog 31 #[sv] w (Alp w pr)) (hm : (m : Int) ≤ 18446744073709551615)
    (hp : ∀ p, pr p → (U12.due p.dq m).map (·.1) = ids) :
    Calls Tryz.prog 19 #[sv, .int .u64 (m : Int)] w (DuOut w ids) := by
  go_enter Tryz.func19, Tryz.ntmps19
  go_wp2_with fail
  refine ha.mono ?_
  rintro e w1 ⟨col, p, rfl, hR, hpr, hb⟩
  have c6 := hR.cl.c6
  obtain ⟨o, hq, _⟩ := hR.dl
  have hun := qunt_at m ids.length hq hm (by rw [hp p hpr])
  rw [hp p hpr] at hun
  clear ha hp hR hpr hq
  go_wp2_with fail
  refine hun.mono ?_
  rintro e w2 ⟨U, d, rfl, hu, hb2, hnew⟩
  have H := Lib.hid (show DuOut w ids (.returned (.slice U ids.length d)) w2 from ⟨U, d, rfl, hu, hb.trans (hb2.mono hb.size), fun a ha => ⟨Nat.le_trans hb.size (hnew a ha).1, (hnew a ha).2⟩⟩)
  clear hun hu hb2 hnew
  go_wp2
  go_returns
  exact H.out
theorem Sd.held (h : Sd w col sp p L) : Calls Tryz.prog 22 #[.pointer (some ⟨sp, 0, none⟩)] w fun e w' => e = .returned (.tuple #[.int .i64 (L.length : Int), .int .i64 (X15.held L : Int)]) ∧ Below w.heap.size w w' :=
  held_core h.all fun p' e => by subst e; exact ⟨h.rm.n, h.rm.h⟩
theorem held_nil (w : World) : Calls Tryz.prog 22 #[.pointer none] w fun e w' => e = .returned (.tuple #[.int .i64 0, .int .i64 0]) ∧ Below w.heap.size w w' :=
  held_core (n := 0) (h := 0) (sall_nil w) fun p' e => ⟨e.n, e.h⟩
theorem Sd.dead (h : Sd w col sp p L) {t : Nat} (ht : t ∈ trs L) : Calls Tryz.prog 24 #[.pointer (some ⟨sp, 0, none⟩), .int .u64 (t : Int)] w fun e w' => e = .returned (.tuple #[.int .u64 (dl p.G L t : Int), .bool true]) ∧ Below w.heap.size w w' := by
  obtain ⟨x, hx, rfl⟩ := mem_trs.1 ht
  exact dead_core h.all (h.rm.sm.ok x hx).tn.2 fun p' e => by subst e; exact .inl ⟨rfl, by rw [h.rm.sm.dq]; exact mem_dqs.2 ⟨_, ht, rfl⟩⟩
theorem dead_nil (t : Nat) (ht : (t : Int) ≤ 18446744073709551615) (w : World) : Calls Tryz.prog 24 #[.pointer none, .int .u64 (t : Int)] w fun e w' => e = .returned (.tuple #[.int .u64 0, .bool false]) ∧ Below w.heap.size w w' :=
  dead_core (d := 0) (sall_nil w) ht fun p' e => .inr ⟨rfl, rfl, by rw [e.dq]; rfl⟩
theorem Sd.due (h : Sd w col sp p L) (m : Nat) (hm : (m : Int) ≤ 18446744073709551615) : Calls Tryz.prog 19 #[.pointer (some ⟨sp, 0, none⟩), .int .u64 (m : Int)] w (DuOut w (X15.due p.G L m)) :=
  due_core h.all hm fun p' e => by subst e; rw [h.rm.sm.dq]; rfl
theorem due_nil (m : Nat) (hm : (m : Int) ≤ 18446744073709551615) (w : World) : Calls Tryz.prog 19 #[.pointer none, .int .u64 (m : Int)] w (DuOut w []) :=
  due_core (sall_nil w) hm fun p' e => by rw [e.dq]; rfl
end
end Go.Proofs.YtdmibolbpgondaaGreat.X15
end

section
set_option linter.unusedSimpArgs false
set_option linter.unusedVariables false
namespace Go.Proofs.YtdmibolbpgondaaGreat.X15
open Go.RowKit Go.Lib Go.Maps Go.Proofs.YtdmibolbpgondaaGreat.Wd Go.Proofs.YtdmibolbpgondaaGreat.P06
open Go.Proofs.YtdmibolbpgondaaGreat.B07 (Pn OkN OkA OkP Spn Sps pns tenA ten)
section
variable {w w' : World} {col col' : Nat → Nat} {p : Pr} {L : List Pn} {sp : Nat}
/-- what Take leaves -/
def TsOut (w : World) (col : Nat → Nat) (sp : Nat) (p : Pr) (L : List Pn) (t : Nat) (e : Ending) (w' : World) : Prop :=
  ∃ A c M col' p', e = .returned (.tuple #[.slice A (trace L t).length c, .bool true]) ∧ pns M = trace L t ∧ Out w' col' A c M ∧ Sd w' col' sp p' (rest L t) ∧ Fs w w' col col' ∧ Fix p p'
set_option maxRecDepth 20000 in
set_option maxHeartbeats 4000000 in
theorem stake_in (h : Sd w col sp p L) (t : Nat) (ht : t ∈ trs L) (hfew : L.length ≤ 500) :
    Calls Tryz.prog 16 #[.pointer (some ⟨sp, 0, none⟩), .int .u64 (t : Int)] w (TsOut w col sp p L t) := by
  obtain ⟨x, hx1, hx2⟩ := mem_trs.1 ht
  have hT : (t : Int) ≤ 18446744073709551615 := by rw [← hx2]; exact (h.rm.sm.ok x hx1).tn.2
  obtain ⟨b, hb⟩ := Option.isSome_iff_exists.1 ((h.rm.sm.bi t).2 ht)
  have hlk : (Instr.lookup 99 (.map (some p.bt)) (.int .u64 (t : Int)) false).run Tryz.prog w = .ok (.map (some b)) w := h.rm.rx.look99 hT (by rw [hb]; rfl)
  have hq := isnil_map
  have hall := sall_at h.c
  have c5 := h.rm.rx.cl.c5
  have htk := take_at h.rm t ht hfew
  clear hx1 hx2 x hb hT
  go_enter Tryz.func16, Tryz.ntmps16
  go_wp2_with fail
  refine hall.mono ?_
  rintro e w1 ⟨rfl, rfl⟩
  go_wp2_with fail
  refine htk.mono ?_
  rintro e w2 ⟨A, c, M, col', p', rfl, hM, hO, hR, hF, hX, _, _⟩
  have HFin := Lib.hid (show TsOut w col sp p L t (.returned (.tuple #[.slice A (trace L t).length c, .bool true])) w2 from ⟨A, c, M, col', p', rfl, hM, hO, h.fs hF hX hR, hF, hX⟩)
  clear hall htk hlk c5 hM hO hR hF hX
  go_wp2
  go_returns
  exact HFin.out
set_option maxRecDepth 20000 in
set_option maxHeartbeats 4000000 in
theorem stake_core {sv : Value} {pr : Pr → Prop} {t : Nat} (ht : (t : Int) ≤ 18446744073709551615) (ha : Calls Tryz.prog 31 #[sv] w (Alp w pr)) (hp : ∀ p, pr p → p.bi t = none) :
    Calls Tryz.prog 16 #[sv, .int .u64 (t : Int)] w fun e w' => e = .returned (.tuple #[.slice none 0 0, .bool false]) ∧ Below w.heap.size w w' := by
  go_enter Tryz.func16, Tryz.ntmps16
  go_wp2_with fail
  refine ha.mono ?_
  rintro e w1 ⟨col, p, rfl, hR, hpr, hb⟩
  have hlk : (Instr.lookup 99 (.map (some p.bt)) (.int .u64 (t : Int)) false).run Tryz.prog w1 = .ok (.map none) w1 := hR.look99 ht (by rw [hp p hpr]; rfl)
  have c5 := hR.cl.c5
  have hq := isnil_map
  have HB := Lib.hid hb
  clear hR hpr hb ha
  go_wp2
  go_ret2
  exact ⟨rfl, HB.out⟩
end
end Go.Proofs.YtdmibolbpgondaaGreat.X15
end

section
set_option linter.unusedSimpArgs false
set_option linter.unusedVariables false
namespace Go.Proofs.YtdmibolbpgondaaGreat.X15
open Go.RowKit Go.Lib Go.Maps Go.Proofs.YtdmibolbpgondaaGreat.Wd Go.Proofs.YtdmibolbpgondaaGreat.P06
open Go.Proofs.YtdmibolbpgondaaGreat.B07 (Pn OkN OkA OkP Spn Sps pns tenA ten)
def oneS : Sp := ⟨7, 1, 0, ⟨#[119, 101, 98]⟩, ⟨#[103, 101, 116]⟩, 1, 0, 5, 9⟩
theorem one_any (w : World) : Calls Tryz.prog 27 #[] w fun e w' => e = .returned (spv oneS (.slice none 0 0)) ∧ Below w.heap.size w w' := by
  go_enter Tryz.func27, Tryz.ntmps27
  go_wp2
  go_returns
  exact ⟨rfl, by go_grown⟩
theorem amb_nil : Amb [] := ⟨by simp, fun i h => by simp at h⟩
theorem of_nil (s : Sp) (w : World) : Calls Tryz.prog 11 #[spv s (.slice none 0 0)] w (OfOut w s 0 []) := of_at s none 0 0 [] w (Ats.nil w) rfl (by omega)
theorem chk_one : chk oneS true = 0 := by
  unfold chk
  decide
theorem okx_one : Okx (oneS, []) := by
  refine ⟨?_, by decide, ?_⟩
  · constructor <;> decide
  · constructor
    · decide
    · decide
    · decide
    · intro a ha; cases ha
theorem add_one1 : add 5 10 10000 [] (oneS, []) = ([(oneS, [])], [], []) := rfl
theorem add_one2 : add 5 10 10000 [(oneS, [])] (oneS, []) = ([(oneS, [])], [(oneS, [])], []) := rfl
set_option maxRecDepth 20000 in
set_option maxHeartbeats 4000000 in
theorem alive_any (w : World) : Calls Tryz.prog 7 #[] w fun e w' => e = .returned (.bool true) ∧ Below w.heap.size w w' := by
  have hn := snew_right 5 10 10000 w (by unfold MT; omega) (by omega) (by unfold MT; omega)
  go_enter Tryz.func7, Tryz.ntmps7
  go_wp2_with fail
  refine hn.mono ?_
  rintro e w1 ⟨sp, col, p, rfl, h1, hG, hS, hB, hcol, hsp, b1⟩
  go_wp2_with fail
  refine (one_any _).mono ?_
  rintro e w2 ⟨rfl, b2⟩
  have h2 := h1.below b2
  have hg := h2.rm.rx.new0
  have K : Bk (w2.alloc (.cells (spc oneS (.slice none 0 0)) 34)) w2.heap.size 34 (spc oneS (.slice none 0 0)) := Bk.new w2 _ _
  have b3 : Below w2.heap.size w2 (w2.alloc (.cells (spc oneS (.slice none 0 0)) 34)) := (Below.refl _ _).alloc (Nat.le_refl _) _
  have h3 := h2.below b3
  have B := (b1.trans (b2.mono b1.size)).trans (b3.mono (b1.trans (b2.mono b1.size)).size)
  go_wp2_with fail
  change Calls _ _ _ (w2.alloc (.cells (spc oneS (.slice none 0 0)) 34)) _
  generalize hX : w2.alloc (.cells (spc oneS (.slice none 0 0)) 34) = X at *
  generalize hY : w2.heap.size = g at *
  clear hX hY b3 b2 h2 h1 b1 hn
  refine (of_nil oneS _).mono ?_
  rintro e w4 ⟨A4, c4, rfl, hd4, b4⟩
  have h4 := h3.below b4
  have K4 := K.below b4
  have B4 := B.trans (b4.mono B.size)
  have ha := add_right h4 (by rw [hS, hB]; rfl) oneS A4 c4 0 [] rfl okx_one (hd4.low (Nat.zero_le _)) true (by simp [amb_nil]) chk_one (by simp) (by rw [hG]; unfold MT; omega)
  unfold AdOut at ha
  rw [hG, hS, hB, add_one1] at ha
  clear b4 hd4 h3 B K
  go_wp2_with fail
  refine ha.mono ?_
  rintro e w5 ⟨A1, c1, M1, A2, c2, M2, col5, p5, rfl, -, -, -, -, h5, F5, X5⟩
  obtain ⟨K5, hg5⟩ := bk_fs K4 F5 hg
  have hcb : ∀ {W W' : World} {col' : Nat → Nat}, Below w.heap.size w W → (∀ x, col' x ≠ 0 → w.heap.size ≤ x) → ∀ {col2 : Nat → Nat}, Fs W W' col' col2 → Below w.heap.size w W' := fun {W W' col'} hB hc {col2} F =>
    ((Fr.of_below _ hB).trans F.fr fun x hx => .inr (hc x (mem_ow.1 hx).2.1)).below (Nat.le_refl _) (o := []) fun x hx => by cases hx
  have B5 := hcb B4 hcol F5
  have hcol5 : ∀ x, col5 x ≠ 0 → w.heap.size ≤ x := fun x hx => by
    by_cases e : x < w4.heap.size
    · exact hcol x ((F5.old x e).1 hx)
    · have := B4.size; omega
  clear ha h4 K4 F5 B4 hg
  obtain ⟨x0, x1, x2, x3, x4, x5, x6, x7, x8, x9⟩ := ten_cells K5
  go_wp2_with fail
  change Calls _ _ #[spv oneS (.slice none 0 0)] _ _
  refine (of_nil oneS _).mono ?_
  rintro e w6 ⟨A6, c6, rfl, hd6, b6⟩
  have h6 := h5.below b6
  have B6 := B5.trans (b6.mono B5.size)
  have ha := add_right h6 (by rw [X5.S, X5.B, hS, hB]; rfl) oneS A6 c6 0 [] rfl okx_one (hd6.low (Nat.zero_le _)) true (by simp [amb_nil]) chk_one (by simp) (by rw [X5.G, hG]; unfold MT; omega)
  unfold AdOut at ha
  rw [X5.G, X5.S, X5.B, hG, hS, hB, add_one2] at ha
  clear b6 hd6 h5 x0 x1 x2 x3 x4 x5 x6 x7 x8 x9 K5
  go_wp2_with fail
  refine ha.mono ?_
  rintro e w7 ⟨A7, c7, M7, A8, c8, M8, col7, p7, rfl, -, -, -, -, h7, F7, X7⟩
  have B7 := hcb B6 hcol5 F7
  have b8 : Below w7.heap.size w7 (w7.alloc (.cells #[.slice A7 1 c7, .slice A8 0 c8] 40)) := (Below.refl _ _).alloc (Nat.le_refl _) _
  have K8 : Bk (w7.alloc (.cells #[.slice A7 1 c7, .slice A8 0 c8] 40)) w7.heap.size 40 #[.slice A7 1 c7, .slice A8 0 c8] := Bk.new w7 _ _
  have h8 := h7.below b8
  have hh := h8.held
  have B8 := B7.trans (b8.mono B7.size)
  have e1 : held [(oneS, [])] = 70 := rfl
  rw [e1] at hh
  clear ha h6 F7 B6 hcb hcol5 h7
  go_wp2_with fail
  refine hh.mono ?_
  rintro e w9 ⟨rfl, b9⟩
  have h9 := h8.below b9
  have K9 := K8.below b9
  have B9 := B8.trans (b9.mono B8.size)
  have hd := h9.dead (t := 7) (mem_trs.2 ⟨_, List.mem_singleton.2 rfl, rfl⟩)
  have e2 : dl p7.G [(oneS, [])] 7 = 14 := by rw [X7.G, X5.G, hG]; rfl
  rw [e2] at hd
  clear hh h8 K8 b8 b9 e1 e2
  go_wp2_with fail
  refine hd.mono ?_
  rintro e w10 ⟨rfl, b10⟩
  have K10 := K9.below b10
  have HB := Lib.hid (B9.trans (b10.mono B9.size))
  have y0 := K10.cell 0
  have y1 := K10.cell 1
  simp only [List.getElem?_toArray, List.getElem?_cons_zero, List.getElem?_cons_succ] at y0 y1
  clear hd h9 K9 B9 b10 K10
  go_wp2
  go_ret
  exact ⟨rfl, HB.out⟩
end Go.Proofs.YtdmibolbpgondaaGreat.X15
end
