/-
  Put of a histogram.
-/
import Derived.Test.YthggaoobbkflaaaH11New
set_option linter.unusedSimpArgs false
set_option linter.unusedVariables false
namespace Go.Proofs.Ythggaoobbkflaaa.H11
open Go.RowKit Go.Lib Go.Proofs.Ythggaoobbkflaaa.Wd Go.Proofs.Ythggaoobbkflaaa.S10

/-- what Put leaves -/
def PtOut (p lo hi : Nat) (bs m : List Nat) (r : Int) (w : World) (e : Ending) (w' : World) : Prop := e = .returned (.int .i64 r) ∧ Hi w' p lo hi bs m ∧ Fx lo hi w w'
theorem add_in (S m : Nat) (w : World) (hm : (m : Int) ≤ 18446744073709551615) :
    Calls Try.prog 20 #[ct (sn S) (sf S), .int .u64 (m : Int)] w fun e w' => e = .returned (ct (sn (S + m)) (sf (S + m))) ∧ Below w.heap.size w w' :=
  add_at (S : Int) (sn S) (m : Int) _ _ _ w (is_ S) (by omega) hm (is_add S m)
set_option maxRecDepth 20000 in
set_option maxHeartbeats 4000000 in
theorem put_at (p lo hi x : Nat) (bs l : List Nat) (w : World) (h0 : Hi w p lo hi bs l) (hx : (x : Int) ≤ 18446744073709551615) :
    Calls Try.prog 9 #[.pointer (some ⟨p, 0, none⟩), .int .u64 (x : Int)] w (PtOut p lo hi bs (l ++ [x]) 0 w) := by
  obtain ⟨g, A, c, h, hb⟩ := h0
  have hbp := hb p (mem_bl.2 (.inl rfl))
  have hbg := hb g (mem_bl.2 (.inr (.inl rfl)))
  have HBL := Lib.hid hb
  have hf := h.rt.few
  have hS := bucket_at A c bs.length x _ bs w h.us rfl h.rt.up hx (by omega) rfl
  have hP := place_at p g c (bk bs x) A bs _ _ _ w h (bk_le bs x)
  have hc := h.at_ (bk_le bs x)
  have hset := fun W (hW : Hr W p g A c bs (kk bs l) l.length l.sum) => hW.setb (bk_le bs x) (kk bs l (bk bs x) + 1)
  have hat := fun W (hW : Hr W p g A c bs (kk bs l) l.length l.sum) => hW.at_ (bk_le bs x)
  have hBB : lo ≤ bB p g bs (bk bs x) ∧ bB p g bs (bk bs x) < hi := by
    unfold bB
    split
    · exact ⟨hbg.1, hbg.2.1⟩
    · exact ⟨hbp.1, hbp.2.1⟩
  have hup := Lib.hid (upd_put bs l x)
  generalize bB p g bs (bk bs x) = B at *
  generalize bO bs (bk bs x) = O at *
  generalize hk : bk bs x = k at *
  have HK := Lib.hid hk
  clear hk hb
  have a0 := h.c0
  have k0 := hc.c0
  have k1 := hc.c1
  have hA1 := fun W => add_in (kk bs l k) 1 W (by omega)
  have hA2 := fun W => add_in l.length 1 W (by omega)
  have hA3 := fun W => add_in l.sum x W hx
  go_enter Try.func9, Try.ntmps9
  go_wp2_with fail
  refine hS.mono ?_
  rintro e w1 ⟨rfl, rfl⟩
  go_wp2_with fail
  refine hP.mono ?_
  rintro e w1 ⟨rfl, rfl⟩
  clear hS hP a0
  go_wp2_with fail
  refine (hA1 _).mono ?_
  rintro e w1 ⟨rfl, b1⟩
  have h1 := h.below b1
  have F1 := Fx.of b1 lo hi
  clear h k0 k1 hc b1 hA1
  have hc := hat w1 h1
  have k0 := hc.c0
  have k1 := hc.c1
  have f0 := hc.f0
  have f1 := hc.f1
  have h2 := hset w1 h1
  have F2 := F1.trans (Fx.put (lo := lo) (hi := hi) w1 B O (kk bs l k + 1) hBB.1 hBB.2)
  clear h1 F1 hset hat hc
  go_upto_region 5 with fail
  unfold cput at h2 F2
  generalize (w1.setCell ⟨B, O, none⟩ (.int .u64 (sn (kk bs l k + 1)))).setCell ⟨B, O + 1, none⟩ (.bool (sf (kk bs l k + 1))) = w2 at *
  clear k0 k1 f0 f1 hBB
  have k0 := h2.n.c0
  have k1 : w2.cell? ⟨p, 5, none⟩ = some (.bool (sf l.length)) := h2.n.c1
  go_wp2_with fail
  refine (hA2 _).mono ?_
  rintro e w3 ⟨rfl, b3⟩
  have h3 := h2.below b3
  have F3 := F2.trans (Fx.of b3 lo hi)
  clear h2 k0 k1 b3 hA2 F2
  have k0 := h3.n.c0
  have k1 : w3.cell? ⟨p, 5, none⟩ = some (.bool (sf l.length)) := h3.n.c1
  have f0 := h3.n.f0
  have f1 : w3.frozen? ⟨p, 5, none⟩ = false := h3.n.f1
  have h4 := h3.setn (l.length + 1)
  have F4 := F3.trans (Fx.put (lo := lo) (hi := hi) w3 p 4 (l.length + 1) hbp.1 hbp.2.1)
  clear h3 F3
  go_upto_region 6 with fail
  unfold cput at h4 F4
  simp only [Nat.reduceAdd] at h4 F4
  generalize (w3.setCell ⟨p, 4, none⟩ (.int .u64 (sn (l.length + 1)))).setCell ⟨p, 5, none⟩ (.bool (sf (l.length + 1))) = w4 at *
  clear k0 k1 f0 f1
  have k0 := h4.s.c0
  have k1 : w4.cell? ⟨p, 7, none⟩ = some (.bool (sf l.sum)) := h4.s.c1
  go_wp2_with fail
  refine (hA3 _).mono ?_
  rintro e w5 ⟨rfl, b5⟩
  have h5 := h4.below b5
  have F5 := F4.trans (Fx.of b5 lo hi)
  clear h4 k0 k1 b5 hA3 F4
  have k0 := h5.s.c0
  have k1 : w5.cell? ⟨p, 7, none⟩ = some (.bool (sf l.sum)) := h5.s.c1
  have f0 := h5.s.f0
  have f1 : w5.frozen? ⟨p, 7, none⟩ = false := h5.s.f1
  have h6 := h5.sets (l.sum + x)
  have F6 := F5.trans (Fx.put (lo := lo) (hi := hi) w5 p 6 (l.sum + x) hbp.1 hbp.2.1)
  clear h5 F5
  go_upto_region 7 with fail
  unfold cput at h6 F6
  simp only [Nat.reduceAdd] at h6 F6
  generalize (w5.setCell ⟨p, 6, none⟩ (.int .u64 (sn (l.sum + x)))).setCell ⟨p, 7, none⟩ (.bool (sf (l.sum + x))) = w6 at *
  clear k0 k1 f0 f1
  go_wp2
  go_ret
  refine ⟨rfl, ⟨g, A, c, h6.eq (fun i _ => hup.out i) (by simp) (by simp), fun k hk => ?_⟩, F6⟩
  have := HBL.out k hk
  exact ⟨this.1, this.2.1, Nat.lt_of_lt_of_le this.2.2 F6.size⟩
end Go.Proofs.Ythggaoobbkflaaa.H11
