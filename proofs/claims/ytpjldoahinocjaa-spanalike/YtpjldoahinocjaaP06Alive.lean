/-
  The chapter's example; Attr; Reasons.
-/
import Derived.Test.YtpjldoahinocjaaP06Alike3
import Derived.Test.YtpjldoahinocjaaP06Check2
set_option linter.unusedSimpArgs false
set_option linter.unusedVariables false
namespace Go.Proofs.Ytpjldoahinocjaa.P06
open Go.Shelf Go.RowKit Go.Lib Go.Sort Go.Proofs.Ytpjldoahinocjaa.Wd Go.Proofs.Ytpjldoahinocjaa.V04

def oneS : Sp := ⟨7, 1, 0, ⟨#[119, 101, 98]⟩, ⟨#[103, 101, 116]⟩, 1, 0, 5, 9⟩
def oneT : Sp := ⟨7, 1, 0, ⟨#[119, 101, 98]⟩, ⟨#[103, 101, 116]⟩, 1, 0, 5, 4⟩
theorem one_any (w : World) : Calls Try.prog 22 #[] w fun e w' => e = .returned (spv oneS (.slice none 0 0)) ∧ Below w.heap.size w w' := by
  go_enter Try.func22, Try.ntmps22
  go_wp2
  go_returns
  exact ⟨rfl, by go_grown⟩
theorem amb_nil : Amb [] := ⟨by simp, fun i h => by simp at h⟩
/-- Of, of none -/
def OfOut (w : World) (s : Sp) (n : Nat) (l : List At) (e : Ending) (w' : World) : Prop := ∃ A' c', e = .returned (spv s (.slice A' n c')) ∧ Hd w.heap.size w' A' c' l ∧ Below w.heap.size w w'
theorem of_at (s : Sp) (A : Option Addr) (c n : Nat) (l : List At) (w : World) (h : Ats w A c l) (hn : l.length = n) (hm : n ≤ 40) : Calls Try.prog 9 #[spv s (.slice A n c)] w (OfOut w s n l) := by
  subst hn
  exact of_any s A c l w h hm
theorem of_nil (s : Sp) (w : World) : Calls Try.prog 9 #[spv s (.slice none 0 0)] w (OfOut w s 0 []) := of_at s none 0 0 [] w (Ats.nil w) rfl (by omega)
theorem lab_one : lab oneS.sv 2 = ⟨#[119, 101]⟩ := by
  unfold lab
  decide
theorem chk_one : chk oneS true = 0 := by
  unfold chk
  decide
theorem chk_two : chk oneT true = 51 := by
  unfold chk
  decide
theorem field3 (s : Sp) (v : Value) (w : World) : (Instr.field 30 (spv s v) 3).run Try.prog w = .ok (.string s.sv) w := by kernel_rfl
set_option maxRecDepth 20000 in
set_option maxHeartbeats 4000000 in
theorem alive_any (w : World) : Calls Try.prog 7 #[] w fun e w' => e = .returned (.bool true) ∧ Below w.heap.size w w' := by
  go_enter Try.func7, Try.ntmps7
  go_wp2_with fail
  refine (one_any _).mono ?_
  rintro e w1 ⟨rfl, b1⟩
  have K : Bk (w1.alloc (.cells (spc oneT (.slice none 0 0)) 25)) w1.heap.size 25 (spc oneT (.slice none 0 0)) := Bk.new w1 _ _
  have bb : Below w.heap.size w (w1.alloc (.cells (spc oneT (.slice none 0 0)) 25)) := b1.alloc b1.size _
  go_wp2_with fail
  change Calls _ _ _ (w1.alloc (.cells (spc oneT (.slice none 0 0)) 25)) _
  generalize hX : w1.alloc (.cells (spc oneT (.slice none 0 0)) 25) = X at *
  generalize hG : w1.heap.size = G at *
  clear hX hG b1
  refine (one_any _).mono ?_
  rintro e w2 ⟨rfl, b2⟩
  replace K := K.below b2
  replace bb := bb.trans (b2.mono bb.size)
  clear b2
  go_wp2_with fail
  refine (of_nil oneS _).mono ?_
  rintro e w3 ⟨A3, c3, rfl, h3, b3⟩
  replace K := K.below b3
  replace bb := bb.trans (b3.mono bb.size)
  have hck := check_any oneS A3 c3 0 [] w3 (h3.low (Nat.zero_le _)) rfl (by omega) true (by simp [amb_nil])
  rw [chk_one] at hck
  clear b3 h3
  go_wp2_with fail
  refine hck.mono ?_
  rintro e w4 ⟨rfl, b4⟩
  replace K := K.below b4
  replace bb := bb.trans (b4.mono bb.size)
  clear b4 hck
  have x0 : w4.cell? ⟨G, 0, none⟩ = some (.int .u64 oneT.T) := K.cell 0
  have x1 : w4.cell? ⟨G, 1, none⟩ = some (.int .u64 oneT.I) := K.cell 1
  have x2 : w4.cell? ⟨G, 2, none⟩ = some (.int .u64 oneT.P) := K.cell 2
  have x3 : w4.cell? ⟨G, 3, none⟩ = some (.string oneT.sv) := K.cell 3
  have x4 : w4.cell? ⟨G, 4, none⟩ = some (.string oneT.nm) := K.cell 4
  have x5 : w4.cell? ⟨G, 5, none⟩ = some (.int .i64 oneT.kd) := K.cell 5
  have x6 : w4.cell? ⟨G, 6, none⟩ = some (.int .i64 oneT.st) := K.cell 6
  have x7 : w4.cell? ⟨G, 7, none⟩ = some (.int .u64 oneT.t0) := K.cell 7
  have x8 : w4.cell? ⟨G, 8, none⟩ = some (.int .u64 oneT.t1) := K.cell 8
  have x9 : w4.cell? ⟨G, 9, none⟩ = some (.slice none 0 0) := K.cell 9
  clear K
  go_wp2_with fail
  refine (of_nil oneT _).mono ?_
  rintro e w5 ⟨A5, c5, rfl, h5, b5⟩
  replace bb := bb.trans (b5.mono bb.size)
  have hck := check_any oneT A5 c5 0 [] w5 (h5.low (Nat.zero_le _)) rfl (by omega) true (by simp [amb_nil])
  rw [chk_two] at hck
  clear b5 h5 x0 x1 x2 x3 x4 x5 x6 x7 x8 x9
  go_wp2_with fail
  refine hck.mono ?_
  rintro e w6 ⟨rfl, b6⟩
  replace bb := bb.trans (b6.mono bb.size)
  clear b6 hck
  go_wp2_with fail
  refine (one_any _).mono ?_
  rintro e w7 ⟨rfl, b7⟩
  replace bb := bb.trans (b7.mono bb.size)
  clear b7
  go_wp2_with fail
  refine (of_nil oneS _).mono ?_
  rintro e w8 ⟨A8, c8, rfl, h8, b8⟩
  replace bb := bb.trans (b8.mono bb.size)
  clear b8 h8
  have ht : took oneS = 4 := by decide
  have hck := took_any oneS (.slice A8 0 c8) w8 (by decide) (by decide)
  rw [ht] at hck
  clear ht
  go_wp2_with fail
  refine hck.mono ?_
  rintro e w9 ⟨rfl, b9⟩
  replace bb := bb.trans (b9.mono bb.size)
  clear b9 hck
  go_wp2_with fail
  refine (one_any _).mono ?_
  rintro e wa ⟨rfl, ba⟩
  replace bb := bb.trans (ba.mono bb.size)
  clear ba
  go_wp2_with fail
  refine (of_nil oneS _).mono ?_
  rintro e wb ⟨Ab, cb, rfl, hb, bb2⟩
  replace bb := bb.trans (bb2.mono bb.size)
  have hal := alike_any oneS 2 Ab cb 0 [] wb (hb.low (Nat.zero_le _)) rfl (by omega) (by decide) (by decide)
  have hsv : (alk oneS 2).sv = ⟨#[119, 101]⟩ := lab_one
  generalize alk oneS 2 = s2 at *
  clear bb2 hb
  go_wp2_with fail
  refine hal.mono ?_
  rintro e wc ⟨Ac, cc, Yc, rfl, _, _, _, _, bc⟩
  replace bb := bb.trans (bc.mono bb.size)
  clear bc hal
  have hf := field3 s2 (.slice Ac 0 cc) wc
  rw [hsv] at hf
  go_wp2
  go_ret
  exact ⟨rfl, bb⟩

theorem reasons_any (w : World) : Calls Try.prog 21 #[] w fun e w' => e = .returned (.slice (some ⟨w.heap.size, 0, none⟩) 6 6) ∧ w' = w.alloc (.cells #[.int .i64 50, .int .i64 51, .int .i64 52, .int .i64 53, .int .i64 54, .int .i64 55] 32) := by
  go_enter Try.func21, Try.ntmps21
  go_wp2
  go_ret
  exact ⟨rfl, rfl⟩

/-- what Attr answers -/
def attrV (l : List At) (key : ByteArray) : Value := match l.findIdx? (hasK key) with
  | some i => vl l[i]!.K l[i]!.N l[i]!.S
  | none => vl 0 0 ⟨#[]⟩
def attrB (l : List At) (key : ByteArray) : Bool := (l.findIdx? (hasK key)).isSome
set_option maxRecDepth 20000 in
set_option maxHeartbeats 2000000 in
theorem attr_any (s : Sp) (A : Option Addr) (c n : Nat) (l : List At) (key : ByteArray) (w : World) (h : Hd 0 w A c l) (hn : l.length = n) (hm : n ≤ 40) :
    Calls Try.prog 17 #[spv s (.slice A n c), .string key] w fun e w' => e = .returned (.tuple #[attrV l key, .bool (attrB l key)]) ∧ Below w.heap.size w w' := by
  have K1 : Bk ((w.alloc (.cells (spc s (.slice A n c)) 30)).alloc (.cells #[.int .i64 0, .int .i64 0, .string ⟨#[]⟩] 41)) w.heap.size 30 (spc s (.slice A n c)) := (Bk.new w _ _).below (below_box _ _ (Nat.le_refl _))
  have K2 : Bk ((w.alloc (.cells (spc s (.slice A n c)) 30)).alloc (.cells #[.int .i64 0, .int .i64 0, .string ⟨#[]⟩] 41)) (w.heap.size + 1) 41 #[.int .i64 0, .int .i64 0, .string ⟨#[]⟩] := by
    have h4 := Bk.new (w.alloc (.cells (spc s (.slice A n c)) 30)) 41 #[.int .i64 0, .int .i64 0, .string ⟨#[]⟩]
    have e4 : (w.alloc (.cells (spc s (.slice A n c)) 30)).heap.size = w.heap.size + 1 := by simp
    rw [e4] at h4
    exact h4
  have b0 : Below w.heap.size w ((w.alloc (.cells (spc s (.slice A n c)) 30)).alloc (.cells #[.int .i64 0, .int .i64 0, .string ⟨#[]⟩] 41)) := by go_grown
  have hc := fun W (hW : Below w.heap.size w W) => place_any A c n l key W (h.below hW) hn hm
  cases hf : l.findIdx? (hasK key) with
  | none =>
    have e1 : plc l key = -1 := by unfold plc; rw [hf]
    have e2 : attrV l key = vl 0 0 ⟨#[]⟩ := by unfold attrV; rw [hf]
    have e3 : attrB l key = false := by unfold attrB; rw [hf]; rfl
    rw [e2, e3]
    rw [e1] at hc
    clear e1 e2 e3 hf h hn
    go_enter Try.func17, Try.ntmps17
    go_wp2_with fail
    refine (hc _ b0).mono ?_
    rintro e w2 ⟨rfl, b2⟩
    replace K2 := K2.below b2
    have x0 : w2.cell? ⟨w.heap.size + 1, 0, none⟩ = some (.int .i64 0) := K2.cell 0
    have x1 : w2.cell? ⟨w.heap.size + 1, 1, none⟩ = some (.int .i64 0) := K2.cell 1
    have x2 : w2.cell? ⟨w.heap.size + 1, 2, none⟩ = some (.string ⟨#[]⟩) := K2.cell 2
    have g0 := K2.frozen 0
    have g1 := K2.frozen 1
    have g2 := K2.frozen 2
    have J := ((K2.set 0 (.int .i64 0)).set 1 (.int .i64 0)).set 2 (.string ⟨#[]⟩)
    have bJ : Below w.heap.size w (((w2.setCell ⟨w.heap.size + 1, 0, none⟩ (.int .i64 0)).setCell ⟨w.heap.size + 1, 1, none⟩ (.int .i64 0)).setCell ⟨w.heap.size + 1, 2, none⟩ (.string ⟨#[]⟩)) := (((b0.trans (b2.mono b0.size)).setCell (p := ⟨w.heap.size + 1, 0, none⟩) (Nat.le_succ _) _).setCell (p := ⟨w.heap.size + 1, 1, none⟩) (Nat.le_succ _) _).setCell (p := ⟨w.heap.size + 1, 2, none⟩) (Nat.le_succ _) _
    clear K1 K2 b0 b2 hc
    go_wp2
    generalize ((w2.setCell ⟨w.heap.size + 1, 0, none⟩ (.int .i64 0)).setCell ⟨w.heap.size + 1, 1, none⟩ (.int .i64 0)).setCell ⟨w.heap.size + 1, 2, none⟩ (.string ⟨#[]⟩) = W at *
    have y0 : W.cell? ⟨w.heap.size + 1, 0, none⟩ = some (.int .i64 0) := J.cell 0
    have y1 : W.cell? ⟨w.heap.size + 1, 1, none⟩ = some (.int .i64 0) := J.cell 1
    have y2 : W.cell? ⟨w.heap.size + 1, 2, none⟩ = some (.string ⟨#[]⟩) := J.cell 2
    (try simp only [Exit.inBlock, Exit.then])
    refine bodyPost_ret (by simp [results, Try.results17, go_sem, y0, y1, y2]; try rfl) rfl ?_
    exact ⟨rfl, bJ⟩
  | some i =>
    have hil : i < l.length := by
      rw [List.findIdx?_eq_some_iff_getElem] at hf
      exact hf.1
    have e1 : plc l key = (i : Int) := by unfold plc; rw [hf]
    have e2 : attrV l key = vl l[i].K l[i].N l[i].S := by unfold attrV; rw [hf]; simp only; rw [getElem!_pos l i hil]
    have e3 : attrB l key = true := by unfold attrB; rw [hf]; rfl
    obtain ⟨x, hx⟩ : ∃ x, l[i] = x := ⟨_, rfl⟩
    rw [hx] at e2
    rw [e2, e3]
    rw [e1] at hc
    obtain ⟨g, rfl, _, hg, F⟩ := h.get hil
    have u1 : (i : Int) < (n : Int) := by omega
    have u2 : ¬ ((i : Int) < 0) := by omega
    clear e1 e2 e3 hf
    go_enter Try.func17, Try.ntmps17
    go_wp2_with fail
    refine (hc _ b0).mono ?_
    rintro e w2 ⟨rfl, b2⟩
    replace K1 := K1.below b2
    replace K2 := K2.below b2
    have b3 := b0.trans (b2.mono b0.size)
    have x9 : w2.cell? ⟨w.heap.size, 9, none⟩ = some (.slice (some ⟨g, 0, none⟩) n c) := K1.cell 9
    have f1 : w2.cell? ⟨g, i * 4 + 1, none⟩ = some (.int .i64 l[i].K) := (b3.cell (p := ⟨g, i * 4 + 1, none⟩) hg).trans F.c1
    have f2 : w2.cell? ⟨g, i * 4 + 1 + 1, none⟩ = some (.int .i64 l[i].N) := (b3.cell (p := ⟨g, i * 4 + 2, none⟩) hg).trans F.c2
    have f3 : w2.cell? ⟨g, i * 4 + 1 + 2, none⟩ = some (.string l[i].S) := (b3.cell (p := ⟨g, i * 4 + 3, none⟩) hg).trans F.c3
    rw [hx] at f1 f2 f3
    clear F hx
    have x0 : w2.cell? ⟨w.heap.size + 1, 0, none⟩ = some (.int .i64 0) := K2.cell 0
    have x1 : w2.cell? ⟨w.heap.size + 1, 1, none⟩ = some (.int .i64 0) := K2.cell 1
    have x2 : w2.cell? ⟨w.heap.size + 1, 2, none⟩ = some (.string ⟨#[]⟩) := K2.cell 2
    have g0 := K2.frozen 0
    have g1 := K2.frozen 1
    have g2 := K2.frozen 2
    have J := ((K2.set 0 (.int .i64 x.K)).set 1 (.int .i64 x.N)).set 2 (.string x.S)
    have bJ : Below w.heap.size w (((w2.setCell ⟨w.heap.size + 1, 0, none⟩ (.int .i64 x.K)).setCell ⟨w.heap.size + 1, 1, none⟩ (.int .i64 x.N)).setCell ⟨w.heap.size + 1, 2, none⟩ (.string x.S)) := ((b3.setCell (p := ⟨w.heap.size + 1, 0, none⟩) (Nat.le_succ _) _).setCell (p := ⟨w.heap.size + 1, 1, none⟩) (Nat.le_succ _) _).setCell (p := ⟨w.heap.size + 1, 2, none⟩) (Nat.le_succ _) _
    clear K1 K2 b0 b2 hc b3 h hn
    go_wp2
    generalize ((w2.setCell ⟨w.heap.size + 1, 0, none⟩ (.int .i64 x.K)).setCell ⟨w.heap.size + 1, 1, none⟩ (.int .i64 x.N)).setCell ⟨w.heap.size + 1, 2, none⟩ (.string x.S) = W at *
    have y0 : W.cell? ⟨w.heap.size + 1, 0, none⟩ = some (.int .i64 x.K) := J.cell 0
    have y1 : W.cell? ⟨w.heap.size + 1, 1, none⟩ = some (.int .i64 x.N) := J.cell 1
    have y2 : W.cell? ⟨w.heap.size + 1, 2, none⟩ = some (.string x.S) := J.cell 2
    (try simp only [Exit.inBlock, Exit.then])
    refine bodyPost_ret (by simp [results, Try.results17, go_sem, y0, y1, y2]; try rfl) rfl ?_
    exact ⟨rfl, bJ⟩
end Go.Proofs.Ytpjldoahinocjaa.P06
