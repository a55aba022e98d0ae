/-
  until: what is gone through is added to a row of the call's own.
-/
import Derived.Test.YtephbjomplmkgaaU12Queue
set_option linter.unusedSimpArgs false
set_option linter.unusedVariables false
namespace Go.Proofs.Ytephbjomplmkgaa.U12
open Go.RowKit Go.Lib Go.Maps Go.Proofs.Ytephbjomplmkgaa.Wd

section
variable {w0 w w' : World} {p c b N base : Nat} {A : Option Addr} {K : Nat → It} {D : DataW Unit}
theorem ic_one (x : It) : ∀ u ∈ ic x, u.oneCell' = true := by
  intro u hu
  unfold ic at hu
  simp only [List.mem_cons, List.not_mem_nil, or_false] at hu
  rcases hu with rfl | rfl <;> rfl
theorem lit_rd (w : World) (e : TypeId) (x : It) : Rd 2 (w.alloc (.cells #[.int .u64 (x.1 : Int), .int .u64 (x.2 : Int)] e)) (some ⟨w.heap.size, 0, none⟩) 1 1 (ic x) :=
  Rd.own (base := 0) (World.ownsRow_lit (base := 0) (e := e) (size := 2) w #[.int .u64 (x.1 : Int), .int .u64 (x.2 : Int)] 1 (Nat.zero_le _) (by unfold maxLen; omega) rfl)
/-- what until tells -/
def UnOut (base : Nat) (w : World) (l : List It) (e : Ending) (w' : World) : Prop :=
  ∃ B n d, e = .returned (.slice B n d) ∧ l.length = n ∧ w'.ownsRow base 53 2 (.slice B n d) n (irow l) ∧ Below base w w'
theorem UnOut.of {B : Option Addr} {n d : Nat} {l : List It} (hn : l.length = n) (ho : w'.ownsRow base 53 2 (.slice B n d) n (irow l)) (hb : Below base w w') : UnOut base w l (.returned (.slice B n d)) w' := ⟨B, n, d, rfl, hn, ho, hb⟩
theorem Im.above (h : Im w p A c b N K D) (ho : ∀ x ∈ own p A b, x < base) (hb : Below base w w') : Im w' p A c b N K D := h.same fun x hx => hb.block x (ho x hx)
set_option maxRecDepth 20000 in
set_option maxHeartbeats 2000000 in
theorem until_at (t : Nat) (ht : (t : Int) ≤ 18446744073709551615) : ∀ (f i : Nat) (B : Option Addr) (n d : Nat) (l : List It) (w : World), N - i ≤ f → Im w p A c b N K D → (∀ x ∈ own p A b, x < base) → base ≤ w.heap.size →
    w.ownsRow base 53 2 (.slice B n d) n (irow l) → l.length = n → l.length + (ul K N t f i).length ≤ 100000 → i ≤ 100000 →
    Calls Try.prog 22 #[.pointer (some ⟨p, 0, none⟩), .slice B n d, .int .i64 (i : Int), .int .u64 (t : Int)] w (UnOut base w (l ++ ul K N t f i)) := by
  intro f
  induction f with
  | zero =>
    intro i B n d l w hf h ho hbs hown hn hlen hi
    have hout := Lib.hid (show UnOut base w (l ++ ul K N t 0 i) (.returned (.slice B n d)) w from by
      rw [ul_out (.inl (by omega)), List.append_nil]
      exact UnOut.of hn hown (Below.refl _ _))
    have c0 := h.c0
    have hN := h.few
    have hge : (N : Int) ≤ (i : Int) := by omega
    clear h ho hown hlen hn
    go_enter Try.func22, Try.ntmps22
    go_wp2
    go_ret
    exact hout.out
  | succ f ih =>
    intro i B n d l w hf h ho hbs hown hn hlen hi
    have c0 := h.c0
    have hN := h.few
    by_cases hge : N ≤ i
    · have hout := Lib.hid (show UnOut base w (l ++ ul K N t (f + 1) i) (.returned (.slice B n d)) w from by
        rw [ul_out (.inl hge), List.append_nil]
        exact UnOut.of hn hown (Below.refl _ _))
      have hge : (N : Int) ≤ (i : Int) := by omega
      clear h ho hown hlen hn ih
      go_enter Try.func22, Try.ntmps22
      go_wp2
      go_ret
      exact hout.out
    · obtain ⟨g, rfl, i0, i1, _, hc, _⟩ := h.get (by omega : i < N)
      have y2 : (0 : Int) ≤ (i : Int) := by omega
      have y3 : ((i : Int)).toNat = i := by omega
      have y4 : ¬ (N : Int) ≤ (i : Int) := by omega
      by_cases hgt : t < (K i).2
      · have hout := Lib.hid (show UnOut base w (l ++ ul K N t (f + 1) i) (.returned (.slice B n d)) w from by
          rw [ul_out (.inr hgt), List.append_nil]
          exact UnOut.of hn hown (Below.refl _ _))
        have y5 : (t : Int) < ((K i).2 : Int) := by omega
        clear h ho hown hlen hn ih hge hgt
        generalize ((K i).1 : Int) = a0 at *
        generalize ((K i).2 : Int) = a1 at *
        go_enter Try.func22, Try.ntmps22
        go_wp2
        go_ret
        exact hout.out
      · have e := ul_in (f := f) (show ¬ (N ≤ i ∨ t < (K i).2) by omega)
        have y5 : ¬ (t : Int) < ((K i).2 : Int) := by omega
        obtain ⟨j1, hj1⟩ : ∃ j1, 2 * i + 1 = j1 := ⟨_, rfl⟩
        obtain ⟨j2, hj2⟩ : ∃ j2, 2 * i + 2 = j2 := ⟨_, rfl⟩
        have e1 : 2 * (i : Int) + 1 = (j1 : Int) := by omega
        have e2 : 2 * (i : Int) + 2 = (j2 : Int) := by omega
        rw [e, hj1, hj2] at hlen
        rw [e, hj1, hj2]
        have hj : N - j1 ≤ f ∧ N - j2 ≤ f ∧ j1 ≤ 100000 ∧ j2 ≤ 100000 := by omega
        simp only [List.length_cons, List.length_append] at hlen
        have bl : Below base w (w.alloc (.cells #[.int .u64 ((K i).1 : Int), .int .u64 ((K i).2 : Int)] 53)) := (Below.refl _ _).alloc hbs _
        have hown2 := own_below hown ((Below.refl w.heap.size w).alloc (Nat.le_refl _) (.cells #[.int .u64 ((K i).1 : Int), .int .u64 ((K i).2 : Int)] 53))
        have hlit := lit_rd w 53 (K i)
        have hic := ic_one (K i)
        have HI := Lib.hid ih
        have HM := Lib.hid h
        have HO := Lib.hid ho
        have HBL := Lib.hid bl
        have HLN := Lib.hid hlen
        have hsz : (w.alloc (.cells #[.int .u64 ((K i).1 : Int), .int .u64 ((K i).2 : Int)] 53)).heap.size = w.heap.size + 1 := by simp
        obtain ⟨i0', hi0, hz0, hz1, hz2⟩ := info_of item_info
        have d1 : n + 1 ≤ maxLen := by unfold maxLen; omega
        have d2 : (n + 1) * 16 ≤ 140737488355328 := by omega
        have d3 : base ≤ (w.alloc (.cells #[.int .u64 ((K i).1 : Int), .int .u64 ((K i).2 : Int)] 53)).heap.size := by omega
        clear h ho hown hlen ih hge hgt e bl hj1 hj2
        go_enter Try.func22, Try.ntmps22
        go_wp2_with (at_builtin; refine wpList_append_rd _ rfl (.tmp 29) (.tmp 37) 54 rfl base 53 i0' _ 2 16 Try.underlying54 hi0 hz0 hz1 hz2 rfl (by decide) (.slice B n d) n (irow l) rfl hown2 (some ⟨w.heap.size, 0, none⟩) 1 1 (ic (K i)) rfl hlit hic d1 d2 d3 ?_)
        intro B1 d1' w1 hown1 hg1
        have HW := Lib.hid (show w1.ownsRow base 53 2 (.slice B1 (n + 1) d1') (n + 1) (irow (l ++ [K i])) from by rw [irow_app]; exact hown1)
        have hb1 : Below base w w1 := HBL.out.grown hg1 d3 (fun k hk => (hown2.lt k hk).1)
        have h1 := HM.out.above HO.out hb1
        have hs1 : base ≤ w1.heap.size := Nat.le_trans hbs hb1.size
        have hc1 := HI.out j1 B1 (n + 1) d1' (l ++ [K i]) w1 hj.1 h1 HO.out hs1 HW.out (by simp [hn]) (by have := HLN.out; simp; omega) hj.2.2.1
        have HB1 := Lib.hid hb1
        clear hown1 hg1 hown2 hlit hic h1 hb1 HBL d1 d2 d3 hsz HW c0 i0 i1
        go_wp2_with fail
        refine hc1.mono ?_
        rintro e w2 ⟨B2, n2, d2, rfl, hn2, hown2, hb2⟩
        have hb3 := HB1.out.trans hb2
        have h2 := HM.out.above HO.out hb3
        have hc2 := HI.out j2 B2 n2 d2 _ w2 hj.2.1 h2 HO.out (Nat.le_trans hbs hb3.size) hown2 hn2 (by have := HLN.out; simp; omega) hj.2.2.2
        have HB2 := Lib.hid hb3
        clear hc1 h2 hb2 hb3 hown2 HB1
        go_wp2_with fail
        refine hc2.mono ?_
        rintro e w3 ⟨B3, n3, d3, rfl, hn3, hown3, hb4⟩
        have hout := Lib.hid (show UnOut base w (l ++ K i :: (ul K N t f j1 ++ ul K N t f j2)) (.returned (.slice B3 n3 d3)) w3 from by
          have e : l ++ K i :: (ul K N t f j1 ++ ul K N t f j2) = l ++ [K i] ++ ul K N t f j1 ++ ul K N t f j2 := by simp
          rw [e]
          exact UnOut.of hn3 hown3 (HB2.out.trans hb4))
        clear hc2 hn3 hown3 hb4 HB2
        go_wp2
        go_ret
        exact hout.out
end
end Go.Proofs.Ytephbjomplmkgaa.U12
