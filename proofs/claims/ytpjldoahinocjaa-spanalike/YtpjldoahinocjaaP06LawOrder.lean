/-
  The walk of SpanOrder.
-/
import Derived.Test.YtpjldoahinocjaaP06RefCmp
import Derived.Test.YtpjldoahinocjaaP06Ord
import Derived.Test.YtpjldoahinocjaaP06Alive
set_option linter.unusedSimpArgs false
set_option linter.unusedVariables false
namespace Go.Proofs.Ytpjldoahinocjaa.P06
open Go.Shelf Go.RowKit Go.Lib Go.Sort Go.Proofs.Ytpjldoahinocjaa.Wd Go.Proofs.Ytpjldoahinocjaa.V04

theorem far_at (s : Sp) (A : Option Addr) (c n : Nat) (l : List At) (b : Bool) (w : World) (h : Ats w A c l) (hn : l.length = n) (hm : n ≤ 9223372036854775807) (hb : far s l = b) :
    Calls Try.prog 8 #[spv s (.slice A n c)] w fun e w' => e = .returned (.bool b) ∧ Below w.heap.size w w' := by
  subst hn hb
  exact far_any s A c l w h hm
theorem far_len {s : Sp} {l : List At} (h : far s l = false) : l.length ≤ 40 := by
  unfold far at h
  simp only [Bool.or_eq_false_iff, decide_eq_false_iff_not] at h
  omega
theorem three (w : World) (o1 o2 o3 : Array Value) (t : TypeId) : Bk (((w.alloc (.cells o1 t)).alloc (.cells o2 t)).alloc (.cells o3 t)) w.heap.size t o1 ∧ Bk (((w.alloc (.cells o1 t)).alloc (.cells o2 t)).alloc (.cells o3 t)) (w.heap.size + 1) t o2 ∧ Bk (((w.alloc (.cells o1 t)).alloc (.cells o2 t)).alloc (.cells o3 t)) (w.heap.size + 1 + 1) t o3 := by
  have h1 := Bk.new w t o1
  have h2 := Bk.new (w.alloc (.cells o1 t)) t o2
  have h3 := Bk.new ((w.alloc (.cells o1 t)).alloc (.cells o2 t)) t o3
  have e1 : (w.alloc (.cells o1 t)).heap.size = w.heap.size + 1 := by simp
  have e2 : ((w.alloc (.cells o1 t)).alloc (.cells o2 t)).heap.size = w.heap.size + 1 + 1 := by simp
  rw [e1] at h2
  rw [e2] at h3
  exact ⟨(h1.below (below_box _ _ (Nat.le_refl _))).below (below_box _ _ (Nat.le_refl _)), h2.below (below_box _ _ (Nat.le_refl _)), h3⟩

theorem twenty {W : World} {g g' : Nat} {t t' : TypeId} {s s' : Sp} {v v' : Value} (h : Bk W g t (spc s v)) (h' : Bk W g' t' (spc s' v')) : W.cell? ⟨g, 0, none⟩ = some (.int .u64 s.T) ∧ W.cell? ⟨g, 1, none⟩ = some (.int .u64 s.I) ∧ W.cell? ⟨g, 2, none⟩ = some (.int .u64 s.P) ∧ W.cell? ⟨g, 3, none⟩ = some (.string s.sv) ∧ W.cell? ⟨g, 4, none⟩ = some (.string s.nm) ∧ W.cell? ⟨g, 5, none⟩ = some (.int .i64 s.kd) ∧ W.cell? ⟨g, 6, none⟩ = some (.int .i64 s.st) ∧ W.cell? ⟨g, 7, none⟩ = some (.int .u64 s.t0) ∧ W.cell? ⟨g, 8, none⟩ = some (.int .u64 s.t1) ∧ W.cell? ⟨g, 9, none⟩ = some (v) ∧ W.cell? ⟨g', 0, none⟩ = some (.int .u64 s'.T) ∧ W.cell? ⟨g', 1, none⟩ = some (.int .u64 s'.I) ∧ W.cell? ⟨g', 2, none⟩ = some (.int .u64 s'.P) ∧ W.cell? ⟨g', 3, none⟩ = some (.string s'.sv) ∧ W.cell? ⟨g', 4, none⟩ = some (.string s'.nm) ∧ W.cell? ⟨g', 5, none⟩ = some (.int .i64 s'.kd) ∧ W.cell? ⟨g', 6, none⟩ = some (.int .i64 s'.st) ∧ W.cell? ⟨g', 7, none⟩ = some (.int .u64 s'.t0) ∧ W.cell? ⟨g', 8, none⟩ = some (.int .u64 s'.t1) ∧ W.cell? ⟨g', 9, none⟩ = some (v') :=
  ⟨h.cell 0, h.cell 1, h.cell 2, h.cell 3, h.cell 4, h.cell 5, h.cell 6, h.cell 7, h.cell 8, h.cell 9, h'.cell 0, h'.cell 1, h'.cell 2, h'.cell 3, h'.cell 4, h'.cell 5, h'.cell 6, h'.cell 7, h'.cell 8, h'.cell 9⟩
theorem or_vals : ∀ l : List Int, (∀ x ∈ l, -1 ≤ x ∧ x ≤ 1) → -1 ≤ orL l ∧ orL l ≤ 1
  | [], _ => by simp [orL]
  | x :: l, h => by
    rw [orL]
    split
    · exact h x (by simp)
    · exact or_vals l fun y hy => h y (by simp [hy])
theorem ci_vals (x y : Int) : -1 ≤ compareInt x y ∧ compareInt x y ≤ 1 := by
  unfold compareInt
  repeat' split
  all_goals omega
theorem cb_vals2 (x y : List UInt8) : -1 ≤ compareBytes x y ∧ compareBytes x y ≤ 1 := by
  have := cb_vals x y
  omega
theorem cmpA_vals (x y : At) : -1 ≤ cmpA x y ∧ cmpA x y ≤ 1 := by
  unfold cmpA
  refine or_vals _ fun q hq => ?_
  simp only [List.mem_cons, List.not_mem_nil, or_false] at hq
  rcases hq with rfl | rfl
  · exact cb_vals2 _ _
  · have := cmpV_vals x.K x.N x.S y.K y.N y.S
    omega
theorem cmpL_vals : ∀ l m : List At, -1 ≤ cmpL l m ∧ cmpL l m ≤ 1
  | [], [] => by simp [cmpL]
  | [], _ :: _ => by simp [cmpL]
  | _ :: _, [] => by simp [cmpL]
  | x :: l, y :: m => by
    rw [cmpL]
    split
    · exact cmpA_vals x y
    · exact cmpL_vals l m
theorem cmpS_vals (s t : Sp) (l m : List At) : -1 ≤ cmpS s t l m ∧ cmpS s t l m ≤ 1 := by
  unfold cmpS
  split
  · unfold fieldsL
    refine or_vals _ fun q hq => ?_
    simp only [List.mem_cons, List.not_mem_nil, or_false] at hq
    rcases hq with rfl | rfl | rfl | rfl | rfl | rfl | rfl | rfl | rfl
    all_goals first | exact ci_vals _ _ | exact cb_vals2 _ _
  · exact cmpL_vals l m

set_option maxRecDepth 20000 in
set_option maxHeartbeats 8000000 in
theorem order_law (a b c : Sp) (Aa Ab Ac : Option Addr) (ca cb cc na nb nc : Nat) (la lb lc : List At) (w : World) (ha : Ats w Aa ca la) (hb : Ats w Ab cb lb) (hc : Ats w Ac cc lc) (ea : la.length = na) (eb : lb.length = nb) (ec : lc.length = nc) :
    Calls Try.prog 4 #[spv a (.slice Aa na ca), spv b (.slice Ab nb cb), spv c (.slice Ac nc cc)] w fun e w' => e = .returned (.bool true) ∧ Below w.heap.size w w' := by
  obtain ⟨K1, K2, K3⟩ := three w (spc a (.slice Aa na ca)) (spc b (.slice Ab nb cb)) (spc c (.slice Ac nc cc)) 25
  have b0 : Below w.heap.size w (((w.alloc (.cells (spc a (.slice Aa na ca)) 25)).alloc (.cells (spc b (.slice Ab nb cb)) 25)).alloc (.cells (spc c (.slice Ac nc cc)) 25)) := by go_grown
  have ma : na ≤ 9223372036854775807 := by have := ha.cap; have := ha.max; unfold maxLen at this; omega
  have mb : nb ≤ 9223372036854775807 := by have := hb.cap; have := hb.max; unfold maxLen at this; omega
  have mc : nc ≤ 9223372036854775807 := by have := hc.cap; have := hc.max; unfold maxLen at this; omega
  obtain ⟨fa, hfa⟩ : ∃ q, far a la = q := ⟨_, rfl⟩
  obtain ⟨fb, hfb⟩ : ∃ q, far b lb = q := ⟨_, rfl⟩
  obtain ⟨fc, hfc⟩ : ∃ q, far c lc = q := ⟨_, rfl⟩
  have hFa := fun W (hW : Below w.heap.size w W) => far_at a Aa ca na la fa W (ha.below hW) ea ma hfa
  have hFb := fun W (hW : Below w.heap.size w W) => far_at b Ab cb nb lb fb W (hb.below hW) eb mb hfb
  have hFc := fun W (hW : Below w.heap.size w W) => far_at c Ac cc nc lc fc W (hc.below hW) ec mc hfc
  have HFa := Lib.hid hfa
  have HFb := Lib.hid hfb
  have HFc := Lib.hid hfc
  clear hfa hfb hfc ma mb mc
  go_enter Try.func4, Try.ntmps4
  go_wp2_with fail
  refine (alive_any _).mono ?_
  rintro e w1 ⟨rfl, b1⟩
  replace K1 := K1.below b1
  replace K2 := K2.below b1
  replace K3 := K3.below b1
  replace b0 := b0.trans (b1.mono b0.size)
  clear b1
  have x0 : w1.cell? ⟨w.heap.size, 0, none⟩ = some (.int .u64 a.T) := K1.cell 0
  have x1 : w1.cell? ⟨w.heap.size, 1, none⟩ = some (.int .u64 a.I) := K1.cell 1
  have x2 : w1.cell? ⟨w.heap.size, 2, none⟩ = some (.int .u64 a.P) := K1.cell 2
  have x3 : w1.cell? ⟨w.heap.size, 3, none⟩ = some (.string a.sv) := K1.cell 3
  have x4 : w1.cell? ⟨w.heap.size, 4, none⟩ = some (.string a.nm) := K1.cell 4
  have x5 : w1.cell? ⟨w.heap.size, 5, none⟩ = some (.int .i64 a.kd) := K1.cell 5
  have x6 : w1.cell? ⟨w.heap.size, 6, none⟩ = some (.int .i64 a.st) := K1.cell 6
  have x7 : w1.cell? ⟨w.heap.size, 7, none⟩ = some (.int .u64 a.t0) := K1.cell 7
  have x8 : w1.cell? ⟨w.heap.size, 8, none⟩ = some (.int .u64 a.t1) := K1.cell 8
  have x9 : w1.cell? ⟨w.heap.size, 9, none⟩ = some (.slice Aa na ca) := K1.cell 9
  go_wp2_with fail
  refine (hFa _ b0).mono ?_
  rintro e w2 ⟨rfl, b1⟩
  replace K1 := K1.below b1
  replace K2 := K2.below b1
  replace K3 := K3.below b1
  replace b0 := b0.trans (b1.mono b0.size)
  clear b1 hFa x0 x1 x2 x3 x4 x5 x6 x7 x8 x9
  cases fa with
  | true =>
    go_wp2
    go_ret
    exact ⟨rfl, b0⟩
  | false =>
    have x0 : w2.cell? ⟨w.heap.size + 1, 0, none⟩ = some (.int .u64 b.T) := K2.cell 0
    have x1 : w2.cell? ⟨w.heap.size + 1, 1, none⟩ = some (.int .u64 b.I) := K2.cell 1
    have x2 : w2.cell? ⟨w.heap.size + 1, 2, none⟩ = some (.int .u64 b.P) := K2.cell 2
    have x3 : w2.cell? ⟨w.heap.size + 1, 3, none⟩ = some (.string b.sv) := K2.cell 3
    have x4 : w2.cell? ⟨w.heap.size + 1, 4, none⟩ = some (.string b.nm) := K2.cell 4
    have x5 : w2.cell? ⟨w.heap.size + 1, 5, none⟩ = some (.int .i64 b.kd) := K2.cell 5
    have x6 : w2.cell? ⟨w.heap.size + 1, 6, none⟩ = some (.int .i64 b.st) := K2.cell 6
    have x7 : w2.cell? ⟨w.heap.size + 1, 7, none⟩ = some (.int .u64 b.t0) := K2.cell 7
    have x8 : w2.cell? ⟨w.heap.size + 1, 8, none⟩ = some (.int .u64 b.t1) := K2.cell 8
    have x9 : w2.cell? ⟨w.heap.size + 1, 9, none⟩ = some (.slice Ab nb cb) := K2.cell 9
    go_wp2_with fail
    refine (hFb _ b0).mono ?_
    rintro e w3 ⟨rfl, b1⟩
    replace K1 := K1.below b1
    replace K2 := K2.below b1
    replace K3 := K3.below b1
    replace b0 := b0.trans (b1.mono b0.size)
    clear b1 hFb x0 x1 x2 x3 x4 x5 x6 x7 x8 x9
    cases fb with
    | true =>
      go_wp2
      go_ret
      exact ⟨rfl, b0⟩
    | false =>
      have x0 : w3.cell? ⟨w.heap.size + 1 + 1, 0, none⟩ = some (.int .u64 c.T) := K3.cell 0
      have x1 : w3.cell? ⟨w.heap.size + 1 + 1, 1, none⟩ = some (.int .u64 c.I) := K3.cell 1
      have x2 : w3.cell? ⟨w.heap.size + 1 + 1, 2, none⟩ = some (.int .u64 c.P) := K3.cell 2
      have x3 : w3.cell? ⟨w.heap.size + 1 + 1, 3, none⟩ = some (.string c.sv) := K3.cell 3
      have x4 : w3.cell? ⟨w.heap.size + 1 + 1, 4, none⟩ = some (.string c.nm) := K3.cell 4
      have x5 : w3.cell? ⟨w.heap.size + 1 + 1, 5, none⟩ = some (.int .i64 c.kd) := K3.cell 5
      have x6 : w3.cell? ⟨w.heap.size + 1 + 1, 6, none⟩ = some (.int .i64 c.st) := K3.cell 6
      have x7 : w3.cell? ⟨w.heap.size + 1 + 1, 7, none⟩ = some (.int .u64 c.t0) := K3.cell 7
      have x8 : w3.cell? ⟨w.heap.size + 1 + 1, 8, none⟩ = some (.int .u64 c.t1) := K3.cell 8
      have x9 : w3.cell? ⟨w.heap.size + 1 + 1, 9, none⟩ = some (.slice Ac nc cc) := K3.cell 9
      go_wp2_with fail
      refine (hFc _ b0).mono ?_
      rintro e w4 ⟨rfl, b1⟩
      replace K1 := K1.below b1
      replace K2 := K2.below b1
      replace K3 := K3.below b1
      replace b0 := b0.trans (b1.mono b0.size)
      clear b1 hFc x0 x1 x2 x3 x4 x5 x6 x7 x8 x9
      cases fc with
      | true =>
        go_wp2
        go_ret
        exact ⟨rfl, b0⟩
      | false =>
        have za : na ≤ 40 := by rw [← ea]; exact far_len (un HFa)
        have zb : nb ≤ 40 := by rw [← eb]; exact far_len (un HFb)
        have zc : nc ≤ 40 := by rw [← ec]; exact far_len (un HFc)
        have hOa := fun W (hW : Below w.heap.size w W) => of_at a Aa ca na la W (ha.below hW) ea za
        have hOb := fun W (hW : Below w.heap.size w W) => of_at b Ab cb nb lb W (hb.below hW) eb zb
        have hOc := fun W (hW : Below w.heap.size w W) => of_at c Ac cc nc lc W (hc.below hW) ec zc
        obtain ⟨x, hx⟩ : ∃ x, cmpS a b la lb = x := ⟨_, rfl⟩
        obtain ⟨y, hy⟩ : ∃ x, cmpS b c lb lc = x := ⟨_, rfl⟩
        obtain ⟨z, hz⟩ : ∃ x, cmpS a c la lc = x := ⟨_, rfl⟩
        have hnx : cmpS b a lb la = -x := by rw [cmpS_neg, hx]
        have hC1 : ∀ (A5 A6 : Option Addr) (c5 c6 : Nat) (W : World), Hd 0 W A5 c5 la → Hd 0 W A6 c6 lb → Calls Try.prog 19 #[spv a (.slice A5 na c5), spv b (.slice A6 nb c6)] W fun e w' => e = .returned (.int .i64 (x)) ∧ Below W.heap.size W w' := fun A5 A6 c5 c6 W h5 h6 => by
          have h := P06.compare_any a b A5 A6 c5 c6 la lb na nb W h5 h6 ea eb za zb
          rw [hx] at h
          exact h
        have hC2 : ∀ (A5 A6 : Option Addr) (c5 c6 : Nat) (W : World), Hd 0 W A5 c5 lb → Hd 0 W A6 c6 lc → Calls Try.prog 19 #[spv b (.slice A5 nb c5), spv c (.slice A6 nc c6)] W fun e w' => e = .returned (.int .i64 (y)) ∧ Below W.heap.size W w' := fun A5 A6 c5 c6 W h5 h6 => by
          have h := P06.compare_any b c A5 A6 c5 c6 lb lc nb nc W h5 h6 eb ec zb zc
          rw [hy] at h
          exact h
        have hC3 : ∀ (A5 A6 : Option Addr) (c5 c6 : Nat) (W : World), Hd 0 W A5 c5 la → Hd 0 W A6 c6 lc → Calls Try.prog 19 #[spv a (.slice A5 na c5), spv c (.slice A6 nc c6)] W fun e w' => e = .returned (.int .i64 (z)) ∧ Below W.heap.size W w' := fun A5 A6 c5 c6 W h5 h6 => by
          have h := P06.compare_any a c A5 A6 c5 c6 la lc na nc W h5 h6 ea ec za zc
          rw [hz] at h
          exact h
        have hC4 : ∀ (A5 A6 : Option Addr) (c5 c6 : Nat) (W : World), Hd 0 W A5 c5 lb → Hd 0 W A6 c6 la → Calls Try.prog 19 #[spv b (.slice A5 nb c5), spv a (.slice A6 na c6)] W fun e w' => e = .returned (.int .i64 (-x)) ∧ Below W.heap.size W w' := fun A5 A6 c5 c6 W h5 h6 => by
          have h := P06.compare_any b a A5 A6 c5 c6 lb la nb na W h5 h6 eb ea zb za
          rw [hnx] at h
          exact h
        have hR : ∀ W, Below w.heap.size w W → Calls Try.prog 20 #[spv a (.slice Aa na ca), spv b (.slice Ab nb cb)] W fun e w' => e = .returned (.int .i64 x) ∧ Below W.heap.size W w' := fun W hW => by
          have h := refcmp_any a b Aa Ab ca cb la lb na nb W (ha.below hW) (hb.below hW) ea eb za zb
          rw [hx] at h
          exact h
        have HT : Hid (T3 x y z) := by have h := cmpS_t3 a b c la lb lc; rw [hx, hy, hz] at h; exact h
        have HX : -1 ≤ x ∧ x ≤ 1 := by rw [← hx]; exact cmpS_vals a b la lb
        clear hx hy hz hnx ha hb hc HFa HFb HFc ea eb ec za zb zc
        go_wp2_with fail
        have Da : Bk w4.drew _ _ _ := K1
        have Db : Bk w4.drew _ _ _ := K2
        have Dc : Bk w4.drew _ _ _ := K3
        have bd : Below w.heap.size w w4.drew := b0.drew
        clear K1 K2 K3 b0
        go_region_held3 (fun w' => w'.cell? ⟨w.heap.size, 0, none⟩ = some (.int .u64 a.T) ∧ w'.cell? ⟨w.heap.size, 1, none⟩ = some (.int .u64 a.I) ∧ w'.cell? ⟨w.heap.size, 2, none⟩ = some (.int .u64 a.P) ∧ w'.cell? ⟨w.heap.size, 3, none⟩ = some (.string a.sv) ∧ w'.cell? ⟨w.heap.size, 4, none⟩ = some (.string a.nm) ∧ w'.cell? ⟨w.heap.size, 5, none⟩ = some (.int .i64 a.kd) ∧ w'.cell? ⟨w.heap.size, 6, none⟩ = some (.int .i64 a.st) ∧ w'.cell? ⟨w.heap.size, 7, none⟩ = some (.int .u64 a.t0) ∧ w'.cell? ⟨w.heap.size, 8, none⟩ = some (.int .u64 a.t1) ∧ w'.cell? ⟨w.heap.size, 9, none⟩ = some (.slice Aa na ca) ∧ w'.cell? ⟨w.heap.size + 1, 0, none⟩ = some (.int .u64 b.T) ∧ w'.cell? ⟨w.heap.size + 1, 1, none⟩ = some (.int .u64 b.I) ∧ w'.cell? ⟨w.heap.size + 1, 2, none⟩ = some (.int .u64 b.P) ∧ w'.cell? ⟨w.heap.size + 1, 3, none⟩ = some (.string b.sv) ∧ w'.cell? ⟨w.heap.size + 1, 4, none⟩ = some (.string b.nm) ∧ w'.cell? ⟨w.heap.size + 1, 5, none⟩ = some (.int .i64 b.kd) ∧ w'.cell? ⟨w.heap.size + 1, 6, none⟩ = some (.int .i64 b.st) ∧ w'.cell? ⟨w.heap.size + 1, 7, none⟩ = some (.int .u64 b.t0) ∧ w'.cell? ⟨w.heap.size + 1, 8, none⟩ = some (.int .u64 b.t1) ∧ w'.cell? ⟨w.heap.size + 1, 9, none⟩ = some (.slice Ab nb cb))
          (first | exact twenty E2a E2b | exact twenty E1a E1b | exact twenty E0a E0b | exact twenty Da Db | go_keep)
          (first
            | (go_at_call 9; (with_reducible refine (hOa _ bd).mono ?_); rintro e v5 ⟨A5, c5, rfl, H5, B5⟩; have E0a := Da.below B5; have E0b := Db.below B5; have E0c := Dc.below B5; have bd0 := bd.trans (B5.mono bd.size))
            | (go_at_call 9; (with_reducible refine (hOb _ bd0).mono ?_); rintro e v6 ⟨A6, c6, rfl, H6, B6⟩; have E1a := E0a.below B6; have E1b := E0b.below B6; have E1c := E0c.below B6; have bd1 := bd0.trans (B6.mono bd0.size); have H5' := H5.below B6)
            | (go_at_call 19; (with_reducible refine (hC1 A5 A6 c5 c6 v6 (H5'.low (Nat.zero_le _)) (H6.low (Nat.zero_le _))).mono ?_); rintro e w5 ⟨rfl, B7⟩; have E2a := E1a.below B7; have E2b := E1b.below B7; have E2c := E1c.below B7; have b0 := bd1.trans (B7.mono bd1.size)))
        have K1 := E2a
        have K2 := E2b
        have K3 := E2c
        clear Da Db Dc E0a E0b E0c E1a E1b E1c E2a E2b E2c bd bd0 bd1 H5 H5' H6 B5 B6 B7
        go_wp2_with fail
        have Da : Bk w5.drew _ _ _ := K1
        have Db : Bk w5.drew _ _ _ := K2
        have Dc : Bk w5.drew _ _ _ := K3
        have bd : Below w.heap.size w w5.drew := b0.drew
        clear K1 K2 K3 b0
        go_region_held3 (fun w' => w'.cell? ⟨w.heap.size + 1, 0, none⟩ = some (.int .u64 b.T) ∧ w'.cell? ⟨w.heap.size + 1, 1, none⟩ = some (.int .u64 b.I) ∧ w'.cell? ⟨w.heap.size + 1, 2, none⟩ = some (.int .u64 b.P) ∧ w'.cell? ⟨w.heap.size + 1, 3, none⟩ = some (.string b.sv) ∧ w'.cell? ⟨w.heap.size + 1, 4, none⟩ = some (.string b.nm) ∧ w'.cell? ⟨w.heap.size + 1, 5, none⟩ = some (.int .i64 b.kd) ∧ w'.cell? ⟨w.heap.size + 1, 6, none⟩ = some (.int .i64 b.st) ∧ w'.cell? ⟨w.heap.size + 1, 7, none⟩ = some (.int .u64 b.t0) ∧ w'.cell? ⟨w.heap.size + 1, 8, none⟩ = some (.int .u64 b.t1) ∧ w'.cell? ⟨w.heap.size + 1, 9, none⟩ = some (.slice Ab nb cb) ∧ w'.cell? ⟨w.heap.size + 1 + 1, 0, none⟩ = some (.int .u64 c.T) ∧ w'.cell? ⟨w.heap.size + 1 + 1, 1, none⟩ = some (.int .u64 c.I) ∧ w'.cell? ⟨w.heap.size + 1 + 1, 2, none⟩ = some (.int .u64 c.P) ∧ w'.cell? ⟨w.heap.size + 1 + 1, 3, none⟩ = some (.string c.sv) ∧ w'.cell? ⟨w.heap.size + 1 + 1, 4, none⟩ = some (.string c.nm) ∧ w'.cell? ⟨w.heap.size + 1 + 1, 5, none⟩ = some (.int .i64 c.kd) ∧ w'.cell? ⟨w.heap.size + 1 + 1, 6, none⟩ = some (.int .i64 c.st) ∧ w'.cell? ⟨w.heap.size + 1 + 1, 7, none⟩ = some (.int .u64 c.t0) ∧ w'.cell? ⟨w.heap.size + 1 + 1, 8, none⟩ = some (.int .u64 c.t1) ∧ w'.cell? ⟨w.heap.size + 1 + 1, 9, none⟩ = some (.slice Ac nc cc))
          (first | exact twenty E2b E2c | exact twenty E1b E1c | exact twenty E0b E0c | exact twenty Db Dc | go_keep)
          (first
            | (go_at_call 9; (with_reducible refine (hOb _ bd).mono ?_); rintro e v5 ⟨A5, c5, rfl, H5, B5⟩; have E0a := Da.below B5; have E0b := Db.below B5; have E0c := Dc.below B5; have bd0 := bd.trans (B5.mono bd.size))
            | (go_at_call 9; (with_reducible refine (hOc _ bd0).mono ?_); rintro e v6 ⟨A6, c6, rfl, H6, B6⟩; have E1a := E0a.below B6; have E1b := E0b.below B6; have E1c := E0c.below B6; have bd1 := bd0.trans (B6.mono bd0.size); have H5' := H5.below B6)
            | (go_at_call 19; (with_reducible refine (hC2 A5 A6 c5 c6 v6 (H5'.low (Nat.zero_le _)) (H6.low (Nat.zero_le _))).mono ?_); rintro e w6 ⟨rfl, B7⟩; have E2a := E1a.below B7; have E2b := E1b.below B7; have E2c := E1c.below B7; have b0 := bd1.trans (B7.mono bd1.size)))
        have K1 := E2a
        have K2 := E2b
        have K3 := E2c
        clear Da Db Dc E0a E0b E0c E1a E1b E1c E2a E2b E2c bd bd0 bd1 H5 H5' H6 B5 B6 B7
        go_wp2_with fail
        have Da : Bk w6.drew _ _ _ := K1
        have Db : Bk w6.drew _ _ _ := K2
        have Dc : Bk w6.drew _ _ _ := K3
        have bd : Below w.heap.size w w6.drew := b0.drew
        clear K1 K2 K3 b0
        go_region_held3 (fun w' => w'.cell? ⟨w.heap.size, 0, none⟩ = some (.int .u64 a.T) ∧ w'.cell? ⟨w.heap.size, 1, none⟩ = some (.int .u64 a.I) ∧ w'.cell? ⟨w.heap.size, 2, none⟩ = some (.int .u64 a.P) ∧ w'.cell? ⟨w.heap.size, 3, none⟩ = some (.string a.sv) ∧ w'.cell? ⟨w.heap.size, 4, none⟩ = some (.string a.nm) ∧ w'.cell? ⟨w.heap.size, 5, none⟩ = some (.int .i64 a.kd) ∧ w'.cell? ⟨w.heap.size, 6, none⟩ = some (.int .i64 a.st) ∧ w'.cell? ⟨w.heap.size, 7, none⟩ = some (.int .u64 a.t0) ∧ w'.cell? ⟨w.heap.size, 8, none⟩ = some (.int .u64 a.t1) ∧ w'.cell? ⟨w.heap.size, 9, none⟩ = some (.slice Aa na ca) ∧ w'.cell? ⟨w.heap.size + 1 + 1, 0, none⟩ = some (.int .u64 c.T) ∧ w'.cell? ⟨w.heap.size + 1 + 1, 1, none⟩ = some (.int .u64 c.I) ∧ w'.cell? ⟨w.heap.size + 1 + 1, 2, none⟩ = some (.int .u64 c.P) ∧ w'.cell? ⟨w.heap.size + 1 + 1, 3, none⟩ = some (.string c.sv) ∧ w'.cell? ⟨w.heap.size + 1 + 1, 4, none⟩ = some (.string c.nm) ∧ w'.cell? ⟨w.heap.size + 1 + 1, 5, none⟩ = some (.int .i64 c.kd) ∧ w'.cell? ⟨w.heap.size + 1 + 1, 6, none⟩ = some (.int .i64 c.st) ∧ w'.cell? ⟨w.heap.size + 1 + 1, 7, none⟩ = some (.int .u64 c.t0) ∧ w'.cell? ⟨w.heap.size + 1 + 1, 8, none⟩ = some (.int .u64 c.t1) ∧ w'.cell? ⟨w.heap.size + 1 + 1, 9, none⟩ = some (.slice Ac nc cc))
          (first | exact twenty E2a E2c | exact twenty E1a E1c | exact twenty E0a E0c | exact twenty Da Dc | go_keep)
          (first
            | (go_at_call 9; (with_reducible refine (hOa _ bd).mono ?_); rintro e v5 ⟨A5, c5, rfl, H5, B5⟩; have E0a := Da.below B5; have E0b := Db.below B5; have E0c := Dc.below B5; have bd0 := bd.trans (B5.mono bd.size))
            | (go_at_call 9; (with_reducible refine (hOc _ bd0).mono ?_); rintro e v6 ⟨A6, c6, rfl, H6, B6⟩; have E1a := E0a.below B6; have E1b := E0b.below B6; have E1c := E0c.below B6; have bd1 := bd0.trans (B6.mono bd0.size); have H5' := H5.below B6)
            | (go_at_call 19; (with_reducible refine (hC3 A5 A6 c5 c6 v6 (H5'.low (Nat.zero_le _)) (H6.low (Nat.zero_le _))).mono ?_); rintro e w7 ⟨rfl, B7⟩; have E2a := E1a.below B7; have E2b := E1b.below B7; have E2c := E1c.below B7; have b0 := bd1.trans (B7.mono bd1.size)))
        have K1 := E2a
        have K2 := E2b
        have K3 := E2c
        clear Da Db Dc E0a E0b E0c E1a E1b E1c E2a E2b E2c bd bd0 bd1 H5 H5' H6 B5 B6 B7
        go_wp2_with fail
        have Da : Bk w7.drew _ _ _ := K1
        have Db : Bk w7.drew _ _ _ := K2
        have Dc : Bk w7.drew _ _ _ := K3
        have bd : Below w.heap.size w w7.drew := b0.drew
        have hw1 : IntKind.i64.wrap (- -x) = x := by rw [IntKind.wrap_i64]; omega
        have hw2 : IntKind.i64.wrap x = x := by rw [IntKind.wrap_i64]; omega
        have hxx : (x != x) = false := by simp
        clear K1 K2 K3 b0
        go_region_held3 (fun w' => w'.cell? ⟨w.heap.size, 0, none⟩ = some (.int .u64 a.T) ∧ w'.cell? ⟨w.heap.size, 1, none⟩ = some (.int .u64 a.I) ∧ w'.cell? ⟨w.heap.size, 2, none⟩ = some (.int .u64 a.P) ∧ w'.cell? ⟨w.heap.size, 3, none⟩ = some (.string a.sv) ∧ w'.cell? ⟨w.heap.size, 4, none⟩ = some (.string a.nm) ∧ w'.cell? ⟨w.heap.size, 5, none⟩ = some (.int .i64 a.kd) ∧ w'.cell? ⟨w.heap.size, 6, none⟩ = some (.int .i64 a.st) ∧ w'.cell? ⟨w.heap.size, 7, none⟩ = some (.int .u64 a.t0) ∧ w'.cell? ⟨w.heap.size, 8, none⟩ = some (.int .u64 a.t1) ∧ w'.cell? ⟨w.heap.size, 9, none⟩ = some (.slice Aa na ca) ∧ w'.cell? ⟨w.heap.size + 1, 0, none⟩ = some (.int .u64 b.T) ∧ w'.cell? ⟨w.heap.size + 1, 1, none⟩ = some (.int .u64 b.I) ∧ w'.cell? ⟨w.heap.size + 1, 2, none⟩ = some (.int .u64 b.P) ∧ w'.cell? ⟨w.heap.size + 1, 3, none⟩ = some (.string b.sv) ∧ w'.cell? ⟨w.heap.size + 1, 4, none⟩ = some (.string b.nm) ∧ w'.cell? ⟨w.heap.size + 1, 5, none⟩ = some (.int .i64 b.kd) ∧ w'.cell? ⟨w.heap.size + 1, 6, none⟩ = some (.int .i64 b.st) ∧ w'.cell? ⟨w.heap.size + 1, 7, none⟩ = some (.int .u64 b.t0) ∧ w'.cell? ⟨w.heap.size + 1, 8, none⟩ = some (.int .u64 b.t1) ∧ w'.cell? ⟨w.heap.size + 1, 9, none⟩ = some (.slice Ab nb cb))
          (first | exact twenty E3a E3b | exact twenty E2a E2b | exact twenty E1a E1b | exact twenty E0a E0b | exact twenty Da Db | go_keep)
          (first
            | (go_at_call 20; (with_reducible refine (hR _ bd).mono ?_); rintro e v4 ⟨rfl, B4⟩; have E0a := Da.below B4; have E0b := Db.below B4; have bd0 := bd.trans (B4.mono bd.size))
            | (go_at_call 9; (with_reducible refine (hOb _ bd0).mono ?_); rintro e v5 ⟨A5, c5, rfl, H5, B5⟩; have E1a := E0a.below B5; have E1b := E0b.below B5; have bd1 := bd0.trans (B5.mono bd0.size))
            | (go_at_call 9; (with_reducible refine (hOa _ bd1).mono ?_); rintro e v6 ⟨A6, c6, rfl, H6, B6⟩; have E2a := E1a.below B6; have E2b := E1b.below B6; have bd2 := bd1.trans (B6.mono bd1.size); have H5' := H5.below B6)
            | (go_at_call 19; (with_reducible refine (hC4 A5 A6 c5 c6 v6 (H5'.low (Nat.zero_le _)) (H6.low (Nat.zero_le _))).mono ?_); rintro e w8 ⟨rfl, B7⟩; have E3a := E2a.below B7; have E3b := E2b.below B7; have b0 := bd2.trans (B7.mono bd2.size)))
        clear Da Db Dc E0a E0b E1a E1b E2a E2b E3a E3b bd bd0 bd1 bd2 H5 H5' H6 B4 B5 B6 B7 hOa hOb hOc hC1 hC2 hC3 hC4 hR hw1 hw2 hxx
        go_wp2
        all_goals go_ret
        all_goals (refine ⟨ret_bool ?_, b0⟩; have ht := un HT; unfold T3 at ht; clear HT; first | rfl | (exfalso; omega) | (simp only [Bool.or_eq_true, Bool.and_eq_true, decide_eq_true_eq, beq_iff_eq] at * <;> omega))
end Go.Proofs.Ytpjldoahinocjaa.P06
