/-
  The document's clock: Idle, Mark, Least, Global of some acts.
-/
import Derived.Test.YtmonjlnmkkdnfaaW13Cw
import Derived.Test.YtmonjlnmkkdnfaaW13Open
set_option linter.unusedSimpArgs false
set_option linter.unusedVariables false
namespace Go.Proofs.Ytmonjlnmkkdnfaa.W13
open Go.RowKit Go.Lib Go.Proofs.Ytmonjlnmkkdnfaa.Wd

/-- how many ticks a source has said nothing -/
def rq (D : List Ac) (s : Int) : Nat := D.foldl (fun q y => if y.S < 0 then q + 1 else if y.S = s then 0 else q) 0
/-- the greatest end that it said -/
def re (D : List Ac) (s : Int) : Nat := D.foldl (fun e y => if y.S = s ∧ e < y.E then y.E else e) 0
theorem rq_app (D : List Ac) (y : Ac) (s : Int) : rq (D ++ [y]) s = if y.S < 0 then rq D s + 1 else if y.S = s then 0 else rq D s := by unfold rq; rw [List.foldl_append]; rfl
theorem re_app (D : List Ac) (y : Ac) (s : Int) : re (D ++ [y]) s = if y.S = s ∧ re D s < y.E then y.E else re D s := by unfold re; rw [List.foldl_append]; rfl
theorem rq_take {D : List Ac} {k : Nat} (h : k < D.length) (s : Int) : rq (D.take (k + 1)) s = if D[k].S < 0 then rq (D.take k) s + 1 else if D[k].S = s then 0 else rq (D.take k) s := by
  rw [List.take_succ_eq_append_getElem h, rq_app]
theorem re_take {D : List Ac} {k : Nat} (h : k < D.length) (s : Int) : re (D.take (k + 1)) s = if D[k].S = s ∧ re (D.take k) s < D[k].E then D[k].E else re (D.take k) s := by
  rw [List.take_succ_eq_append_getElem h, re_app]
theorem rq_from (s : Int) : ∀ (D : List Ac) (q : Nat), D.foldl (fun q y => if y.S < 0 then q + 1 else if y.S = s then 0 else q) q ≤ q + D.length
  | [], q => Nat.le_refl _
  | y :: D, q => by
    rw [List.foldl_cons, List.length_cons]
    refine Nat.le_trans (rq_from s D _) ?_
    split
    · omega
    · split <;> omega
theorem rq_le (D : List Ac) (s : Int) : rq D s ≤ D.length := by
  have := rq_from s D 0
  unfold rq
  omega
/-- is a source idle behind some acts? -/
def rt (D : List Ac) (s : Int) (idle : Nat) : Bool := decide (0 < idle) && decide (idle ≤ rq D s)
/-- its mark, where it isn't -/
def rm (D : List Ac) (late idle : Nat) (s : Nat) : Option Nat := if rt D (s : Int) idle then none else some (re D (s : Int) - late)
/-- the greatest least one behind any beginning -/
def gl (D : List Ac) (N late idle : Nat) : Nat → Nat
  | 0 => 0
  | i + 1 => up (gl D N late idle i) (lo (rm (D.take (i + 1)) late idle) N)
section
variable {w w' : World} {A : Option Addr} {c n : Nat} {D : List Ac}
set_option maxRecDepth 20000 in
set_option maxHeartbeats 1000000 in
theorem ridle_at (s : Int) (idle : Nat) (h : Acs w A c D) (hn : D.length = n) (hm : n ≤ 1000) :
    Calls Try.prog 17 #[.slice A n c, .int .i64 s, .int .u64 (idle : Int)] w fun e w' => e = .returned (.bool (rt D s idle)) ∧ w = w' := by
  have HN := Lib.hid hn
  have HI := Lib.hid h
  have hcap := h.cap
  have hcm := h.max
  rw [hn] at hcap
  unfold maxLen at hcm
  have Q0 := Lib.hid (show (0 : Int) = ((rq (D.take 0) s : Nat) : Int) from rfl)
  clear hn h
  go_enter Try.func17, Try.ntmps17
  go_wp2
  go_loop [7, 8] (fun v7 v8 => ∃ k : Nat, v7 = .int .u64 ((rq (D.take k) s : Nat) : Int) ∧ v8 = .int .i64 (k : Int) ∧ k ≤ n) (fun _ v8 => n - (intOf v8).toNat)
  case atStart => exact ⟨0, by rw [← Q0.out], rfl, Nat.zero_le _⟩
  case round =>
    clear Q0
    obtain ⟨k, rfl, rfl, hk⟩ := hrel
    by_cases hkn : k < n
    · have hkl : k < D.length := by rw [HN.out]; exact hkn
      obtain ⟨ad, p, rfl, hp, x0, x1⟩ := HI.out.get hkl
      have hs := rq_take hkl s
      have hle := rq_le (D.take k) s
      rw [List.length_take] at hle
      generalize D[k] = y at *
      have z0 : (0 : Int) ≤ (k : Int) := by omega
      have z1 : ((k : Int)).toNat = k := by omega
      generalize rq (D.take k) s = q at *
      by_cases h1 : y.S < 0
      · rw [if_pos h1] at hs
        have HS := Lib.hid hs
        have hw : IntKind.u64.wrap ((q : Int) + 1) = (q : Int) + 1 := IntWalk.u64_in _ (by omega)
        clear hs hle
        go_wp2
        go_round
        case rel => exact ⟨k + 1, by rw [HS.out]; rfl, by go_num, by omega⟩
        case measure => first | go_num | (simp [intOf]; omega)
      · rw [if_neg h1] at hs
        by_cases h2 : y.S = s
        · rw [if_pos h2] at hs
          have HS := Lib.hid hs
          rw [h2] at x0 h1
          clear hs hle h2
          go_wp2
          go_round
          case rel => exact ⟨k + 1, by rw [HS.out]; rfl, by go_num, by omega⟩
          case measure => first | go_num | (simp [intOf]; omega)
        · rw [if_neg h2] at hs
          have HS := Lib.hid hs
          clear hs hle
          go_wp2
          go_round
          case rel => exact ⟨k + 1, by rw [HS.out], by go_num, by omega⟩
          case measure => first | go_num | (simp [intOf]; omega)
    · have e : D.take k = D := List.take_of_length_le (by rw [HN.out]; omega)
      rw [e]
      have hr : ∀ b : Bool, b = (decide (0 < idle) && decide (idle ≤ rq D s)) → rt D s idle = b := fun b h => h.symm
      have HR := Lib.hid hr
      clear hr e
      generalize rq D s = q at *
      by_cases h0 : (0 : Int) < (idle : Int)
      · go_wp2
        go_ret
        exact ⟨by rw [HR.out _ (by rw [decide_eq_true (by omega : 0 < idle), Bool.true_and])]; rfl, rfl⟩
      · go_wp2
        go_ret
        exact ⟨by rw [HR.out false (by rw [decide_eq_false (by omega : ¬ 0 < idle), Bool.false_and])]; rfl, rfl⟩
set_option maxRecDepth 20000 in
set_option maxHeartbeats 1000000 in
theorem rmark_at (s : Int) (late : Nat) (h : Acs w A c D) (hn : D.length = n) (hE : ∀ y ∈ D, (y.E : Int) ≤ 18446744073709551615) :
    Calls Try.prog 23 #[.slice A n c, .int .i64 s, .int .u64 (late : Int)] w fun e w' => e = .returned (.int .u64 ((re D s - late : Nat) : Int)) ∧ w = w' := by
  have HN := Lib.hid hn
  have HI := Lib.hid h
  have HE := Lib.hid hE
  have hcap := h.cap
  have hcm := h.max
  rw [hn] at hcap
  unfold maxLen at hcm
  have Q0 := Lib.hid (show (0 : Int) = ((re (D.take 0) s : Nat) : Int) from rfl)
  have QB := Lib.hid (show (re (D.take 0) s : Int) ≤ 18446744073709551615 by show (0 : Int) ≤ _; omega)
  clear hn h hE
  go_enter Try.func23, Try.ntmps23
  go_wp2
  go_loop [7, 8] (fun v7 v8 => ∃ k : Nat, v7 = .int .u64 ((re (D.take k) s : Nat) : Int) ∧ v8 = .int .i64 (k : Int) ∧ k ≤ n ∧ Hid ((re (D.take k) s : Int) ≤ 18446744073709551615)) (fun _ v8 => n - (intOf v8).toNat)
  case atStart => exact ⟨0, by rw [← Q0.out], rfl, Nat.zero_le _, QB⟩
  case round =>
    clear Q0 QB
    obtain ⟨k, rfl, rfl, hk, QB⟩ := hrel
    by_cases hkn : k < n
    · have hkl : k < D.length := by rw [HN.out]; exact hkn
      obtain ⟨ad, p, rfl, hp, x0, x1⟩ := HI.out.get hkl
      have hs := re_take hkl s
      have hb := HE.out D[k] (List.getElem_mem hkl)
      generalize D[k] = y at *
      have z0 : (0 : Int) ≤ (k : Int) := by omega
      have z1 : ((k : Int)).toNat = k := by omega
      have QC := QB.out
      generalize re (D.take k) s = q at *
      by_cases h1 : y.S = s
      · by_cases h2 : q < y.E
        · rw [if_pos ⟨h1, h2⟩] at hs
          have HS := Lib.hid hs
          have HB := Lib.hid (show (re (D.take (k + 1)) s : Int) ≤ 18446744073709551615 by rw [hs]; exact hb)
          rw [h1] at x0
          clear hs h1 hb QB
          go_wp2
          go_round
          case rel => exact ⟨k + 1, by rw [HS.out], by go_num, by omega, HB⟩
          case measure => first | go_num | (simp [intOf]; omega)
        · rw [if_neg (fun h => h2 h.2)] at hs
          have HS := Lib.hid hs
          have HB := Lib.hid (show (re (D.take (k + 1)) s : Int) ≤ 18446744073709551615 by rw [hs]; exact QC)
          rw [h1] at x0
          clear hs h1 hb QB
          go_wp2
          go_round
          case rel => exact ⟨k + 1, by rw [HS.out], by go_num, by omega, HB⟩
          case measure => first | go_num | (simp [intOf]; omega)
      · rw [if_neg (fun h => h1 h.1)] at hs
        have HS := Lib.hid hs
        have HB := Lib.hid (show (re (D.take (k + 1)) s : Int) ≤ 18446744073709551615 by rw [hs]; exact QC)
        clear hs hb QB
        go_wp2
        go_round
        case rel => exact ⟨k + 1, by rw [HS.out], by go_num, by omega, HB⟩
        case measure => first | go_num | (simp [intOf]; omega)
    · have e : D.take k = D := List.take_of_length_le (by rw [HN.out]; omega)
      rw [e] at QB ⊢
      have QC := QB.out
      clear e QB
      obtain ⟨q, hq⟩ : ∃ q, re D s = q := ⟨_, rfl⟩
      rw [hq] at QC ⊢
      by_cases h0 : q < late
      · have HZ := Lib.hid (show ((re D s - late : Nat) : Int) = 0 by omega)
        clear hq
        go_wp2
        go_ret
        exact ⟨by rw [HZ.out]; rfl, rfl⟩
      · have hw : IntKind.u64.wrap ((q : Int) - (late : Int)) = (q : Int) - (late : Int) := IntWalk.u64_in _ (by omega)
        have HZ := Lib.hid (show ((re D s - late : Nat) : Int) = (q : Int) - (late : Int) by omega)
        clear hq
        go_wp2
        go_ret
        exact ⟨by rw [HZ.out]; rfl, rfl⟩
theorem rm_some {late idle s : Nat} (h : rt D (s : Int) idle = false) : rm D late idle s = some (re D (s : Int) - late) := by unfold rm; rw [h]; rfl
theorem rm_none {late idle s : Nat} (h : rt D (s : Int) idle = true) : rm D late idle s = none := by unfold rm; rw [h]; rfl
/-- the least one so far, as Least keeps it -/
def zv (o : Option Nat) : Nat := o.getD 0
theorem zv_none (o : Option Nat) : (omin o none).isSome = o.isSome ∧ zv (omin o none) = zv o := by cases o <;> exact ⟨rfl, rfl⟩
theorem zv_some (o : Option Nat) (m : Nat) : (omin o (some m)).isSome = true ∧ zv (omin o (some m)) = (if o.isSome = true ∧ ¬ m < zv o then zv o else m) := by
  cases o with
  | none => exact ⟨rfl, rfl⟩
  | some a =>
    refine ⟨rfl, ?_⟩
    show min a m = _
    by_cases h : m < a
    · rw [if_neg (fun k => k.2 h)]; omega
    · rw [if_pos ⟨rfl, h⟩]; show min a m = a; omega
set_option maxRecDepth 20000 in
set_option maxHeartbeats 2000000 in
theorem rleast_at (N late idle : Nat) (h : Acs w A c D) (hn : D.length = n) (hm : n ≤ 1000) (hN : N ≤ 16) (hE : ∀ y ∈ D, (y.E : Int) ≤ 18446744073709551615) :
    Calls Try.prog 20 #[.slice A n c, .int .i64 (N : Int), .int .u64 (late : Int), .int .u64 (idle : Int)] w fun e w' => e = .returned (.tuple #[.int .u64 ((zv (lo (rm D late idle) N) : Nat) : Int), .bool (lo (rm D late idle) N).isSome]) ∧ w = w' := by
  have HI := Lib.hid (fun s : Nat => ridle_at (w := w) (s : Int) idle h hn hm)
  have HM := Lib.hid (fun s : Nat => rmark_at (w := w) (s : Int) late h hn hE)
  have Q0 := Lib.hid (show (0 : Int) = ((zv (lo (rm D late idle) 0) : Nat) : Int) ∧ false = (lo (rm D late idle) 0).isSome from ⟨rfl, rfl⟩)
  clear h hn hE
  go_enter Try.func20, Try.ntmps20
  go_wp2
  go_loopw [10, 11, 12] (fun v10 v11 v12 wr => ∃ s : Nat, v10 = .int .u64 ((zv (lo (rm D late idle) s) : Nat) : Int) ∧ v11 = .bool (lo (rm D late idle) s).isSome ∧ v12 = .int .i64 (s : Int) ∧ s ≤ N ∧ w = wr) (fun _ _ v12 _ => N - (intOf v12).toNat)
  case atStart => exact ⟨0, by rw [← Q0.out.1], by rw [← Q0.out.2], rfl, Nat.zero_le _, rfl⟩
  case round =>
    clear Q0
    obtain ⟨s, rfl, rfl, rfl, hs, rfl⟩ := hrel
    by_cases hlt : s < N
    · have hi := HI.out s
      have hmk := HM.out s
      obtain ⟨o, ho⟩ : ∃ o, lo (rm D late idle) s = o := ⟨_, rfl⟩
      have hst : lo (rm D late idle) (s + 1) = omin o (rm D late idle s) := by rw [← ho]; rfl
      rw [ho]
      clear ho
      cases hq : rt D (s : Int) idle with
      | true =>
        rw [hq] at hi
        rw [rm_none hq] at hst
        have Z := zv_none o
        rw [← hst] at Z
        have HZ := Lib.hid Z
        clear hst Z hq hmk
        go_wp2_with fail
        refine hi.mono ?_
        rintro e w1 ⟨rfl, rfl⟩
        clear hi
        go_wp2
        go_roundw
        case rel => exact ⟨s + 1, by rw [HZ.out.2], by rw [HZ.out.1], by go_num, by omega, trivial⟩
        case measure => first | go_num | (simp [intOf]; omega)
      | false =>
        rw [hq] at hi
        rw [rm_some hq] at hst
        obtain ⟨m, hm2⟩ : ∃ m, re D (s : Int) - late = m := ⟨_, rfl⟩
        rw [hm2] at hst hmk
        have Z := zv_some o m
        rw [← hst] at Z
        clear hst hm2 hq
        go_wp2_with fail
        refine hi.mono ?_
        rintro e w1 ⟨rfl, rfl⟩
        clear hi
        go_wp2_with fail
        refine hmk.mono ?_
        rintro e w1 ⟨rfl, rfl⟩
        clear hmk
        cases hb : o.isSome with
        | false =>
          rw [hb, if_neg (fun k => by cases k.1)] at Z
          have HZ := Lib.hid Z
          clear Z hb
          go_wp2
          go_roundw
          case rel => exact ⟨s + 1, by rw [HZ.out.2], by rw [HZ.out.1], by go_num, by omega, trivial⟩
          case measure => first | go_num | (simp [intOf]; omega)
        | true =>
          rw [hb] at Z
          obtain ⟨z, hz⟩ : ∃ z, zv o = z := ⟨_, rfl⟩
          rw [hz] at Z ⊢
          clear hz hb
          by_cases hmz : m < z
          · rw [if_neg (fun k => k.2 hmz)] at Z
            have HZ := Lib.hid Z
            clear Z
            go_wp2
            go_roundw
            case rel => exact ⟨s + 1, by rw [HZ.out.2], by rw [HZ.out.1], by go_num, by omega, trivial⟩
            case measure => first | go_num | (simp [intOf]; omega)
          · rw [if_pos ⟨rfl, hmz⟩] at Z
            have HZ := Lib.hid Z
            clear Z
            go_wp2
            go_roundw
            case rel => exact ⟨s + 1, by rw [HZ.out.2], by rw [HZ.out.1], by go_num, by omega, trivial⟩
            case measure => first | go_num | (simp [intOf]; omega)
    · have e : s = N := by omega
      subst e
      go_wp2
      go_ret2
      exact ⟨rfl, rfl⟩
theorem gl_le (N late idle : Nat) (D : List Ac) (B : Nat) (h : ∀ y ∈ D, y.E ≤ B) : ∀ i, gl D N late idle i ≤ B
  | 0 => Nat.zero_le _
  | i + 1 => by
    have ih := gl_le N late idle D B h i
    show up (gl D N late idle i) (lo (rm (D.take (i + 1)) late idle) N) ≤ B
    cases hl : lo (rm (D.take (i + 1)) late idle) N with
    | none => exact ih
    | some x =>
      obtain ⟨⟨s, hs, hx⟩, _⟩ := lo_some _ hl
      have hx2 : x ≤ B := by
        unfold rm at hx
        split at hx
        · cases hx
        · injection hx with hx
          have hr : ∀ (E : List Ac) (s : Int), (∀ y ∈ E, y.E ≤ B) → ∀ e, e ≤ B → E.foldl (fun e y => if y.S = s ∧ e < y.E then y.E else e) e ≤ B := by
            intro E s
            induction E with
            | nil => intro _ e he; exact he
            | cons y E ih2 =>
              intro hE e he
              rw [List.foldl_cons]
              refine ih2 (fun z hz => hE z (List.mem_cons_of_mem _ hz)) _ ?_
              split
              · exact hE y (List.mem_cons_self ..)
              · exact he
          have := hr (D.take (i + 1)) (s : Int) (fun y hy => h y (List.mem_of_mem_take hy)) 0 (Nat.zero_le _)
          unfold re at hx
          omega
      show max _ x ≤ B
      omega
set_option maxRecDepth 20000 in
set_option maxHeartbeats 2000000 in
theorem rglobal_at (N late idle : Nat) (h : Acs w A c D) (hn : D.length = n) (hm : n ≤ 1000) (hN : N ≤ 16) (hE : ∀ y ∈ D, (y.E : Int) ≤ 18446744073709551615) :
    Calls Try.prog 12 #[.slice A n c, .int .i64 (N : Int), .int .u64 (late : Int), .int .u64 (idle : Int)] w fun e w' => e = .returned (.int .u64 ((gl D N late idle n : Nat) : Int)) ∧ w = w' := by
  have hcap := h.cap
  have hcm := h.max
  rw [hn] at hcap
  unfold maxLen at hcm
  have HL := Lib.hid (fun i (hi : i ≤ n) => rleast_at (w := w) N late idle (h.take i (by rw [hn]; exact hi)) (by rw [List.length_take]; omega : (D.take i).length = i) (by omega) hN (fun y hy => hE y (List.mem_of_mem_take hy)))
  have Q0 := Lib.hid (show (0 : Int) = ((gl D N late idle (1 - 1) : Nat) : Int) from rfl)
  clear h hn hE
  go_enter Try.func12, Try.ntmps12
  go_wp2
  go_loopw [9, 10] (fun v9 v10 wr => ∃ i : Nat, v9 = .int .u64 ((gl D N late idle (i - 1) : Nat) : Int) ∧ v10 = .int .i64 (i : Int) ∧ 1 ≤ i ∧ i ≤ n + 1 ∧ w = wr) (fun _ v10 _ => n + 1 - (intOf v10).toNat)
  case atStart => exact ⟨1, by rw [← Q0.out], rfl, Nat.le_refl _, by omega, rfl⟩
  case round =>
    clear Q0
    obtain ⟨i, rfl, rfl, hi1, hi, rfl⟩ := hrel
    by_cases hlt : i ≤ n
    · have hl := HL.out i hlt
      have e1 : i - 1 + 1 = i := by omega
      have hst : gl D N late idle (i + 1 - 1) = up (gl D N late idle (i - 1)) (lo (rm (D.take i) late idle) N) := by
        have : i + 1 - 1 = (i - 1) + 1 := by omega
        rw [this]
        show up (gl D N late idle (i - 1)) (lo (rm (D.take (i - 1 + 1)) late idle) N) = _
        rw [e1]
      generalize lo (rm (D.take i) late idle) N = o at *
      obtain ⟨G, hG⟩ : ∃ G, gl D N late idle (i - 1) = G := ⟨_, rfl⟩
      rw [hG] at hst ⊢
      have z0 : (0 : Int) ≤ (i : Int) := by omega
      have z1 : ((i : Int)).toNat = i := by omega
      have z2 : i ≤ c := by omega
      have z3 : (i : Int) ≤ (n : Int) := by omega
      clear hG e1
      go_wp2_with fail
      refine hl.mono ?_
      rintro e w1 ⟨rfl, rfl⟩
      clear hl
      cases o with
      | none =>
        have HS := Lib.hid (show gl D N late idle (i + 1 - 1) = G from hst)
        clear hst
        have hn0 : (none : Option Nat).isSome = false := rfl
        rw [hn0]
        go_wp2
        go_roundw
        case rel => exact ⟨i + 1, by rw [HS.out], by go_num, by omega, by omega, trivial⟩
        case measure => first | go_num | (simp [intOf]; omega)
      | some x =>
        have hst2 : gl D N late idle (i + 1 - 1) = max G x := hst
        clear hst
        have hx0 : zv (some x) = x := rfl
        have hx1 : (some x).isSome = true := rfl
        rw [hx0, hx1]
        by_cases hgx : G < x
        · have HS := Lib.hid (show gl D N late idle (i + 1 - 1) = x by omega)
          clear hst2 hx0 hx1
          go_wp2
          go_roundw
          case rel => exact ⟨i + 1, by rw [HS.out], by go_num, by omega, by omega, trivial⟩
          case measure => first | go_num | (simp [intOf]; omega)
        · have HS := Lib.hid (show gl D N late idle (i + 1 - 1) = G by omega)
          clear hst2 hx0 hx1
          go_wp2
          go_roundw
          case rel => exact ⟨i + 1, by rw [HS.out], by go_num, by omega, by omega, trivial⟩
          case measure => first | go_num | (simp [intOf]; omega)
    · have e : i - 1 = n := by omega
      rw [e]
      clear e
      go_wp2
      go_ret
      exact ⟨rfl, rfl⟩
end
end Go.Proofs.Ytmonjlnmkkdnfaa.W13
