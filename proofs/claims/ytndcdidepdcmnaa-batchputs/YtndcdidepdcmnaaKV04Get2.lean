/-
  What read and Get do.
  What Get does, of any bytes.
-/
import Derived.Test.YtndcdidepdcmnaaKV04Get
section
set_option linter.unusedSimpArgs false
set_option linter.unusedVariables false
namespace Go.Proofs.Ytndcdidepdcmnaa.V04
open Go.RowKit Go.Lib Go.Proofs.Ytndcdidepdcmnaa.Wd Go.Proofs.Ytndcdidepdcmnaa.V01

def readR (kind : Nat) (l : List UInt8) : Rdv := if kind = 1 then intR l else if kind = 2 then boolR l else if kind = 3 then textR l else none_ 11
set_option maxRecDepth 20000 in
set_option maxHeartbeats 1000000 in
theorem read_kinds (kind : Nat) (hk : kind = 1 ∨ kind = 2 ∨ kind = 3) (A : Option Addr) (c len : Nat) (l : List UInt8) (w : World) (ha : Bs w A c l) (hlen : l.length = len) (hl : len ≤ 65536) :
    Calls Try.prog 76 #[.int .i64 kind, .slice A len c] w fun e w' => e = .returned (readR kind l).v ∧ w' = (w.alloc (readR kind l).box).alloc (readR kind l).box := by
  have b0 := below_box w (box 47 0 0 emp) (Nat.le_refl _)
  have ha0 := ha.below b0
  rcases hk with rfl | rfl | rfl
  · have hR : readR 1 l = intR l := rfl
    rw [hR]
    have hc := readInt_any A c len l _ ha0 hlen hl
    unfold Rdv.v Rdv.box at *
    generalize intR l = R at *
    go_enter Try.func76, Try.ntmps76
    go_wp2_with fail
    refine hc.mono ?_
    rintro e w1 ⟨rfl, rfl⟩
    go_wp2
    go_returns
    exact ⟨rfl, rfl⟩
  · have hR : readR 2 l = boolR l := rfl
    rw [hR]
    have hc := readBool_any A c len l _ ha0 hlen hl
    unfold Rdv.v Rdv.box at *
    generalize boolR l = R at *
    go_enter Try.func76, Try.ntmps76
    go_wp2_with fail
    refine hc.mono ?_
    rintro e w1 ⟨rfl, rfl⟩
    go_wp2
    go_returns
    exact ⟨rfl, rfl⟩
  · have hR : readR 3 l = textR l := rfl
    rw [hR]
    have hc := readText_any A c len l _ ha0 hlen hl
    unfold Rdv.v Rdv.box at *
    generalize textR l = R at *
    go_enter Try.func76, Try.ntmps76
    go_wp2_with fail
    refine hc.mono ?_
    rintro e w1 ⟨rfl, rfl⟩
    go_wp2
    go_returns
    exact ⟨rfl, rfl⟩
theorem read_none (kind : Nat) (h1 : ¬ kind = 1) (h2 : ¬ kind = 2) (h3 : ¬ kind = 3) (A : Option Addr) (c len : Nat) (w : World) :
    Calls Try.prog 76 #[.int .i64 kind, .slice A len c] w fun e w' => e = .returned (none_ 11).v ∧ w' = w.alloc (none_ 11).box := by
  go_enter Try.func76, Try.ntmps76
  go_wp2
  go_returns
  exact ⟨rfl, rfl⟩

theorem ck_alloc {w : World} {p : Addr} {v : Value} (o : Obj) (h : w.cell? p = some v) : (w.alloc o).cell? p = some v := by
  rw [(below_box w o (Nat.le_refl _)).cell (World.block_lt_of_cell? _ _ h)]
  exact h
theorem ck_drew {w : World} {p : Addr} {v : Value} (h : w.cell? p = some v) : w.drew.cell? p = some v := h
/-- the value with which bytes begin -/
def finV (R : Rdv) : Rdv := if R.e ≠ 0 then none_ R.e else ⟨R.K, R.N, R.S, 1 + R.k, 0⟩
def getV : List UInt8 → Rdv
  | [] => none_ 10
  | x :: r => finV (readR x.toNat r)

set_option maxRecDepth 20000 in
set_option maxHeartbeats 2000000 in
theorem vget_kinds (ad : Addr) (c len X : Nat) (r : List UInt8) (K N : Int) (S : ByteArray) (k er : Nat) (w : World) (hc : ¬ c = 1)
    (hcell : (w.alloc (.cells #[.int .i64 0, .int .i64 0, .string { data := #[] }] 47)).cell? ad = some (.int .u8 (X : Int))) (hX : X < 256) (hlc : len + 1 ≤ c) (hk : k ≤ 70000)
    (hB : Bs (w.alloc (.cells #[.int .i64 0, .int .i64 0, .string { data := #[] }] 47)) (some { block := ad.block, off := ad.off + 1 }) (c - 1) r)
    (q : ∀ W, Bs W (some { block := ad.block, off := ad.off + 1 }) (c - 1) r → Calls Try.prog 76 #[.int .i64 (X : Int), .slice (some { block := ad.block, off := ad.off + 1 }) len (c - 1)] W fun e w' => e = .returned (.tuple #[vl K N S, .int .i64 k, .int .i64 er]) ∧ w' = (W.alloc (box 47 K N S)).alloc (box 47 K N S)) :
    Calls Try.prog 75 #[.slice (some ad) (len + 1) c] w fun e w' => e = .returned (finV ⟨K, N, S, k, er⟩).v ∧ Below w.heap.size w w' := by
  have p1 : (1 : Int) ≤ ((len + 1 : Nat) : Int) := by omega
  have p2 : (1 : Int) ≤ (c : Int) := by omega
  have p3 : (1 : Int) ≤ (len : Int) + 1 := by omega
  have hwX : IntKind.i64.wrap (X : Int) = (X : Int) := IntWalk.i64_in _ (by omega)
  have hB1 := hB.drew
  have hB2 : ∀ o, Bs (((w.alloc (.cells #[.int .i64 0, .int .i64 0, .string { data := #[] }] 47)).alloc o).drew) (some { block := ad.block, off := ad.off + 1 }) (c - 1) r := fun o => (hB.below (below_box _ o (Nat.le_refl _))).drew
  have hB3 : ∀ o, Bs ((w.alloc (.cells #[.int .i64 0, .int .i64 0, .string { data := #[] }] 47)).drew.alloc o) (some { block := ad.block, off := ad.off + 1 }) (c - 1) r := fun o => hB.drew.below (below_box _ o (Nat.le_refl _))
  have hlt := World.block_lt_of_cell? _ _ hcell
  go_enter Try.func75, Try.ntmps75
  go_wp2_with fail
  go_region_held3 (fun w' => w'.cell? ad = some (.int .u8 (X : Int))) (first | ((repeat' (first | exact hcell | assumption | refine ck_drew ?_ | refine ck_alloc _ ?_)); done) | go_keep)
    (first
      | (go_at_call 76; (with_reducible refine (q _ hB1).mono ?_); rintro e w' ⟨rfl, rfl⟩)
      | (go_at_call 76; (with_reducible refine (q _ (hB2 _)).mono ?_); rintro e w' ⟨rfl, rfl⟩)
      | (go_at_call 76; (with_reducible refine (q _ (hB3 _)).mono ?_); rintro e w' ⟨rfl, rfl⟩))
  all_goals clear q hB hB1 hB2 hB3 hcell hlt
  · by_cases he : er = 0
    · subst he
      go_wp2
      go_returns
      exact ⟨rfl, by go_grown⟩
    · have hei : ((er : Int) != 0) = true := by simp; omega
      go_wp2
      go_returns
      refine ⟨?_, by go_grown⟩
      unfold finV
      rw [if_pos he]
      rfl
  · by_cases he : er = 0
    · subst he
      go_wp2
      go_returns
      exact ⟨rfl, by go_grown⟩
    · have hei : ((er : Int) != 0) = true := by simp; omega
      go_wp2
      go_returns
      refine ⟨?_, by go_grown⟩
      unfold finV
      rw [if_pos he]
      rfl
end Go.Proofs.Ytndcdidepdcmnaa.V04
end

section
set_option linter.unusedSimpArgs false
set_option linter.unusedVariables false
namespace Go.Proofs.Ytndcdidepdcmnaa.V04
open Go.RowKit Go.Lib Go.Proofs.Ytndcdidepdcmnaa.Wd Go.Proofs.Ytndcdidepdcmnaa.V01

set_option maxRecDepth 20000 in
set_option maxHeartbeats 2000000 in
theorem vget_kinds1 (ad : Addr) (X : Nat) (r : List UInt8) (K N : Int) (S : ByteArray) (k er : Nat) (w : World)
    (hcell : (w.alloc (.cells #[.int .i64 0, .int .i64 0, .string { data := #[] }] 47)).cell? ad = some (.int .u8 (X : Int))) (hX : X < 256) (hk : k ≤ 70000)
    (hB : Bs (w.alloc (.cells #[.int .i64 0, .int .i64 0, .string { data := #[] }] 47)) (some ad) 0 r)
    (q : ∀ W, Bs W (some ad) 0 r → Calls Try.prog 76 #[.int .i64 (X : Int), .slice (some ad) 0 0] W fun e w' => e = .returned (.tuple #[vl K N S, .int .i64 k, .int .i64 er]) ∧ w' = (W.alloc (box 47 K N S)).alloc (box 47 K N S)) :
    Calls Try.prog 75 #[.slice (some ad) 1 1] w fun e w' => e = .returned (finV ⟨K, N, S, k, er⟩).v ∧ Below w.heap.size w w' := by
  have hwX : IntKind.i64.wrap (X : Int) = (X : Int) := IntWalk.i64_in _ (by omega)
  have hB1 := hB.drew
  have hB2 : ∀ o, Bs (((w.alloc (.cells #[.int .i64 0, .int .i64 0, .string { data := #[] }] 47)).alloc o).drew) (some ad) 0 r := fun o => (hB.below (below_box _ o (Nat.le_refl _))).drew
  have hB3 : ∀ o, Bs ((w.alloc (.cells #[.int .i64 0, .int .i64 0, .string { data := #[] }] 47)).drew.alloc o) (some ad) 0 r := fun o => hB.drew.below (below_box _ o (Nat.le_refl _))
  have hlt := World.block_lt_of_cell? _ _ hcell
  go_enter Try.func75, Try.ntmps75
  go_wp2_with fail
  go_region_held3 (fun w' => w'.cell? ad = some (.int .u8 (X : Int))) (first | ((repeat' (first | exact hcell | assumption | refine ck_drew ?_ | refine ck_alloc _ ?_)); done) | go_keep)
    (first
      | (go_at_call 76; (with_reducible refine (q _ hB1).mono ?_); rintro e w' ⟨rfl, rfl⟩)
      | (go_at_call 76; (with_reducible refine (q _ (hB2 _)).mono ?_); rintro e w' ⟨rfl, rfl⟩)
      | (go_at_call 76; (with_reducible refine (q _ (hB3 _)).mono ?_); rintro e w' ⟨rfl, rfl⟩))
  all_goals clear q hB hB1 hB2 hB3 hcell hlt
  · by_cases he : er = 0
    · subst he
      go_wp2
      go_returns
      exact ⟨rfl, by go_grown⟩
    · have hei : ((er : Int) != 0) = true := by simp; omega
      go_wp2
      go_returns
      refine ⟨?_, by go_grown⟩
      unfold finV
      rw [if_pos he]
      rfl
  · by_cases he : er = 0
    · subst he
      go_wp2
      go_returns
      exact ⟨rfl, by go_grown⟩
    · have hei : ((er : Int) != 0) = true := by simp; omega
      go_wp2
      go_returns
      refine ⟨?_, by go_grown⟩
      unfold finV
      rw [if_pos he]
      rfl
set_option maxRecDepth 20000 in
set_option maxHeartbeats 2000000 in
theorem vget_none (ad : Addr) (c len X : Nat) (r : List UInt8) (K N : Int) (S : ByteArray) (k er : Nat) (w : World) (hc : ¬ c = 1)
    (hcell : (w.alloc (.cells #[.int .i64 0, .int .i64 0, .string { data := #[] }] 47)).cell? ad = some (.int .u8 (X : Int))) (hX : X < 256) (hlc : len + 1 ≤ c) (hk : k ≤ 70000)
    (hB : Bs (w.alloc (.cells #[.int .i64 0, .int .i64 0, .string { data := #[] }] 47)) (some { block := ad.block, off := ad.off + 1 }) (c - 1) r)
    (q : ∀ W, Bs W (some { block := ad.block, off := ad.off + 1 }) (c - 1) r → Calls Try.prog 76 #[.int .i64 (X : Int), .slice (some { block := ad.block, off := ad.off + 1 }) len (c - 1)] W fun e w' => e = .returned (.tuple #[vl K N S, .int .i64 k, .int .i64 er]) ∧ w' = W.alloc (box 47 K N S)) :
    Calls Try.prog 75 #[.slice (some ad) (len + 1) c] w fun e w' => e = .returned (finV ⟨K, N, S, k, er⟩).v ∧ Below w.heap.size w w' := by
  have p1 : (1 : Int) ≤ ((len + 1 : Nat) : Int) := by omega
  have p2 : (1 : Int) ≤ (c : Int) := by omega
  have p3 : (1 : Int) ≤ (len : Int) + 1 := by omega
  have hwX : IntKind.i64.wrap (X : Int) = (X : Int) := IntWalk.i64_in _ (by omega)
  have hB1 := hB.drew
  have hB2 : ∀ o, Bs (((w.alloc (.cells #[.int .i64 0, .int .i64 0, .string { data := #[] }] 47)).alloc o).drew) (some { block := ad.block, off := ad.off + 1 }) (c - 1) r := fun o => (hB.below (below_box _ o (Nat.le_refl _))).drew
  have hB3 : ∀ o, Bs ((w.alloc (.cells #[.int .i64 0, .int .i64 0, .string { data := #[] }] 47)).drew.alloc o) (some { block := ad.block, off := ad.off + 1 }) (c - 1) r := fun o => hB.drew.below (below_box _ o (Nat.le_refl _))
  have hlt := World.block_lt_of_cell? _ _ hcell
  go_enter Try.func75, Try.ntmps75
  go_wp2_with fail
  go_region_held3 (fun w' => w'.cell? ad = some (.int .u8 (X : Int))) (first | ((repeat' (first | exact hcell | assumption | refine ck_drew ?_ | refine ck_alloc _ ?_)); done) | go_keep)
    (first
      | (go_at_call 76; (with_reducible refine (q _ hB1).mono ?_); rintro e w' ⟨rfl, rfl⟩)
      | (go_at_call 76; (with_reducible refine (q _ (hB2 _)).mono ?_); rintro e w' ⟨rfl, rfl⟩)
      | (go_at_call 76; (with_reducible refine (q _ (hB3 _)).mono ?_); rintro e w' ⟨rfl, rfl⟩))
  all_goals clear q hB hB1 hB2 hB3 hcell hlt
  · by_cases he : er = 0
    · subst he
      go_wp2
      go_returns
      exact ⟨rfl, by go_grown⟩
    · have hei : ((er : Int) != 0) = true := by simp; omega
      go_wp2
      go_returns
      refine ⟨?_, by go_grown⟩
      unfold finV
      rw [if_pos he]
      rfl
  · by_cases he : er = 0
    · subst he
      go_wp2
      go_returns
      exact ⟨rfl, by go_grown⟩
    · have hei : ((er : Int) != 0) = true := by simp; omega
      go_wp2
      go_returns
      refine ⟨?_, by go_grown⟩
      unfold finV
      rw [if_pos he]
      rfl
set_option maxRecDepth 20000 in
set_option maxHeartbeats 2000000 in
theorem vget_none1 (ad : Addr) (X : Nat) (r : List UInt8) (K N : Int) (S : ByteArray) (k er : Nat) (w : World)
    (hcell : (w.alloc (.cells #[.int .i64 0, .int .i64 0, .string { data := #[] }] 47)).cell? ad = some (.int .u8 (X : Int))) (hX : X < 256) (hk : k ≤ 70000)
    (hB : Bs (w.alloc (.cells #[.int .i64 0, .int .i64 0, .string { data := #[] }] 47)) (some ad) 0 r)
    (q : ∀ W, Bs W (some ad) 0 r → Calls Try.prog 76 #[.int .i64 (X : Int), .slice (some ad) 0 0] W fun e w' => e = .returned (.tuple #[vl K N S, .int .i64 k, .int .i64 er]) ∧ w' = W.alloc (box 47 K N S)) :
    Calls Try.prog 75 #[.slice (some ad) 1 1] w fun e w' => e = .returned (finV ⟨K, N, S, k, er⟩).v ∧ Below w.heap.size w w' := by
  have hwX : IntKind.i64.wrap (X : Int) = (X : Int) := IntWalk.i64_in _ (by omega)
  have hB1 := hB.drew
  have hB2 : ∀ o, Bs (((w.alloc (.cells #[.int .i64 0, .int .i64 0, .string { data := #[] }] 47)).alloc o).drew) (some ad) 0 r := fun o => (hB.below (below_box _ o (Nat.le_refl _))).drew
  have hB3 : ∀ o, Bs ((w.alloc (.cells #[.int .i64 0, .int .i64 0, .string { data := #[] }] 47)).drew.alloc o) (some ad) 0 r := fun o => hB.drew.below (below_box _ o (Nat.le_refl _))
  have hlt := World.block_lt_of_cell? _ _ hcell
  go_enter Try.func75, Try.ntmps75
  go_wp2_with fail
  go_region_held3 (fun w' => w'.cell? ad = some (.int .u8 (X : Int))) (first | ((repeat' (first | exact hcell | assumption | refine ck_drew ?_ | refine ck_alloc _ ?_)); done) | go_keep)
    (first
      | (go_at_call 76; (with_reducible refine (q _ hB1).mono ?_); rintro e w' ⟨rfl, rfl⟩)
      | (go_at_call 76; (with_reducible refine (q _ (hB2 _)).mono ?_); rintro e w' ⟨rfl, rfl⟩)
      | (go_at_call 76; (with_reducible refine (q _ (hB3 _)).mono ?_); rintro e w' ⟨rfl, rfl⟩))
  all_goals clear q hB hB1 hB2 hB3 hcell hlt
  · by_cases he : er = 0
    · subst he
      go_wp2
      go_returns
      exact ⟨rfl, by go_grown⟩
    · have hei : ((er : Int) != 0) = true := by simp; omega
      go_wp2
      go_returns
      refine ⟨?_, by go_grown⟩
      unfold finV
      rw [if_pos he]
      rfl
  · by_cases he : er = 0
    · subst he
      go_wp2
      go_returns
      exact ⟨rfl, by go_grown⟩
    · have hei : ((er : Int) != 0) = true := by simp; omega
      go_wp2
      go_returns
      refine ⟨?_, by go_grown⟩
      unfold finV
      rw [if_pos he]
      rfl

theorem readR_k (X : Nat) (r : List UInt8) : (readR X r).k ≤ r.length + 10 := by
  have hbd := getF_bd (nat8 r) 0 0 (by decide) (by omega)
  unfold readR
  split
  · unfold intR; simp only; omega
  · split
    · cases r with
      | nil => simp [boolR, none_]
      | cons x r =>
        simp only [boolR]
        split <;> simp [none_]
    · split
      · unfold textR
        split
        · simp [none_]
        · split
          · simp [none_]
          · split
            · simp [none_]
            · simp only; omega
      · simp [none_]
theorem readR_none {X : Nat} {r : List UInt8} (h : ¬ (X = 1 ∨ X = 2 ∨ X = 3)) : readR X r = none_ 11 := by
  unfold readR
  rw [if_neg (by omega), if_neg (by omega), if_neg (by omega)]
theorem cut_add (ad : Addr) : ad.add 1 = { block := ad.block, off := ad.off + 1 } := by unfold Addr.add; rw [if_neg (by decide)]

theorem vget_any (A : Option Addr) (c len : Nat) (l : List UInt8) (w : World) (ha : Bs w A c l) (hlen : l.length = len) (hl : len ≤ 65536) :
    Calls Try.prog 75 #[.slice A len c] w fun e w' => e = .returned (getV l).v ∧ Below w.heap.size w w' := by
  have b0 := below_box w (.cells #[.int .i64 0, .int .i64 0, .string { data := #[] }] 47) (Nat.le_refl _)
  have ha0 := ha.below b0
  cases l with
  | nil =>
    simp only [List.length_nil] at hlen
    subst hlen
    go_enter Try.func75, Try.ntmps75
    go_wp2
    go_returns
    exact ⟨rfl, by go_grown⟩
  | cons x r =>
    obtain ⟨ad, rfl, hcell⟩ := ha0.get (k := 0) (by simp)
    simp only [Addr.add, if_true, List.getElem_cons_zero] at hcell
    have hr : r.length + 1 = len := by simpa using hlen
    subst hr
    have hc : r.length + 1 ≤ c := ha0.cap
    have ha1 := ha0.drop 1 (by simp)
    have hk := readR_k x.toNat r
    unfold cutA at ha1
    simp only [Option.map_some, cut_add, List.drop_succ_cons, List.drop_zero] at ha1
    show Calls _ _ _ _ fun e w' => e = .returned (finV (readR x.toNat r)).v ∧ _
    by_cases hx : x.toNat = 1 ∨ x.toNat = 2 ∨ x.toNat = 3
    · have q := fun A' c' W hB => read_kinds x.toNat hx A' c' r.length r W hB rfl (by omega)
      generalize readR x.toNat r = R at *
      obtain ⟨K, N, S, k, er⟩ := R
      by_cases hc1 : c = 1
      · rw [if_pos hc1] at ha1
        subst hc1
        obtain rfl : r = [] := List.eq_nil_of_length_eq_zero (by omega)
        exact vget_kinds1 ad x.toNat [] K N S k er w hcell x.toNat_lt (by simp only at hk; omega) ha1 (fun W hB => q _ _ W hB)
      · rw [if_neg hc1] at ha1
        exact vget_kinds ad c r.length x.toNat r K N S k er w hc1 hcell x.toNat_lt hc (by simp only at hk; omega) ha1 (fun W hB => q _ _ W hB)
    · rw [readR_none hx]
      by_cases hc1 : c = 1
      · rw [if_pos hc1] at ha1
        subst hc1
        obtain rfl : r = [] := List.eq_nil_of_length_eq_zero (by omega)
        exact vget_none1 ad x.toNat [] 0 0 emp 0 11 w hcell x.toNat_lt (by decide) ha1 (fun W hB => read_none x.toNat (by omega) (by omega) (by omega) _ _ _ W)
      · rw [if_neg hc1] at ha1
        exact vget_none ad c r.length x.toNat r 0 0 emp 0 11 w hc1 hcell x.toNat_lt hc (by decide) ha1 (fun W hB => read_none x.toNat (by omega) (by omega) (by omega) _ _ _ W)
end Go.Proofs.Ytndcdidepdcmnaa.V04
end
