/-
  What read and Get do.
-/
import Derived.Test.YtcbnjokojefjmaaDoorV04Get
set_option linter.unusedSimpArgs false
set_option linter.unusedVariables false
namespace Go.Proofs.YtcbnjokojefjmaaDoor.V04
open Go.RowKit Go.Lib Go.Proofs.YtcbnjokojefjmaaDoor.Wd Go.Proofs.YtcbnjokojefjmaaDoor.V01

def readR (kind : Nat) (l : List UInt8) : Rdv := if kind = 1 then intR l else if kind = 2 then boolR l else if kind = 3 then textR l else none_ 11
set_option maxRecDepth 20000 in
set_option maxHeartbeats 1000000 in
theorem read_kinds (kind : Nat) (hk : kind = 1 ∨ kind = 2 ∨ kind = 3) (A : Option Addr) (c len : Nat) (l : List UInt8) (w : World) (ha : Bs w A c l) (hlen : l.length = len) (hl : len ≤ 65536) :
    Calls Tryd.prog 27 #[.int .i64 kind, .slice A len c] w fun e w' => e = .returned (readR kind l).v ∧ w' = (w.alloc (readR kind l).box).alloc (readR kind l).box := by
  have b0 := below_box w (box 27 0 0 emp) (Nat.le_refl _)
  have ha0 := ha.below b0
  rcases hk with rfl | rfl | rfl
  · have hR : readR 1 l = intR l := rfl
    rw [hR]
    have hc := readInt_any A c len l _ ha0 hlen hl
    unfold Rdv.v Rdv.box at *
    generalize intR l = R at *
    go_enter Tryd.func27, Tryd.ntmps27
    go_wp2_with fail
    refine hc.mono ?_
    rintro e w1 ⟨rfl, rfl⟩
    go_wp2
    go_returns
    exact ⟨rfl, rfl⟩
  · have hR : readR 2 l = boolR l := rfl
    rw [hR]
    have hc := readBool_any A c len l _ ha0 hlen hl
    unfold Rdv.v Rdv.box at *
    generalize boolR l = R at *
    go_enter Tryd.func27, Tryd.ntmps27
    go_wp2_with fail
    refine hc.mono ?_
    rintro e w1 ⟨rfl, rfl⟩
    go_wp2
    go_returns
    exact ⟨rfl, rfl⟩
  · have hR : readR 3 l = textR l := rfl
    rw [hR]
    have hc := readText_any A c len l _ ha0 hlen hl
    unfold Rdv.v Rdv.box at *
    generalize textR l = R at *
    go_enter Tryd.func27, Tryd.ntmps27
    go_wp2_with fail
    refine hc.mono ?_
    rintro e w1 ⟨rfl, rfl⟩
    go_wp2
    go_returns
    exact ⟨rfl, rfl⟩
theorem read_none (kind : Nat) (h1 : ¬ kind = 1) (h2 : ¬ kind = 2) (h3 : ¬ kind = 3) (A : Option Addr) (c len : Nat) (w : World) :
    Calls Tryd.prog 27 #[.int .i64 kind, .slice A len c] w fun e w' => e = .returned (none_ 11).v ∧ w' = w.alloc (none_ 11).box := by
  go_enter Tryd.func27, Tryd.ntmps27
  go_wp2
  go_returns
  exact ⟨rfl, rfl⟩

theorem ck_alloc {w : World} {p : Addr} {v : Value} (o : Obj) (h : w.cell? p = some v) : (w.alloc o).cell? p = some v := by
  rw [(below_box w o (Nat.le_refl _)).cell (World.block_lt_of_cell? _ _ h)]
  exact h
theorem ck_drew {w : World} {p : Addr} {v : Value} (h : w.cell? p = some v) : w.drew.cell? p = some v := h
/-- the value with which bytes begin -/
def finV (R : Rdv) : Rdv := if R.e ≠ 0 then none_ R.e else ⟨R.K, R.N, R.S, 1 + R.k, 0⟩
def getV : List UInt8 → Rdv
  | [] => none_ 10
  | x :: r => finV (readR x.toNat r)

set_option maxRecDepth 20000 in
set_option maxHeartbeats 2000000 in
theorem vget_kinds (ad : Addr) (c len X : Nat) (r : List UInt8) (K N : Int) (S : ByteArray) (k er : Nat) (w : World) (hc : ¬ c = 1)
    (hcell : (w.alloc (.cells #[.int .i64 0, .int .i64 0, .string { data := #[] }] 27)).cell? ad = some (.int .u8 (X : Int))) (hX : X < 256) (hlc : len + 1 ≤ c) (hk : k ≤ 70000)
    (hB : Bs (w.alloc (.cells #[.int .i64 0, .int .i64 0, .string { data := #[] }] 27)) (some { block := ad.block, off := ad.off + 1 }) (c - 1) r)
    (q : ∀ W, Bs W (some { block := ad.block, off := ad.off + 1 }) (c - 1) r → Calls Tryd.prog 27 #[.int .i64 (X : Int), .slice (some { block := ad.block, off := ad.off + 1 }) len (c - 1)] W fun e w' => e = .returned (.tuple #[vl K N S, .int .i64 k, .int .i64 er]) ∧ w' = (W.alloc (box 27 K N S)).alloc (box 27 K N S)) :
    Calls Tryd.prog 14 #[.slice (some ad) (len + 1) c] w fun e w' => e = .returned (finV ⟨K, N, S, k, er⟩).v ∧ Below w.heap.size w w' := by
  have p1 : (1 : Int) ≤ ((len + 1 : Nat) : Int) := by omega
  have p2 : (1 : Int) ≤ (c : Int) := by omega
  have p3 : (1 : Int) ≤ (len : Int) + 1 := by omega
  have hwX : IntKind.i64.wrap (X : Int) = (X : Int) := IntWalk.i64_in _ (by omega)
  have hB1 := hB.drew
  have hB2 : ∀ o, Bs (((w.alloc (.cells #[.int .i64 0, .int .i64 0, .string { data := #[] }] 27)).alloc o).drew) (some { block := ad.block, off := ad.off + 1 }) (c - 1) r := fun o => (hB.below (below_box _ o (Nat.le_refl _))).drew
  have hB3 : ∀ o, Bs ((w.alloc (.cells #[.int .i64 0, .int .i64 0, .string { data := #[] }] 27)).drew.alloc o) (some { block := ad.block, off := ad.off + 1 }) (c - 1) r := fun o => hB.drew.below (below_box _ o (Nat.le_refl _))
  have hlt := World.block_lt_of_cell? _ _ hcell
  go_enter Tryd.func14, Tryd.ntmps14
  go_wp2_with fail
  go_region_held3 (fun w' => w'.cell? ad = some (.int .u8 (X : Int))) (first | ((repeat' (first | exact hcell | assumption | refine ck_drew ?_ | refine ck_alloc _ ?_)); done) | go_keep)
    (first
      | (go_at_call 27; (with_reducible refine (q _ hB1).mono ?_); rintro e w' ⟨rfl, rfl⟩)
      | (go_at_call 27; (with_reducible refine (q _ (hB2 _)).mono ?_); rintro e w' ⟨rfl, rfl⟩)
      | (go_at_call 27; (with_reducible refine (q _ (hB3 _)).mono ?_); rintro e w' ⟨rfl, rfl⟩))
  all_goals clear q hB hB1 hB2 hB3 hcell hlt
  · by_cases he : er = 0
    · subst he
      go_wp2
      go_returns
      exact ⟨rfl, by go_grown⟩
    · have hei : ((er : Int) != 0) = true := by simp; omega
      go_wp2
      go_returns
      refine ⟨?_, by go_grown⟩
      unfold finV
      rw [if_pos he]
      rfl
  · by_cases he : er = 0
    · subst he
      go_wp2
      go_returns
      exact ⟨rfl, by go_grown⟩
    · have hei : ((er : Int) != 0) = true := by simp; omega
      go_wp2
      go_returns
      refine ⟨?_, by go_grown⟩
      unfold finV
      rw [if_pos he]
      rfl
end Go.Proofs.YtcbnjokojefjmaaDoor.V04
