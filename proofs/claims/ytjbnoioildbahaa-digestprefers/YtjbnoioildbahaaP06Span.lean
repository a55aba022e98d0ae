/-
  A span, as the machine holds it; Far, Of, To, Took, Failed.
-/
import Derived.Test.YtjbnoioildbahaaP06Slice
import Derived.BigCall
import Derived.Deep.RegionHeld3
set_option linter.unusedSimpArgs false
set_option linter.unusedVariables false
namespace Go.Proofs.Ytjbnoioildbahaa.P06
open Go.Shelf Go.RowKit Go.Lib Go.Sort Go.Proofs.Ytjbnoioildbahaa.Wd Go.Proofs.Ytjbnoioildbahaa.V04

/-- all of a span but its attributes -/
structure Sp where
  T : Int
  I : Int
  P : Int
  sv : ByteArray
  nm : ByteArray
  kd : Int
  st : Int
  t0 : Int
  t1 : Int
abbrev spc (s : Sp) (v : Value) : Array Value := #[.int .u64 s.T, .int .u64 s.I, .int .u64 s.P, .string s.sv, .string s.nm, .int .i64 s.kd, .int .i64 s.st, .int .u64 s.t0, .int .u64 s.t1, v]
abbrev spv (s : Sp) (v : Value) : Value := .agg (spc s v)

/-- how long -/
def took (s : Sp) : Int := if s.t1 < s.t0 then 0 else s.t1 - s.t0
/-- is it more than is looked at? -/
def far (s : Sp) (l : List At) : Bool := decide (s.sv.size > 5000) || decide (s.nm.size > 5000) || decide (l.length > 40) || l.any fun x => decide (x.key.size > 300) || decide (x.S.size > 5000)
set_option maxHeartbeats 2000000 in
set_option maxRecDepth 20000 in
theorem far_any (s : Sp) (A : Option Addr) (c : Nat) (l : List At) (w : World) (h : Ats w A c l) (hm : l.length ≤ 9223372036854775807) :
    Calls Try.prog 15 #[spv s (.slice A l.length c)] w fun e w' => e = .returned (.bool (far s l)) ∧ Below w.heap.size w w' := by
  by_cases h1 : (5000 : Int) < (s.sv.size : Int) ∨ (5000 : Int) < (s.nm.size : Int) ∨ (40 : Int) < (l.length : Int)
  · have e : far s l = true := by unfold far; simp; omega
    rw [e]
    go_enter Try.func15, Try.ntmps15
    go_wp2
    all_goals first | (exfalso; omega) | skip
    all_goals go_ret
    all_goals exact ⟨rfl, by go_grown⟩
  · have e : far s l = l.any fun x => decide (x.key.size > 300) || decide (x.S.size > 5000) := by
      unfold far
      rw [decide_eq_false (by omega : ¬ s.sv.size > 5000), decide_eq_false (by omega : ¬ s.nm.size > 5000), decide_eq_false (by omega : ¬ l.length > 40)]
      simp
    rw [e]
    clear e
    have k1 : ¬ ((5000 : Int) < (s.sv.size : Int)) := by omega
    have k2 : ¬ ((5000 : Int) < (s.nm.size : Int)) := by omega
    have k3 : ¬ ((40 : Int) < (l.length : Int)) := by omega
    obtain ⟨r, hr⟩ : ∃ r, (l.any fun x => decide (x.key.size > 300) || decide (x.S.size > 5000)) = r := ⟨_, rfl⟩
    rw [hr]
    have HR := Lib.hid hr
    clear hr h1
    obtain ⟨n, hn⟩ : ∃ n, l.length = n := ⟨_, rfl⟩
    have HN := Lib.hid hn
    rw [hn] at k3 hm ⊢
    clear hn
    go_enter Try.func15, Try.ntmps15
    go_wp2
    have hA : Ats (w.alloc (.cells (spc s (.slice A n c)) 36)) A c l := h.below (by go_grown)
    have b0 : Below w.heap.size w (w.alloc (.cells (spc s (.slice A n c)) 36)) := by go_grown
    have c9 : (w.alloc (.cells (spc s (.slice A n c)) 36)).cell? ⟨w.heap.size, 9, none⟩ = some (.slice A n c) := by simp
    generalize w.alloc (.cells (spc s (.slice A n c)) 36) = X at hA b0 c9 ⊢
    go_loopw [3] (fun v wr => ∃ k : Nat, v = .int .i64 k ∧ k ≤ n ∧ wr = X ∧ Hid (((l.drop k).any fun x => decide (x.key.size > 300) || decide (x.S.size > 5000)) = r)) (fun v _ => n - (intOf v).toNat)
    case atStart => exact ⟨0, rfl, Nat.zero_le _, rfl, HR⟩
    case round =>
      obtain ⟨k, rfl, hk, rfl, HI⟩ := hrel
      by_cases hlt : k < n
      · have hltz : (k : Int) < (n : Int) := by omega
        have hkl : k < l.length := by rw [un HN]; exact hlt
        obtain ⟨ad, p, rfl, hp, F⟩ := hA.get hkl
        have hI : ((decide (l[k].key.size > 300) || decide (l[k].S.size > 5000)) || (l.drop (k + 1)).any fun x => decide (x.key.size > 300) || decide (x.S.size > 5000)) = r := by
          have := un HI
          rw [List.drop_eq_getElem_cons hkl, List.any_cons] at this
          exact this
        have HJ := Lib.hid hI
        clear hI HI
        have f0 := F.c0
        have f3 : wr.cell? ⟨p.block, p.off + 1 + 2, none⟩ = some (.string l[k].S) := F.c3
        clear F
        generalize l[k] = x at *
        by_cases q1 : (300 : Int) < (x.key.size : Int)
        · go_wp2
          go_ret
          refine ⟨ret_bool ?_, b0⟩
          rw [← un HJ, decide_eq_true (by omega : x.key.size > 300)]
          simp
        · by_cases q2 : (5000 : Int) < (x.S.size : Int)
          · go_wp2
            go_ret
            refine ⟨ret_bool ?_, b0⟩
            rw [← un HJ, decide_eq_true (by omega : x.S.size > 5000)]
            simp
          · go_wp2
            go_roundw
            case rel =>
              refine ⟨k + 1, by go_num, by omega, by first | rfl | trivial, ?_⟩
              have := un HJ
              rw [decide_eq_false (by omega : ¬ x.key.size > 300), decide_eq_false (by omega : ¬ x.S.size > 5000)] at this
              exact Lib.hid (by simpa using this)
            case measure => first | go_num | (simp [intOf]; omega)
      · have hltz : ¬ ((k : Int) < (n : Int)) := by omega
        go_wp2
        go_ret
        refine ⟨ret_bool ?_, b0⟩
        rw [← un HI, List.drop_of_length_le (by rw [un HN]; omega)]
        rfl
end Go.Proofs.Ytjbnoioildbahaa.P06
