/-
  A slice of counts; slices.Equal of numbers; slices.ContainsFunc of counts by Full.
-/
import Derived.Test.YthggaoobbkflaaaH11Clone
set_option linter.unusedSimpArgs false
set_option linter.unusedVariables false
namespace Go.Proofs.Ythggaoobbkflaaa.H11
open Go.RowKit Go.Lib Go.Proofs.Ythggaoobbkflaaa.Wd Go.Proofs.Ythggaoobbkflaaa.S10

/-- a count's cells -/
def cc (S : Nat) : List Value := [.int .u64 (sn S), .bool (sf S)]
def crow (cs : List Nat) : List Value := cs.flatMap cc
theorem crow_len (cs : List Nat) : (crow cs).length = cs.length * 2 := by
  induction cs with
  | nil => rfl
  | cons a cs ih => simp only [crow, List.flatMap_cons, List.length_append, List.length_cons] at *; rw [ih]; simp [cc]; omega
theorem crow_app (a b : List Nat) : crow (a ++ b) = crow a ++ crow b := List.flatMap_append
theorem crow_one (cs : List Nat) : ∀ u ∈ crow cs, u.oneCell' = true := by
  intro u hu
  obtain ⟨S, _, hS⟩ := List.mem_flatMap.1 hu
  simp only [cc, List.mem_cons, List.not_mem_nil, or_false] at hS
  rcases hS with rfl | rfl <;> rfl
theorem crow_get : ∀ (cs : List Nat) (i : Nat) (h : i < cs.length), (crow cs)[2 * i]? = some (.int .u64 (sn cs[i])) ∧ (crow cs)[2 * i + 1]? = some (.bool (sf cs[i]))
  | a :: cs, 0, h => ⟨rfl, rfl⟩
  | a :: cs, i + 1, h => by
    have ih := crow_get cs i (by simpa using h)
    simp only [crow, List.flatMap_cons, List.getElem_cons_succ] at *
    have e1 : 2 * (i + 1) = 2 + 2 * i := by omega
    have e2 : 2 * (i + 1) + 1 = 2 + (2 * i + 1) := by omega
    rw [e1, show 2 + 2 * i + 1 = 2 + (2 * i + 1) by omega]
    constructor
    · rw [List.getElem?_append_right (by simp [cc])]
      simpa [cc] using ih.1
    · rw [List.getElem?_append_right (by simp [cc])]
      simpa [cc] using ih.2
/-- a slice of counts -/
def Cs (w : World) (A : Option Addr) (c : Nat) (cs : List Nat) : Prop := Rd 2 w A cs.length c (crow cs)
theorem Cs.below {w w' : World} {A : Option Addr} {c : Nat} {cs : List Nat} (h : Cs w A c cs) (hb : Below w.heap.size w w') : Cs w' A c cs := Rd.below h hb
theorem add_shift (a : Addr) (i : Nat) (h : a.spot = none) : a.add i = ⟨a.block, a.off + i, none⟩ := by
  unfold Addr.add
  split
  · rename_i h0
    subst h0
    cases a
    simp_all
  · simp_all
theorem Cs.get {w : World} {A : Option Addr} {c : Nat} {cs : List Nat} (h : Cs w A c cs) {i : Nat} (hi : i < cs.length) :
    ∃ ad, A = some ad ∧ w.cell? (ad.add (2 * i)) = some (.int .u64 (sn cs[i])) ∧ w.cell? (ad.add (2 * i + 1)) = some (.bool (sf cs[i])) := by
  cases hA : A with
  | none => have := h.none_ hA; omega
  | some ad =>
    have := crow_get cs i hi
    exact ⟨ad, rfl, h.at_ ad hA _ _ this.1, h.at_ ad hA _ _ this.2⟩
set_option maxRecDepth 20000 in
set_option maxHeartbeats 1000000 in
theorem equal_at (A B : Option Addr) (c d N M : Nat) (l m : List Nat) (b : Bool) (w : World) (ha : Us w A c l) (hb : Us w B d m) (hN : l.length = N) (hM : m.length = M) (he : b = true ↔ l = m) :
    Calls Try.prog 22 #[.slice A N c, .slice B M d] w fun e w' => e = .returned (.bool b) ∧ Below w.heap.size w w' := by
  have hmx := us_max ha hN
  have HN := Lib.hid hN
  have HM := Lib.hid hM
  have HE := Lib.hid he
  have b0 := Below.refl w.heap.size w
  clear he
  by_cases hNM : N = M
  · subst hNM
    have I0 := Lib.hid (show l.take 0 = m.take 0 from rfl)
    clear hN hM
    go_enter Try.func22, Try.ntmps22
    go_wp2
    go_loopw [13] (fun v wr => ∃ (k : Nat), v = .int .i64 (k : Int) ∧ k ≤ N ∧ Hid (l.take k = m.take k) ∧ Below w.heap.size w wr) (fun v _ => N - (intOf v).toNat)
    case atStart => exact ⟨0, rfl, by omega, I0, b0⟩
    case round =>
      clear I0 b0
      obtain ⟨k, rfl, hk, I, b0⟩ := hrel
      by_cases hlt : k < N
      · have hkl : k < l.length := by rw [HN.out]; exact hlt
        have hkm : k < m.length := by rw [HM.out]; exact hlt
        obtain ⟨ad, rfl, hcell, hx⟩ := (ha.below b0).get hkl
        obtain ⟨ad2, rfl, hcell2, hy⟩ := (hb.below b0).get hkm
        have e1 := List.take_succ_eq_append_getElem hkl
        have e2 := List.take_succ_eq_append_getElem hkm
        have hne : l[k] ≠ m[k] → b = false := fun h => by
          cases b
          · rfl
          · have := HE.out.1 rfl
            subst this
            exact absurd rfl h
        have E1 := Lib.hid e1
        have E2 := Lib.hid e2
        clear e1 e2
        generalize l[k] = x at *
        generalize m[k] = y at *
        by_cases hxy : x = y
        · subst hxy
          have I2 := Lib.hid (show l.take (k + 1) = m.take (k + 1) from by rw [E1.out, E2.out, I.out])
          clear hne E1 E2 I
          go_wp2_with fail
          go_quiet (fail)
          go_wp2
          go_roundw
          case rel => exact ⟨k + 1, by go_num, by omega, I2, below_dn b0 _⟩
          case measure => first | go_num | (simp [intOf]; omega)
        · have e := hne hxy
          subst e
          have hxz : ¬ (x : Int) = (y : Int) := by omega
          clear hne E1 E2 I
          go_wp2_with fail
          go_quiet (fail)
          go_wp2
          go_ret
          exact ⟨rfl, below_dn b0 _⟩
      · have e : b = true := by
          refine HE.out.2 ?_
          have := I.out
          rwa [List.take_of_length_le (by rw [HN.out]; omega), List.take_of_length_le (by rw [HM.out]; omega)] at this
        subst e
        clear I
        go_wp2
        go_ret
        exact ⟨rfl, b0⟩
  · have e : b = false := by
      cases b
      · rfl
      · have := HE.out.1 rfl
        subst this
        omega
    subst e
    have hz : ¬ (N : Int) = (M : Int) := by omega
    clear hN hM
    go_enter Try.func22, Try.ntmps22
    go_wp2
    go_ret
    exact ⟨rfl, b0⟩
end Go.Proofs.Ythggaoobbkflaaa.H11
