/-
  container/heap's down, over the items.
-/
import Derived.Test.YtdmibolbpgondaaGreatKU12Less
set_option linter.unusedSimpArgs false
set_option linter.unusedVariables false
namespace Go.Proofs.YtdmibolbpgondaaGreat.U12
open Go.RowKit Go.Lib Go.Maps Go.Proofs.YtdmibolbpgondaaGreat.Wd

section
variable {w0 w w' : World} {p c b N M : Nat} {A : Option Addr} {K0 K : Nat → It} {D : DataW Unit}
/-- how far down has come -/
structure DnR (K : Nat → It) (M i0 i : Nat) : Prop where
  ge : i0 ≤ i
  dn : DnI K M i
  dn2 : i0 < i → Dn2 K M i
/-- what down leaves -/
def DnOut (w0 : World) (p : Nat) (A : Option Addr) (c b N M i0 : Nat) (K0 : Nat → It) (e : Ending) (w' : World) : Prop :=
  ∃ r, e = .returned (.bool r) ∧ ∃ K, St w0 p A c b N M K0 K w' ∧ (r = false → UpI K M i0) ∧ (r = true → Hp K M)
theorem DnOut.of {i0 i : Nat} {r : Bool} (h : St w0 p A c b N M K0 K w') (hr : r = decide ((i0 : Int) < (i : Int))) (hd : DnR K M i0 i) (hk : ∀ k, 0 < k → k < M → par k = i → Le (K i) (K k)) : DnOut w0 p A c b N M i0 K0 (.returned (.bool r)) w' := by
  refine ⟨r, rfl, K, h, fun e => ?_, fun e => ?_⟩
  · have : ¬ ((i0 : Int) < (i : Int)) := of_decide_eq_false (hr.symm.trans e)
    have e2 : i = i0 := by have := hd.ge; omega
    subst e2
    exact hd.dn.up hk
  · have : (i0 : Int) < (i : Int) := of_decide_eq_true (hr.symm.trans e)
    exact (hd.dn2 (by omega)).done hk
set_option maxRecDepth 20000 in
set_option maxHeartbeats 1000000 in
theorem down_at (i : Nat) (h : St w0 p A c b N M K0 K w) (hn : Nd K0 N) (hM : M ≤ N) (hi : i < M) (hu : DnI K M i) :
    Calls Tryz.prog 130 #[.iface 127 (.pointer (some ⟨p, 0, none⟩)), .int .i64 (i : Int), .int .i64 (M : Int)] w (DnOut w0 p A c b N M i K0) := by
  have hN := h.few
  have HU := Lib.hid (show DnR K M i i from ⟨Nat.le_refl _, hu, fun h => by omega⟩)
  have HS := Lib.hid h
  clear hu h
  go_enter Tryz.func130, Tryz.ntmps130
  go_wp2
  go_loopw [7] (fun v wr => ∃ (k : Nat) (K : Nat → It), v = .int .i64 (k : Int) ∧ k < M ∧ Hid (DnR K M i k) ∧ Hid (St w0 p A c b N M K0 K wr)) (fun v _ => M - (intOf v).toNat)
  case atStart => exact ⟨i, K, rfl, hi, HU, HS⟩
  case round =>
    clear HU HS hi
    obtain ⟨k, K, rfl, hk, HU, HS⟩ := hrel
    obtain ⟨j1, hj1⟩ : ∃ j1, 2 * k + 1 = j1 := ⟨_, rfl⟩
    obtain ⟨j2, hj2⟩ : ∃ j2, j1 + 1 = j2 := ⟨_, rfl⟩
    have e1 : 2 * (k : Int) + 1 = (j1 : Int) := by omega
    have e2 : (j1 : Int) + 1 = (j2 : Int) := by omega
    have hkids : ∀ t, 0 < t → (par t = k ↔ t = j1 ∨ t = j2) := fun t t0 => by rw [kids t0]; omega
    have HJ1 := Lib.hid hj1
    have HJ2 := Lib.hid hj2
    have HKD := Lib.hid hkids
    have h0 : k < j1 := by omega
    have h00 : j1 < j2 := by omega
    clear hj1 hj2 hkids
    by_cases k1 : j1 < M
    · by_cases k2 : j2 < M
      · obtain ⟨y, hy⟩ : ∃ y, decide (Lt (K j2) (K j1)) = y := ⟨_, rfl⟩
        have HL := less_st HS.out j2 j1 y (by omega) (by omega) hy
        have HY := Lib.hid hy
        clear hy HS
        go_wp2_with fail
        refine HL.mono ?_
        rintro e w1 ⟨rfl, hS1⟩
        have HS := Lib.hid hS1
        clear HL hS1
        cases y with
        | true =>
          have HT := Lib.hid (show ∀ t, 0 < t → t < M → par t = k → Le (K j2) (K t) from fun t t0 t1 tp => by
            rcases (HKD.out t t0).1 tp with rfl | rfl
            · exact (of_decide_eq_true HY.out).le
            · exact Le.refl _)
          clear HY
          have hcp : par j2 = k := (HKD.out j2 (by omega)).2 (by omega)
          obtain ⟨x, hx⟩ : ∃ x, decide (Lt (K j2) (K k)) = x := ⟨_, rfl⟩
          have HL := less_st HS.out j2 k x (by omega) (by omega) hx
          have HX := Lib.hid hx
          have HCP := Lib.hid hcp
          clear hx HS hcp HKD
          go_wp2_with fail
          refine HL.mono ?_
          rintro e w2 ⟨rfl, hS2⟩
          have HS := Lib.hid hS2
          clear HL hS2
          cases x with
          | false =>
            have HT2 := Lib.hid (show ∀ t, 0 < t → t < M → par t = k → Le (K k) (K t) from fun t t0 t1 tp => (not_lt (of_decide_eq_false HX.out)).trans (HT.out t t0 t1 tp))
            clear HX HT
            go_wp2
            go_returns
            exact DnOut.of HS.out (by first | rfl | simp) HU.out HT2.out
          | true =>
            have hD2 := HU.out.dn.step (by omega : 0 < j2) (by omega) HCP.out HT.out (of_decide_eq_true HX.out)
            have HU2 := Lib.hid (show DnR (sw K k j2) M i j2 from ⟨by have := HU.out.ge; omega, hD2.dn, fun _ => hD2⟩)
            have HW := swap_st HS.out hn hM k j2 (by omega) (by omega) (by omega)
            clear HX HT HU HS hD2 HCP
            go_wp2_with fail
            refine HW.mono ?_
            rintro e w3 ⟨rfl, hS3⟩
            have HS3 := Lib.hid hS3
            clear hS3 HW
            go_wp2
            go_roundw
            case rel => exact ⟨j2, sw K k j2, rfl, by omega, HU2, HS3⟩
            case measure => first | go_num | (simp [intOf]; omega)
        | false =>
          have HT := Lib.hid (show ∀ t, 0 < t → t < M → par t = k → Le (K j1) (K t) from fun t t0 t1 tp => by
            rcases (HKD.out t t0).1 tp with rfl | rfl
            · exact Le.refl _
            · exact not_lt (of_decide_eq_false HY.out))
          clear HY
          have hcp : par j1 = k := (HKD.out j1 (by omega)).2 (by omega)
          obtain ⟨x, hx⟩ : ∃ x, decide (Lt (K j1) (K k)) = x := ⟨_, rfl⟩
          have HL := less_st HS.out j1 k x (by omega) (by omega) hx
          have HX := Lib.hid hx
          have HCP := Lib.hid hcp
          clear hx HS hcp HKD
          go_wp2_with fail
          refine HL.mono ?_
          rintro e w2 ⟨rfl, hS2⟩
          have HS := Lib.hid hS2
          clear HL hS2
          cases x with
          | false =>
            have HT2 := Lib.hid (show ∀ t, 0 < t → t < M → par t = k → Le (K k) (K t) from fun t t0 t1 tp => (not_lt (of_decide_eq_false HX.out)).trans (HT.out t t0 t1 tp))
            clear HX HT
            go_wp2
            go_returns
            exact DnOut.of HS.out (by first | rfl | simp) HU.out HT2.out
          | true =>
            have hD2 := HU.out.dn.step (by omega : 0 < j1) (by omega) HCP.out HT.out (of_decide_eq_true HX.out)
            have HU2 := Lib.hid (show DnR (sw K k j1) M i j1 from ⟨by have := HU.out.ge; omega, hD2.dn, fun _ => hD2⟩)
            have HW := swap_st HS.out hn hM k j1 (by omega) (by omega) (by omega)
            clear HX HT HU HS hD2 HCP
            go_wp2_with fail
            refine HW.mono ?_
            rintro e w3 ⟨rfl, hS3⟩
            have HS3 := Lib.hid hS3
            clear hS3 HW
            go_wp2
            go_roundw
            case rel => exact ⟨j1, sw K k j1, rfl, by omega, HU2, HS3⟩
            case measure => first | go_num | (simp [intOf]; omega)
      · have HT := Lib.hid (show ∀ t, 0 < t → t < M → par t = k → Le (K j1) (K t) from fun t t0 t1 tp => by
          rcases (HKD.out t t0).1 tp with rfl | rfl
          · exact Le.refl _
          · omega)
        have hcp : par j1 = k := (HKD.out j1 (by omega)).2 (by omega)
        obtain ⟨x, hx⟩ : ∃ x, decide (Lt (K j1) (K k)) = x := ⟨_, rfl⟩
        have HL := less_st HS.out j1 k x (by omega) (by omega) hx
        have HX := Lib.hid hx
        have HCP := Lib.hid hcp
        clear hx HS hcp HKD
        go_wp2_with fail
        refine HL.mono ?_
        rintro e w2 ⟨rfl, hS2⟩
        have HS := Lib.hid hS2
        clear HL hS2
        cases x with
        | false =>
          have HT2 := Lib.hid (show ∀ t, 0 < t → t < M → par t = k → Le (K k) (K t) from fun t t0 t1 tp => (not_lt (of_decide_eq_false HX.out)).trans (HT.out t t0 t1 tp))
          clear HX HT
          go_wp2
          go_returns
          exact DnOut.of HS.out (by first | rfl | simp) HU.out HT2.out
        | true =>
          have hD2 := HU.out.dn.step (by omega : 0 < j1) (by omega) HCP.out HT.out (of_decide_eq_true HX.out)
          have HU2 := Lib.hid (show DnR (sw K k j1) M i j1 from ⟨by have := HU.out.ge; omega, hD2.dn, fun _ => hD2⟩)
          have HW := swap_st HS.out hn hM k j1 (by omega) (by omega) (by omega)
          clear HX HT HU HS hD2 HCP
          go_wp2_with fail
          refine HW.mono ?_
          rintro e w3 ⟨rfl, hS3⟩
          have HS3 := Lib.hid hS3
          clear hS3 HW
          go_wp2
          go_roundw
          case rel => exact ⟨j1, sw K k j1, rfl, by omega, HU2, HS3⟩
          case measure => first | go_num | (simp [intOf]; omega)
    · have HT := Lib.hid (show ∀ t, 0 < t → t < M → par t = k → Le (K k) (K t) from fun t t0 t1 tp => by
        rcases (HKD.out t t0).1 tp with rfl | rfl <;> omega)
      clear HKD
      go_wp2
      go_returns
      exact DnOut.of HS.out (by first | rfl | simp) HU.out HT.out
end
end Go.Proofs.YtdmibolbpgondaaGreat.U12
