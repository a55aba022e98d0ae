/-
  Numbers in their places: a range parted about one of them (written by gen15/parts.py).
-/
import Derived.Test.YtdmibolbpgondaaGreatKX15SortU
import Derived.Deep.CutRange
import Derived.Handy
set_option linter.unusedSimpArgs false
set_option linter.unusedVariables false
namespace Go.Proofs.YtdmibolbpgondaaGreat.Ou
open Go.Sort Go.RowKit Go.Lib
theorem cell_still {w : World} {p q : Addr} {x v : Value} (h : w.cell? q = some v) : ∃ v', (w.setCell p x).cell? q = some v' := by
  by_cases e : p = q
  · subst e
    exact ⟨x, World.cell?_setCell_same w p x h⟩
  · exact ⟨v, (World.cell?_setCell_other w p q x e).trans h⟩
/-- what the parting leaves: where the one stands, and whether it was parted before -/
def PaOut (w : World) (blk off N a b : Nat) (d : Array Int) (e : Ending) (W' : World) : Prop := ∃ m q d4, e = .returned (.tuple #[.int .i64 ((m : Nat) : Int), .bool q]) ∧ Rs w blk off N d4 W' ∧ Po d a b m d4
def PeOut (w : World) (blk off N a b : Nat) (P : Int) (d : Array Int) (e : Ending) (W' : World) : Prop := ∃ m d4, e = .returned (.int .i64 ((m : Nat) : Int)) ∧ Rs w blk off N d4 W' ∧ Pe d a b m P d4
set_option maxRecDepth 20000 in
set_option maxHeartbeats 8000000 in
theorem parteq_any {w W : World} {blk off N c a b pv : Nat} {d : Array Int} (h : Rs w blk off N d W) (hap : a ≤ pv) (hpb : pv < b) (hb : b ≤ N) (hN : N ≤ 100000) :
    Calls Tryz.prog 115 #[.slice (some ⟨blk, off, none⟩) N c, .int .i64 (a : Int), .int .i64 (b : Int), .int .i64 (pv : Int)] W (PeOut w blk off N a b d[pv]! d) := by
  obtain ⟨P, hP⟩ : ∃ P, d[pv]! = P := ⟨_, rfl⟩
  rw [hP]
  have hb0 : b ≤ d.size := by rw [h.sz]; exact hb
  obtain ⟨G, hG⟩ : ∃ G : Nat → Int, ∀ t, G t = d[t]! := ⟨fun t => d[t]!, fun _ => rfl⟩
  have hcw : ∀ t, t < N → W.cell? ⟨blk, off + t, none⟩ = some (.int .u64 (G t)) := fun t ht => by rw [hG]; exact h.cell ht
  have hfw : ∀ t, t < N → W.frozen? ⟨blk, off + t, none⟩ = false := fun t ht => h.frozen ht
  have HG := Lib.hid hG
  have H0 := Lib.hid h
  have HP0 := Lib.hid hP
  clear hG h
  have han : a < N := by omega
  have hpn : pv < N := by omega
  obtain ⟨v', hy'⟩ := cell_still (w := W) (p := ⟨blk, off + a, none⟩) (x := .int .u64 (G pv)) (q := ⟨blk, off + pv, none⟩) (hcw pv hpn)
  go_enter Tryz.func115, Tryz.ntmps115
  go_wp2_with fail
  go_region
  go_wp2_with fail
  have HP := Lib.hid (And.intro (H0.out.swp (i := a) (j := pv) han hpn (HG.out _) (HG.out _)).drew (Pt.start (lf := (fun x => !ltInt P x)) hap hpb hb0 HP0.out))
  obtain ⟨wa, hwa⟩ : ∃ wa, ((W.setCell ⟨blk, off + a, none⟩ (.int .u64 (G pv))).setCell ⟨blk, off + pv, none⟩ (.int .u64 (G a))).drew = wa := ⟨_, rfl⟩
  rw [hwa] at HP ⊢
  clear hwa hcw hfw hy' v' HG H0 HP0
  go_loopw [9, 10] (fun vi vj wr => ∃ (i j : Nat) (dk : Array Int), vi = .int .i64 (i : Int) ∧ vj = .int .i64 (j : Int) ∧ Hid (Rs w blk off N dk wr ∧ Pt (fun x => !ltInt P x) P d a b i j dk)) (fun vi vj _ => (intOf vj).toNat + 1 - (intOf vi).toNat)
  case atStart => exact ⟨a + 1, b - 1, _, by go_num, by go_num, HP⟩
  case round =>
    clear HP
    obtain ⟨i, j, dk, rfl, rfl, HP⟩ := hrel
    have hai : a < i := HP.out.2.ai
    have hij : i ≤ j + 1 := HP.out.2.ij
    obtain ⟨G, hG⟩ : ∃ G : Nat → Int, ∀ t, G t = dk[t]! := ⟨fun t => dk[t]!, fun _ => rfl⟩
    have HG := Lib.hid hG
    clear hG
    go_wp2_with fail
    go_loopw [9] (fun vi wr => ∃ (x : Nat), vi = .int .i64 (x : Int) ∧ i ≤ x ∧ x ≤ j + 1 ∧ Hid (Rs w blk off N dk wr ∧ Pt (fun x => !ltInt P x) P d a b x j dk)) (fun vi _ => j + 1 - (intOf vi).toNat)
    case atStart => exact ⟨i, rfl, Nat.le_refl _, HP.out.2.ij, HP⟩
    case round =>
      clear HP
      obtain ⟨x, rfl, hix, hxj, HP⟩ := hrel
      have hjb : j < b := HP.out.2.jb
      have hax : a < x := HP.out.2.ai
      have hga : G a = P := by rw [HG.out]; exact HP.out.2.eq
      have HGA := Lib.hid hga
      clear hga
      have hcw : ∀ t, t < N → wr.cell? ⟨blk, off + t, none⟩ = some (.int .u64 (G t)) := fun t ht => by rw [HG.out]; exact HP.out.1.cell ht
      have OUT := Lib.hid (show (¬ x ≤ j ∨ (fun x => !ltInt P x) (G x) = false) → ∀ q, Hid (Rs w blk off N dk (wr.drewN q) ∧ Pt (fun x => !ltInt P x) P d a b x j dk ∧ (¬ x ≤ j ∨ (fun x => !ltInt P x) dk[x]! = false)) from fun hs q => Lib.hid ⟨HP.out.1.dn q, HP.out.2, by rw [← HG.out]; exact hs⟩)
      by_cases hle : x ≤ j
      · have hlez : (x : Int) ≤ (j : Int) := by omega
        have hxn : x < N := by omega
        cases ht : ltInt (G a) (G x) with
        | false =>
          go_wp2_with fail
          go_quiet (first | (go_at_call 114; refine Calls.quiet_of_same (less_any _ _ _)))
          go_wp2
          go_roundw
          case rel => first | exact ⟨x + 1, by go_num, by omega, by omega, Lib.hid ⟨HP.out.1.dn _, HP.out.2.goU hle (by rw [← HG.out, ← HGA.out]; simp only [ht, Bool.not_false, Bool.not_true])⟩⟩ | ((repeat apply Exists.intro); exact And.intro ⟨x + 1, by go_num, by omega, by omega, Lib.hid ⟨HP.out.1.dn _, HP.out.2.goU hle (by rw [← HG.out, ← HGA.out]; simp only [ht, Bool.not_false, Bool.not_true])⟩⟩ rfl)
          case measure => first | (simp [intOf]; done) | (simp [intOf]; omega)
        | true =>
          go_wp2_with fail
          go_quiet (first | (go_at_call 114; refine Calls.quiet_of_same (less_any _ _ _)))
          have HQ := OUT.out (.inr (by rw [← HGA.out]; simp only [ht, Bool.not_false, Bool.not_true])) nq
          go_wp2_with fail
          clear hcw OUT ht HP hlez
          generalize wr.drewN nq = wz at HQ ⊢
          go_loopw [10] (fun vj wr => ∃ (y : Nat), vj = .int .i64 (y : Int) ∧ y ≤ j ∧ x ≤ y + 1 ∧ Hid (Rs w blk off N dk wr ∧ Pt (fun x => !ltInt P x) P d a b x y dk ∧ (fun x => !ltInt P x) dk[x]! = false)) (fun vj _ => (intOf vj).toNat)
          case atStart => exact ⟨j, rfl, Nat.le_refl _, by omega, Lib.hid ⟨HQ.out.1, HQ.out.2.1, HQ.out.2.2.resolve_left (fun k => k hle)⟩⟩
          case round =>
            clear HQ hle
            obtain ⟨y, rfl, hyj, hxy, HQ⟩ := hrel
            have hyb : y < b := HQ.out.2.1.jb
            have hyn : y < N := by omega
            have hcw : ∀ t, t < N → wr.cell? ⟨blk, off + t, none⟩ = some (.int .u64 (G t)) := fun t ht => by rw [HG.out]; exact HQ.out.1.cell ht
            by_cases hle : x ≤ y
            · have hlez : (x : Int) ≤ (y : Int) := by omega
              have hlt2 : ¬ (y : Int) < (x : Int) := by omega
              cases ht : ltInt (G a) (G y) with
              | true =>
                go_wp2_with fail
                go_quiet (first | (go_at_call 114; refine Calls.quiet_of_same (less_any _ _ _)))
                go_wp2
                go_roundw
                case rel => first | exact ⟨y - 1, by go_num, by omega, by omega, Lib.hid ⟨HQ.out.1.dn _, HQ.out.2.1.goD hle (by rw [← HG.out, ← HGA.out]; simp only [ht, Bool.not_false, Bool.not_true]), HQ.out.2.2⟩⟩ | ((repeat apply Exists.intro); exact And.intro ⟨y - 1, by go_num, by omega, by omega, Lib.hid ⟨HQ.out.1.dn _, HQ.out.2.1.goD hle (by rw [← HG.out, ← HGA.out]; simp only [ht, Bool.not_false, Bool.not_true]), HQ.out.2.2⟩⟩ rfl)
                case measure => first | (simp [intOf]; done) | (simp [intOf]; omega)
              | false =>
                go_wp2_with fail
                go_quiet (first | (go_at_call 114; refine Calls.quiet_of_same (less_any _ _ _)))
                have HS := Lib.hid (show Rs w blk off N dk (wr.drewN nq) ∧ x < y ∧ Pt (fun x => !ltInt P x) P d a b (x + 1) (y - 1) (swp dk x y) from by
                  have h2 : (fun x => !ltInt P x) dk[y]! = true := by rw [← HG.out, ← HGA.out]; simp only [ht, Bool.not_false, Bool.not_true]
                  exact ⟨HQ.out.1.dn _, HQ.out.2.1.lt hle HQ.out.2.2 h2, HQ.out.2.1.goS hb0 hle HQ.out.2.2 h2⟩)
                have hltn : x < y := HS.out.2.1
                clear hcw ht HQ
                generalize wr.drewN nq = wy at HS ⊢
                have hcw : ∀ t, t < N → wy.cell? ⟨blk, off + t, none⟩ = some (.int .u64 (G t)) := fun t ht => by rw [HG.out]; exact HS.out.1.cell ht
                have hfw : ∀ t, t < N → wy.frozen? ⟨blk, off + t, none⟩ = false := fun t ht => HS.out.1.frozen ht
                go_wp2_with fail
                go_region
                all_goals go_wp2
                go_roundw
                case rel => first | exact ⟨x + 1, y - 1, swp dk x y, by go_num, by go_num, Lib.hid (And.intro (HS.out.1.swp (i := x) (j := y) hxn hyn (HG.out _) (HG.out _)).drew HS.out.2.2)⟩ | ((repeat apply Exists.intro); exact And.intro ⟨x + 1, y - 1, swp dk x y, by go_num, by go_num, Lib.hid (And.intro (HS.out.1.swp (i := x) (j := y) hxn hyn (HG.out _) (HG.out _)).drew HS.out.2.2)⟩ rfl)
                case measure => first | (simp [intOf]; done) | (simp [intOf]; omega)
            · have hlez : decide ((x : Int) ≤ (y : Int)) = false := decide_eq_false (by omega)
              have hlt2 : (y : Int) < (x : Int) := by omega
              have hlt3 : y < x := by omega
              go_wp2_with fail
              go_quiet (fail)
              have HS := Lib.hid (show Rs w blk off N dk (wr.drewN nq) ∧ Pt (fun x => !ltInt P x) P d a b x y dk from ⟨HQ.out.1.dn _, HQ.out.2.1⟩)
              clear hcw HQ
              generalize wr.drewN nq = wy at HS ⊢
              have hcw : ∀ t, t < N → wy.cell? ⟨blk, off + t, none⟩ = some (.int .u64 (G t)) := fun t ht => by rw [HG.out]; exact HS.out.1.cell ht
              have hfw : ∀ t, t < N → wy.frozen? ⟨blk, off + t, none⟩ = false := fun t ht => HS.out.1.frozen ht
              go_wp2_with fail
              go_ret
              exact ⟨x, dk, rfl, HS.out.1, HS.out.2.fine hlt3⟩
      · have hlez : decide ((x : Int) ≤ (j : Int)) = false := decide_eq_false (by omega)
        go_wp2_with fail
        go_quiet (fail)
        have HQ := OUT.out (.inl hle) nq
        go_wp2_with fail
        clear hcw OUT HP
        generalize wr.drewN nq = wz at HQ ⊢
        go_loopw [10] (fun vj wr => vj = .int .i64 (j : Int) ∧ Hid (Rs w blk off N dk wr ∧ Pt (fun x => !ltInt P x) P d a b x j dk)) (fun vj _ => 0)
        case atStart => exact ⟨rfl, Lib.hid ⟨HQ.out.1, HQ.out.2.1⟩⟩
        case round =>
          clear HQ
          obtain ⟨rfl, HQ⟩ := hrel
          have hlt2 : (j : Int) < (x : Int) := by omega
          have hlt3 : j < x := by omega
          go_wp2_with fail
          go_quiet (fail)
          have HS := Lib.hid (show Rs w blk off N dk (wr.drewN nq) ∧ Pt (fun x => !ltInt P x) P d a b x j dk from ⟨HQ.out.1.dn _, HQ.out.2⟩)
          clear HQ
          generalize wr.drewN nq = wy at HS ⊢
          have hcw : ∀ t, t < N → wy.cell? ⟨blk, off + t, none⟩ = some (.int .u64 (G t)) := fun t ht => by rw [HG.out]; exact HS.out.1.cell ht
          have hfw : ∀ t, t < N → wy.frozen? ⟨blk, off + t, none⟩ = false := fun t ht => HS.out.1.frozen ht
          go_wp2_with fail
          go_ret
          exact ⟨x, dk, rfl, HS.out.1, HS.out.2.fine hlt3⟩
set_option maxRecDepth 20000 in
set_option maxHeartbeats 8000000 in
theorem partition_any {w W : World} {blk off N c a b pv : Nat} {d : Array Int} (h : Rs w blk off N d W) (hap : a ≤ pv) (hpb : pv < b) (hb : b ≤ N) (hN : N ≤ 100000) :
    Calls Tryz.prog 116 #[.slice (some ⟨blk, off, none⟩) N c, .int .i64 (a : Int), .int .i64 (b : Int), .int .i64 (pv : Int)] W (PaOut w blk off N a b d) := by
  obtain ⟨P, hP⟩ : ∃ P, d[pv]! = P := ⟨_, rfl⟩
  have hb0 : b ≤ d.size := by rw [h.sz]; exact hb
  obtain ⟨G, hG⟩ : ∃ G : Nat → Int, ∀ t, G t = d[t]! := ⟨fun t => d[t]!, fun _ => rfl⟩
  have hcw : ∀ t, t < N → W.cell? ⟨blk, off + t, none⟩ = some (.int .u64 (G t)) := fun t ht => by rw [hG]; exact h.cell ht
  have hfw : ∀ t, t < N → W.frozen? ⟨blk, off + t, none⟩ = false := fun t ht => h.frozen ht
  have HG := Lib.hid hG
  have H0 := Lib.hid h
  have HP0 := Lib.hid hP
  clear hG h
  have han : a < N := by omega
  have hpn : pv < N := by omega
  obtain ⟨v', hy'⟩ := cell_still (w := W) (p := ⟨blk, off + a, none⟩) (x := .int .u64 (G pv)) (q := ⟨blk, off + pv, none⟩) (hcw pv hpn)
  go_enter Tryz.func116, Tryz.ntmps116
  go_wp2_with fail
  go_region
  go_wp2_with fail
  have HP := Lib.hid (And.intro (H0.out.swp (i := a) (j := pv) han hpn (HG.out _) (HG.out _)).drew (Pt.start (lf := (fun x => ltInt x P)) hap hpb hb0 HP0.out))
  obtain ⟨wa, hwa⟩ : ∃ wa, ((W.setCell ⟨blk, off + a, none⟩ (.int .u64 (G pv))).setCell ⟨blk, off + pv, none⟩ (.int .u64 (G a))).drew = wa := ⟨_, rfl⟩
  rw [hwa] at HP ⊢
  clear hwa hcw hfw hy' v' HG H0 HP0
  obtain ⟨i, hi⟩ : ∃ i, a + 1 = i := ⟨_, rfl⟩
  obtain ⟨j, hj⟩ : ∃ j, b - 1 = j := ⟨_, rfl⟩
  rw [hi, hj] at HP
  have e1 : (a : Int) + 1 = (i : Int) := by omega
  have e2 : (b : Int) - 1 = (j : Int) := by omega
  rw [e1, e2]
  clear e1 e2
  obtain ⟨dk, hdk⟩ : ∃ dk, swp d a pv = dk := ⟨_, rfl⟩
  rw [hdk] at HP
  have hij : i ≤ j + 1 := HP.out.2.ij
  clear hi hj hdk
  obtain ⟨G, hG⟩ : ∃ G : Nat → Int, ∀ t, G t = dk[t]! := ⟨fun t => dk[t]!, fun _ => rfl⟩
  have HG := Lib.hid hG
  clear hG
  go_loopw [10] (fun vi wr => ∃ (x : Nat), vi = .int .i64 (x : Int) ∧ i ≤ x ∧ x ≤ j + 1 ∧ Hid (Rs w blk off N dk wr ∧ Pt (fun x => ltInt x P) P d a b x j dk)) (fun vi _ => j + 1 - (intOf vi).toNat)
  case atStart => exact ⟨i, rfl, Nat.le_refl _, HP.out.2.ij, HP⟩
  case round =>
    clear HP
    obtain ⟨x, rfl, hix, hxj, HP⟩ := hrel
    have hjb : j < b := HP.out.2.jb
    have hax : a < x := HP.out.2.ai
    have hga : G a = P := by rw [HG.out]; exact HP.out.2.eq
    have HGA := Lib.hid hga
    clear hga
    have hcw : ∀ t, t < N → wr.cell? ⟨blk, off + t, none⟩ = some (.int .u64 (G t)) := fun t ht => by rw [HG.out]; exact HP.out.1.cell ht
    have OUT := Lib.hid (show (¬ x ≤ j ∨ (fun x => ltInt x P) (G x) = false) → ∀ q, Hid (Rs w blk off N dk (wr.drewN q) ∧ Pt (fun x => ltInt x P) P d a b x j dk ∧ (¬ x ≤ j ∨ (fun x => ltInt x P) dk[x]! = false)) from fun hs q => Lib.hid ⟨HP.out.1.dn q, HP.out.2, by rw [← HG.out]; exact hs⟩)
    by_cases hle : x ≤ j
    · have hlez : (x : Int) ≤ (j : Int) := by omega
      have hxn : x < N := by omega
      cases ht : ltInt (G x) (G a) with
      | true =>
        go_wp2_with fail
        go_quiet (first | (go_at_call 114; refine Calls.quiet_of_same (less_any _ _ _)))
        go_wp2
        go_roundw
        case rel => first | exact ⟨x + 1, by go_num, by omega, by omega, Lib.hid ⟨HP.out.1.dn _, HP.out.2.goU hle (by rw [← HG.out, ← HGA.out]; simp only [ht, Bool.not_false, Bool.not_true])⟩⟩ | ((repeat apply Exists.intro); exact And.intro ⟨x + 1, by go_num, by omega, by omega, Lib.hid ⟨HP.out.1.dn _, HP.out.2.goU hle (by rw [← HG.out, ← HGA.out]; simp only [ht, Bool.not_false, Bool.not_true])⟩⟩ rfl)
        case measure => first | (simp [intOf]; done) | (simp [intOf]; omega)
      | false =>
        go_wp2_with fail
        go_quiet (first | (go_at_call 114; refine Calls.quiet_of_same (less_any _ _ _)))
        have HQ := OUT.out (.inr (by rw [← HGA.out]; simp only [ht, Bool.not_false, Bool.not_true])) nq
        go_wp2_with fail
        clear hcw OUT ht HP hlez
        generalize wr.drewN nq = wz at HQ ⊢
        go_loopw [11] (fun vj wr => ∃ (y : Nat), vj = .int .i64 (y : Int) ∧ y ≤ j ∧ x ≤ y + 1 ∧ Hid (Rs w blk off N dk wr ∧ Pt (fun x => ltInt x P) P d a b x y dk ∧ (fun x => ltInt x P) dk[x]! = false)) (fun vj _ => (intOf vj).toNat)
        case atStart => exact ⟨j, rfl, Nat.le_refl _, by omega, Lib.hid ⟨HQ.out.1, HQ.out.2.1, HQ.out.2.2.resolve_left (fun k => k hle)⟩⟩
        case round =>
          clear HQ hle
          obtain ⟨y, rfl, hyj, hxy, HQ⟩ := hrel
          have hyb : y < b := HQ.out.2.1.jb
          have hyn : y < N := by omega
          have hcw : ∀ t, t < N → wr.cell? ⟨blk, off + t, none⟩ = some (.int .u64 (G t)) := fun t ht => by rw [HG.out]; exact HQ.out.1.cell ht
          by_cases hle : x ≤ y
          · have hlez : (x : Int) ≤ (y : Int) := by omega
            have hlt2 : ¬ (y : Int) < (x : Int) := by omega
            cases ht : ltInt (G y) (G a) with
            | false =>
              go_wp2_with fail
              go_quiet (first | (go_at_call 114; refine Calls.quiet_of_same (less_any _ _ _)))
              go_wp2
              go_roundw
              case rel => first | exact ⟨y - 1, by go_num, by omega, by omega, Lib.hid ⟨HQ.out.1.dn _, HQ.out.2.1.goD hle (by rw [← HG.out, ← HGA.out]; simp only [ht, Bool.not_false, Bool.not_true]), HQ.out.2.2⟩⟩ | ((repeat apply Exists.intro); exact And.intro ⟨y - 1, by go_num, by omega, by omega, Lib.hid ⟨HQ.out.1.dn _, HQ.out.2.1.goD hle (by rw [← HG.out, ← HGA.out]; simp only [ht, Bool.not_false, Bool.not_true]), HQ.out.2.2⟩⟩ rfl)
              case measure => first | (simp [intOf]; done) | (simp [intOf]; omega)
            | true =>
              go_wp2_with fail
              go_quiet (first | (go_at_call 114; refine Calls.quiet_of_same (less_any _ _ _)))
              have HS := Lib.hid (show Rs w blk off N dk (wr.drewN nq) ∧ x < y ∧ Pt (fun x => ltInt x P) P d a b (x + 1) (y - 1) (swp dk x y) from by
                have h2 : (fun x => ltInt x P) dk[y]! = true := by rw [← HG.out, ← HGA.out]; simp only [ht, Bool.not_false, Bool.not_true]
                exact ⟨HQ.out.1.dn _, HQ.out.2.1.lt hle HQ.out.2.2 h2, HQ.out.2.1.goS hb0 hle HQ.out.2.2 h2⟩)
              have hltn : x < y := HS.out.2.1
              clear hcw ht HQ
              generalize wr.drewN nq = wy at HS ⊢
              have hcw : ∀ t, t < N → wy.cell? ⟨blk, off + t, none⟩ = some (.int .u64 (G t)) := fun t ht => by rw [HG.out]; exact HS.out.1.cell ht
              have hfw : ∀ t, t < N → wy.frozen? ⟨blk, off + t, none⟩ = false := fun t ht => HS.out.1.frozen ht
              go_wp2_with fail
              go_region
              go_wp2_with fail
              have HP := Lib.hid (And.intro (HS.out.1.swp (i := x) (j := y) hxn hyn (HG.out _) (HG.out _)).drew HS.out.2.2)
              obtain ⟨wa, hwa⟩ : ∃ wa, ((wy.setCell ⟨blk, off + x, none⟩ (.int .u64 (G y))).setCell ⟨blk, off + y, none⟩ (.int .u64 (G x))).drew = wa := ⟨_, rfl⟩
              rw [hwa] at HP ⊢
              clear hwa
              (try generalize decide ((y : Int) < (x : Int)) = tb)
              (try generalize decide (y < x) = tb2)
              go_loopw [10, 11] (fun vi vj wr => ∃ (i j : Nat) (dk : Array Int), vi = .int .i64 (i : Int) ∧ vj = .int .i64 (j : Int) ∧ Hid (Rs w blk off N dk wr ∧ Pt (fun x => ltInt x P) P d a b i j dk)) (fun vi vj _ => (intOf vj).toNat + 1 - (intOf vi).toNat)
              case atStart => exact ⟨x + 1, y - 1, _, by go_num, by go_num, HP⟩
              case round =>
                clear HP HS hcw hfw hltn hlt2 hlez hle hij hjb hax hix hxj hxy hyj hyb hyn hxn HGA HG
                obtain ⟨i, j, dk, rfl, rfl, HP⟩ := hrel
                have hai : a < i := HP.out.2.ai
                have hij : i ≤ j + 1 := HP.out.2.ij
                obtain ⟨G, hG⟩ : ∃ G : Nat → Int, ∀ t, G t = dk[t]! := ⟨fun t => dk[t]!, fun _ => rfl⟩
                have HG := Lib.hid hG
                clear hG
                go_wp2_with fail
                go_loopw [10] (fun vi wr => ∃ (x : Nat), vi = .int .i64 (x : Int) ∧ i ≤ x ∧ x ≤ j + 1 ∧ Hid (Rs w blk off N dk wr ∧ Pt (fun x => ltInt x P) P d a b x j dk)) (fun vi _ => j + 1 - (intOf vi).toNat)
                case atStart => exact ⟨i, rfl, Nat.le_refl _, HP.out.2.ij, HP⟩
                case round =>
                  clear HP
                  obtain ⟨x, rfl, hix, hxj, HP⟩ := hrel
                  have hjb : j < b := HP.out.2.jb
                  have hax : a < x := HP.out.2.ai
                  have hga : G a = P := by rw [HG.out]; exact HP.out.2.eq
                  have HGA := Lib.hid hga
                  clear hga
                  have hcw : ∀ t, t < N → wr.cell? ⟨blk, off + t, none⟩ = some (.int .u64 (G t)) := fun t ht => by rw [HG.out]; exact HP.out.1.cell ht
                  have OUT := Lib.hid (show (¬ x ≤ j ∨ (fun x => ltInt x P) (G x) = false) → ∀ q, Hid (Rs w blk off N dk (wr.drewN q) ∧ Pt (fun x => ltInt x P) P d a b x j dk ∧ (¬ x ≤ j ∨ (fun x => ltInt x P) dk[x]! = false)) from fun hs q => Lib.hid ⟨HP.out.1.dn q, HP.out.2, by rw [← HG.out]; exact hs⟩)
                  by_cases hle : x ≤ j
                  · have hlez : (x : Int) ≤ (j : Int) := by omega
                    have hxn : x < N := by omega
                    cases ht : ltInt (G x) (G a) with
                    | true =>
                      go_wp2_with fail
                      go_quiet (first | (go_at_call 114; refine Calls.quiet_of_same (less_any _ _ _)))
                      go_wp2
                      go_roundw
                      case rel => first | exact ⟨x + 1, by go_num, by omega, by omega, Lib.hid ⟨HP.out.1.dn _, HP.out.2.goU hle (by rw [← HG.out, ← HGA.out]; simp only [ht, Bool.not_false, Bool.not_true])⟩⟩ | ((repeat apply Exists.intro); exact And.intro ⟨x + 1, by go_num, by omega, by omega, Lib.hid ⟨HP.out.1.dn _, HP.out.2.goU hle (by rw [← HG.out, ← HGA.out]; simp only [ht, Bool.not_false, Bool.not_true])⟩⟩ rfl)
                      case measure => first | (simp [intOf]; done) | (simp [intOf]; omega)
                    | false =>
                      go_wp2_with fail
                      go_quiet (first | (go_at_call 114; refine Calls.quiet_of_same (less_any _ _ _)))
                      have HQ := OUT.out (.inr (by rw [← HGA.out]; simp only [ht, Bool.not_false, Bool.not_true])) nq
                      go_wp2_with fail
                      clear hcw OUT ht HP hlez
                      generalize wr.drewN nq = wz at HQ ⊢
                      go_loopw [11] (fun vj wr => ∃ (y : Nat), vj = .int .i64 (y : Int) ∧ y ≤ j ∧ x ≤ y + 1 ∧ Hid (Rs w blk off N dk wr ∧ Pt (fun x => ltInt x P) P d a b x y dk ∧ (fun x => ltInt x P) dk[x]! = false)) (fun vj _ => (intOf vj).toNat)
                      case atStart => exact ⟨j, rfl, Nat.le_refl _, by omega, Lib.hid ⟨HQ.out.1, HQ.out.2.1, HQ.out.2.2.resolve_left (fun k => k hle)⟩⟩
                      case round =>
                        clear HQ hle
                        obtain ⟨y, rfl, hyj, hxy, HQ⟩ := hrel
                        have hyb : y < b := HQ.out.2.1.jb
                        have hyn : y < N := by omega
                        have hcw : ∀ t, t < N → wr.cell? ⟨blk, off + t, none⟩ = some (.int .u64 (G t)) := fun t ht => by rw [HG.out]; exact HQ.out.1.cell ht
                        by_cases hle : x ≤ y
                        · have hlez : (x : Int) ≤ (y : Int) := by omega
                          have hlt2 : ¬ (y : Int) < (x : Int) := by omega
                          cases ht : ltInt (G y) (G a) with
                          | false =>
                            go_wp2_with fail
                            go_quiet (first | (go_at_call 114; refine Calls.quiet_of_same (less_any _ _ _)))
                            go_wp2
                            go_roundw
                            case rel => first | exact ⟨y - 1, by go_num, by omega, by omega, Lib.hid ⟨HQ.out.1.dn _, HQ.out.2.1.goD hle (by rw [← HG.out, ← HGA.out]; simp only [ht, Bool.not_false, Bool.not_true]), HQ.out.2.2⟩⟩ | ((repeat apply Exists.intro); exact And.intro ⟨y - 1, by go_num, by omega, by omega, Lib.hid ⟨HQ.out.1.dn _, HQ.out.2.1.goD hle (by rw [← HG.out, ← HGA.out]; simp only [ht, Bool.not_false, Bool.not_true]), HQ.out.2.2⟩⟩ rfl)
                            case measure => first | (simp [intOf]; done) | (simp [intOf]; omega)
                          | true =>
                            go_wp2_with fail
                            go_quiet (first | (go_at_call 114; refine Calls.quiet_of_same (less_any _ _ _)))
                            have HS := Lib.hid (show Rs w blk off N dk (wr.drewN nq) ∧ x < y ∧ Pt (fun x => ltInt x P) P d a b (x + 1) (y - 1) (swp dk x y) from by
                              have h2 : (fun x => ltInt x P) dk[y]! = true := by rw [← HG.out, ← HGA.out]; simp only [ht, Bool.not_false, Bool.not_true]
                              exact ⟨HQ.out.1.dn _, HQ.out.2.1.lt hle HQ.out.2.2 h2, HQ.out.2.1.goS hb0 hle HQ.out.2.2 h2⟩)
                            have hltn : x < y := HS.out.2.1
                            clear hcw ht HQ
                            generalize wr.drewN nq = wy at HS ⊢
                            have hcw : ∀ t, t < N → wy.cell? ⟨blk, off + t, none⟩ = some (.int .u64 (G t)) := fun t ht => by rw [HG.out]; exact HS.out.1.cell ht
                            have hfw : ∀ t, t < N → wy.frozen? ⟨blk, off + t, none⟩ = false := fun t ht => HS.out.1.frozen ht
                            go_wp2_with fail
                            go_region
                            all_goals go_wp2
                            go_roundw
                            case rel => first | exact ⟨x + 1, y - 1, swp dk x y, by go_num, by go_num, Lib.hid (And.intro (HS.out.1.swp (i := x) (j := y) hxn hyn (HG.out _) (HG.out _)).drew HS.out.2.2)⟩ | ((repeat apply Exists.intro); exact And.intro ⟨x + 1, y - 1, swp dk x y, by go_num, by go_num, Lib.hid (And.intro (HS.out.1.swp (i := x) (j := y) hxn hyn (HG.out _) (HG.out _)).drew HS.out.2.2)⟩ rfl)
                            case measure => first | (simp [intOf]; done) | (simp [intOf]; omega)
                        · have hlez : decide ((x : Int) ≤ (y : Int)) = false := decide_eq_false (by omega)
                          have hlt2 : (y : Int) < (x : Int) := by omega
                          have hlt3 : y < x := by omega
                          go_wp2_with fail
                          go_quiet (fail)
                          have HS := Lib.hid (show Rs w blk off N dk (wr.drewN nq) ∧ Pt (fun x => ltInt x P) P d a b x y dk from ⟨HQ.out.1.dn _, HQ.out.2.1⟩)
                          clear hcw HQ
                          generalize wr.drewN nq = wy at HS ⊢
                          have hcw : ∀ t, t < N → wy.cell? ⟨blk, off + t, none⟩ = some (.int .u64 (G t)) := fun t ht => by rw [HG.out]; exact HS.out.1.cell ht
                          have hfw : ∀ t, t < N → wy.frozen? ⟨blk, off + t, none⟩ = false := fun t ht => HS.out.1.frozen ht
                          go_wp2_with fail
                          obtain ⟨v9, hy9⟩ := cell_still (w := wy) (p := ⟨blk, off + y, none⟩) (x := .int .u64 (G a)) (q := ⟨blk, off + a, none⟩) (hcw a han)
                          have hyn : y < N := by omega
                          go_region
                          go_wp2
                          go_ret2
                          exact ⟨y, false, _, rfl, (HS.out.1.swp (i := y) (j := a) hyn han (HG.out _) (HG.out _)).drew, HS.out.2.fin hb0 hlt3⟩
                  · have hlez : decide ((x : Int) ≤ (j : Int)) = false := decide_eq_false (by omega)
                    go_wp2_with fail
                    go_quiet (fail)
                    have HQ := OUT.out (.inl hle) nq
                    go_wp2_with fail
                    clear hcw OUT HP
                    generalize wr.drewN nq = wz at HQ ⊢
                    go_loopw [11] (fun vj wr => vj = .int .i64 (j : Int) ∧ Hid (Rs w blk off N dk wr ∧ Pt (fun x => ltInt x P) P d a b x j dk)) (fun vj _ => 0)
                    case atStart => exact ⟨rfl, Lib.hid ⟨HQ.out.1, HQ.out.2.1⟩⟩
                    case round =>
                      clear HQ
                      obtain ⟨rfl, HQ⟩ := hrel
                      have hlt2 : (j : Int) < (x : Int) := by omega
                      have hlt3 : j < x := by omega
                      go_wp2_with fail
                      go_quiet (fail)
                      have HS := Lib.hid (show Rs w blk off N dk (wr.drewN nq) ∧ Pt (fun x => ltInt x P) P d a b x j dk from ⟨HQ.out.1.dn _, HQ.out.2⟩)
                      clear HQ
                      generalize wr.drewN nq = wy at HS ⊢
                      have hcw : ∀ t, t < N → wy.cell? ⟨blk, off + t, none⟩ = some (.int .u64 (G t)) := fun t ht => by rw [HG.out]; exact HS.out.1.cell ht
                      have hfw : ∀ t, t < N → wy.frozen? ⟨blk, off + t, none⟩ = false := fun t ht => HS.out.1.frozen ht
                      go_wp2_with fail
                      obtain ⟨v9, hy9⟩ := cell_still (w := wy) (p := ⟨blk, off + j, none⟩) (x := .int .u64 (G a)) (q := ⟨blk, off + a, none⟩) (hcw a han)
                      have hyn : j < N := by omega
                      go_region
                      go_wp2
                      go_ret2
                      exact ⟨j, false, _, rfl, (HS.out.1.swp (i := j) (j := a) hyn han (HG.out _) (HG.out _)).drew, HS.out.2.fin hb0 hlt3⟩
          · have hlez : decide ((x : Int) ≤ (y : Int)) = false := decide_eq_false (by omega)
            have hlt2 : (y : Int) < (x : Int) := by omega
            have hlt3 : y < x := by omega
            go_wp2_with fail
            go_quiet (fail)
            have HS := Lib.hid (show Rs w blk off N dk (wr.drewN nq) ∧ Pt (fun x => ltInt x P) P d a b x y dk from ⟨HQ.out.1.dn _, HQ.out.2.1⟩)
            clear hcw HQ
            generalize wr.drewN nq = wy at HS ⊢
            have hcw : ∀ t, t < N → wy.cell? ⟨blk, off + t, none⟩ = some (.int .u64 (G t)) := fun t ht => by rw [HG.out]; exact HS.out.1.cell ht
            have hfw : ∀ t, t < N → wy.frozen? ⟨blk, off + t, none⟩ = false := fun t ht => HS.out.1.frozen ht
            go_wp2_with fail
            obtain ⟨v9, hy9⟩ := cell_still (w := wy) (p := ⟨blk, off + y, none⟩) (x := .int .u64 (G a)) (q := ⟨blk, off + a, none⟩) (hcw a han)
            have hyn : y < N := by omega
            go_region
            go_wp2
            go_ret2
            exact ⟨y, true, _, rfl, (HS.out.1.swp (i := y) (j := a) hyn han (HG.out _) (HG.out _)).drew, HS.out.2.fin hb0 hlt3⟩
    · have hlez : decide ((x : Int) ≤ (j : Int)) = false := decide_eq_false (by omega)
      go_wp2_with fail
      go_quiet (fail)
      have HQ := OUT.out (.inl hle) nq
      go_wp2_with fail
      clear hcw OUT HP
      generalize wr.drewN nq = wz at HQ ⊢
      go_loopw [11] (fun vj wr => vj = .int .i64 (j : Int) ∧ Hid (Rs w blk off N dk wr ∧ Pt (fun x => ltInt x P) P d a b x j dk)) (fun vj _ => 0)
      case atStart => exact ⟨rfl, Lib.hid ⟨HQ.out.1, HQ.out.2.1⟩⟩
      case round =>
        clear HQ
        obtain ⟨rfl, HQ⟩ := hrel
        have hlt2 : (j : Int) < (x : Int) := by omega
        have hlt3 : j < x := by omega
        go_wp2_with fail
        go_quiet (fail)
        have HS := Lib.hid (show Rs w blk off N dk (wr.drewN nq) ∧ Pt (fun x => ltInt x P) P d a b x j dk from ⟨HQ.out.1.dn _, HQ.out.2⟩)
        clear HQ
        generalize wr.drewN nq = wy at HS ⊢
        have hcw : ∀ t, t < N → wy.cell? ⟨blk, off + t, none⟩ = some (.int .u64 (G t)) := fun t ht => by rw [HG.out]; exact HS.out.1.cell ht
        have hfw : ∀ t, t < N → wy.frozen? ⟨blk, off + t, none⟩ = false := fun t ht => HS.out.1.frozen ht
        go_wp2_with fail
        obtain ⟨v9, hy9⟩ := cell_still (w := wy) (p := ⟨blk, off + j, none⟩) (x := .int .u64 (G a)) (q := ⟨blk, off + a, none⟩) (hcw a han)
        have hyn : j < N := by omega
        go_region
        go_wp2
        go_ret2
        exact ⟨j, true, _, rfl, (HS.out.1.swp (i := j) (j := a) hyn han (HG.out _) (HG.out _)).drew, HS.out.2.fin hb0 hlt3⟩
end Go.Proofs.YtdmibolbpgondaaGreat.Ou
