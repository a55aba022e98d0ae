/-
  container/heap's up, over the items.
-/
import Derived.Test.YtdmibolbpgondaaGreatKU12Swap
set_option linter.unusedSimpArgs false
set_option linter.unusedVariables false
namespace Go.Proofs.YtdmibolbpgondaaGreat.U12
open Go.RowKit Go.Lib Go.Maps Go.Proofs.YtdmibolbpgondaaGreat.Wd

/-- the items K in the place of K0: the same ones, from M on at the same places -/
structure St (w0 : World) (p : Nat) (A : Option Addr) (c b N M : Nat) (K0 K : Nat → It) (w : World) : Prop where
  im : ∃ D, Im w p A c b N K D ∧ Pl D K N
  perm : (row K N).Perm (row K0 N)
  keep : ∀ k, M ≤ k → K k = K0 k
  fr : Fr (own p A b) w0 w
section
variable {w0 w w' : World} {p c b N M : Nat} {A : Option Addr} {K0 K : Nat → It} {D : DataW Unit}
theorem St.start (h : Im w p A c b N K D) (hP : Pl D K N) : St w p A c b N M K K w := ⟨⟨D, h, hP⟩, List.Perm.refl _, fun _ _ => rfl, Fr.refl _ _⟩
theorem St.below (h : St w0 p A c b N M K0 K w) (hb : Below w.heap.size w w') : St w0 p A c b N M K0 K w' := by
  obtain ⟨D, h1, h2⟩ := h.im
  exact ⟨⟨D, h1.below hb, h2⟩, h.perm, h.keep, h.fr.then (Fr.of_below _ hb)⟩
theorem St.few (h : St w0 p A c b N M K0 K w) : N ≤ 1000 := by
  obtain ⟨D, h1, h2⟩ := h.im
  exact h1.few
theorem less_st (h : St w0 p A c b N M K0 K w) (i j : Nat) (x : Bool) (hi : i < N) (hj : j < N) (hx : decide (Lt (K i) (K j)) = x) :
    Calls Tryz.prog 166 #[.pointer (some ⟨p, 0, none⟩), .int .i64 (i : Int), .int .i64 (j : Int)] w fun e w' => e = .returned (.bool x) ∧ St w0 p A c b N M K0 K w' := by
  obtain ⟨D, h1, h2⟩ := h.im
  exact (less_at h1 i j x hi hj hx).mono fun _ _ ⟨he, hb⟩ => ⟨he, h.below hb⟩
theorem swap_st (h : St w0 p A c b N M K0 K w) (hn : Nd K0 N) (hM : M ≤ N) (i j : Nat) (hi : i < M) (hj : j < M) (hij : i ≠ j) :
    Calls Tryz.prog 169 #[.pointer (some ⟨p, 0, none⟩), .int .i64 (i : Int), .int .i64 (j : Int)] w fun e w' => e = .returned (.tuple #[]) ∧ St w0 p A c b N M K0 (sw K i j) w' := by
  obtain ⟨D, h1, h2⟩ := h.im
  exact (swap_at h1 i j (by omega) (by omega) hij h2 (hn.perm h.perm)).mono fun _ _ ⟨he, D', h3, h4, hF⟩ =>
    ⟨he, ⟨D', h3, h4⟩, (row_sw K (by omega) (by omega)).trans h.perm, fun k hk => by rw [sw_o K (by omega) (by omega)]; exact h.keep k hk, h.fr.then hF⟩
/-- what up leaves -/
def UpOut (w0 : World) (p : Nat) (A : Option Addr) (c b N M : Nat) (K0 : Nat → It) (e : Ending) (w' : World) : Prop := e = .returned (.tuple #[]) ∧ ∃ K, St w0 p A c b N M K0 K w' ∧ Hp K M
def hi (p : Nat) : Value := .iface 127 (.pointer (some ⟨p, 0, none⟩))
set_option maxRecDepth 20000 in
set_option maxHeartbeats 1000000 in
theorem up_at (j : Nat) (h : St w0 p A c b N M K0 K w) (hn : Nd K0 N) (hM : M ≤ N) (hj : j < M) (hu : UpI K M j) :
    Calls Tryz.prog 131 #[.iface 127 (.pointer (some ⟨p, 0, none⟩)), .int .i64 (j : Int)] w (UpOut w0 p A c b N M K0) := by
  have hN := h.few
  have HU := Lib.hid hu
  have HS := Lib.hid h
  clear hu h
  go_enter Tryz.func131, Tryz.ntmps131
  go_wp2
  go_loopw [1] (fun v wr => ∃ (j : Nat) (K : Nat → It), v = .int .i64 (j : Int) ∧ j < M ∧ Hid (UpI K M j) ∧ Hid (St w0 p A c b N M K0 K wr)) (fun v _ => (intOf v).toNat)
  case atStart => exact ⟨j, K, rfl, hj, HU, HS⟩
  case round =>
    clear HU HS hj
    obtain ⟨j, K, rfl, hj, HU, HS⟩ := hrel
    by_cases j0 : j = 0
    · subst j0
      go_wp2
      go_returns
      exact ⟨rfl, K, HS.out, HU.out.top⟩
    · have hp := par_lt (k := j) (by omega)
      have hq : ((j : Int) - 1).tdiv 2 = (par j : Int) := by
        rw [Int.tdiv_eq_ediv_of_nonneg (by omega)]
        unfold par
        omega
      obtain ⟨x, hx⟩ : ∃ x, decide (Lt (K j) (K (par j))) = x := ⟨_, rfl⟩
      have HL := less_st HS.out j (par j) x (by omega) (by omega) hx
      have HX := Lib.hid hx
      have hne : ¬ (par j : Int) = (j : Int) := by omega
      clear hx
      generalize hi : par j = i at *
      have HI := Lib.hid hi
      clear hi
      go_wp2_with fail
      refine HL.mono ?_
      rintro e w1 ⟨rfl, hS1⟩
      clear HL HS
      cases x with
      | false =>
        have hH : Hp K M := HU.out.done (by rw [HI.out]; exact not_lt (of_decide_eq_false HX.out))
        clear HU
        go_wp2
        go_returns
        exact ⟨rfl, K, hS1, hH⟩
      | true =>
        have h0 : 0 < j := by omega
        have hlt : Lt (K j) (K (par j)) := by rw [HI.out]; exact of_decide_eq_true HX.out
        have HU2 := Lib.hid (HU.out.step hj h0 hlt)
        rw [HI.out] at HU2
        have HW := swap_st hS1 hn hM i j (by omega) hj (by omega)
        clear HU hS1
        go_wp2_with fail
        refine HW.mono ?_
        rintro e w2 ⟨rfl, hS2⟩
        have HS2 := Lib.hid hS2
        clear hS2 HW
        go_wp2
        go_roundw
        case rel => exact ⟨i, sw K i j, rfl, by omega, HU2, HS2⟩
        case measure => first | go_num | (simp [intOf]; omega)
end
end Go.Proofs.YtdmibolbpgondaaGreat.U12
