/-
  Pop of the items; container/heap's Push, Fix and Remove.
-/
import Derived.Test.YtdmibolbpgondaaGreatKU12Push
set_option linter.unusedSimpArgs false
set_option linter.unusedVariables false
namespace Go.Proofs.YtdmibolbpgondaaGreat.U12
open Go.RowKit Go.Lib Go.Maps Go.Proofs.YtdmibolbpgondaaGreat.Wd

section
variable {w0 w w' : World} {p c b N M : Nat} {A : Option Addr} {K0 K : Nat → It} {D : DataW Unit}
theorem row_cut {base : Nat} {e : TypeId} {size n m : Nat} {xs : List Value} (h : w.ownsRow base e size (.slice A n c) n xs) (hm : m ≤ n) : w.ownsRow base e size (.slice A m c) m (xs.take (m * size)) := by
  have hle : m * size ≤ n * size := Nat.mul_le_mul_right _ hm
  refine ⟨by rw [List.length_take, h.1]; omega, ?_⟩
  rcases h.2 with ⟨hv, h0⟩ | ⟨g, cap, cur, hv, hb, hg, hnc, hcm, hcs, ht⟩
  · injection hv with h1 h2 h3
    subst h1; subst h3
    have : m = 0 := by omega
    subst this
    exact .inl ⟨rfl, rfl⟩
  · injection hv with h1 h2 h3
    subst h1; subst h3
    exact .inr ⟨g, c, cur, rfl, hb, hg, by omega, hcm, hcs, by rw [← ht, List.take_take, Nat.min_eq_left hle]⟩
theorem irow_take (K : Nat → It) (M : Nat) : (irow (U12.row K (M + 1))).take (M * 2) = irow (U12.row K M) := by
  rw [row_succ, irow_app, List.take_append_of_le_length (by rw [irow_len, row_len]; omega)]
  exact List.take_of_length_le (by rw [irow_len, row_len]; omega)
/-- the last cut off -/
theorem Im.popped (h : Im w p A c b (M + 1) K D) : Im (w.setCell ⟨p, 0, none⟩ (.slice A M c)) p A c b M K D ∧ Fr (own p A b) w (w.setCell ⟨p, 0, none⟩ (.slice A M c)) := by
  have hr := row_cut h.row (Nat.le_succ M)
  rw [irow_take] at hr
  refine ⟨⟨World.cell?_setCell_same _ _ _ h.c0, Eq.trans (World.cell?_setCell_other _ _ _ _ (fun e => by cases e)) h.c1, by rw [World.frozen?_setCell]; exact h.f0,
    row_kept hr fun k hk => ?_, map_kept h.map (heap_setCell_other _ _ _ _ (Ne.symm h.pb)), h.ap, h.pb, by have := h.few; omega, fun k hk => h.num k (by omega)⟩, Fr.setCell _ _ _ (mem_own.2 (.inl rfl))⟩
  cases A with
  | none => cases hk
  | some a =>
    injection hk with hk
    subst hk
    exact heap_setCell_other _ _ _ _ (h.ap a rfl).1
/-- what Pop leaves -/
def PpOut (w : World) (p : Nat) (A : Option Addr) (c b M : Nat) (K : Nat → It) (D : DataW Unit) (e : Ending) (w' : World) : Prop :=
  e = .returned (.iface 132 (.agg #[.int .u64 ((K M).1 : Int), .int .u64 ((K M).2 : Int)])) ∧ Im w' p A c b M K D ∧ Fr (own p A b) w w'
set_option maxRecDepth 20000 in
set_option maxHeartbeats 1000000 in
theorem pop_at (h : Im w p A c b (M + 1) K D) : Calls Tryz.prog 167 #[.pointer (some ⟨p, 0, none⟩)] w (PpOut w p A c b M K D) := by
  have c0 := h.c0
  have f0 := h.f0
  have hN := h.few
  obtain ⟨g, rfl, i0, i1, hf, hc, hm⟩ := h.get (i := M) (by omega)
  have hp := h.lt p (mem_own.2 (.inl rfl))
  have b1 : Below w.heap.size w (w.alloc (bx (K M))) := (Below.refl _ _).alloc (Nat.le_refl _) _
  obtain ⟨h1, F1⟩ := (h.below b1).popped
  have F2 := (Fr.of_below (own p (some ⟨g, 0, none⟩) b) b1).then F1
  unfold bx at h1 F2
  rw [World.setCell_alloc_past (w := w) _ p 0 _ hp] at h1 F2
  have H1 := Lib.hid h1
  have G2 := Lib.hid F2
  have y0 : (0 : Int) ≤ (M : Int) := by omega
  have y1 : ((M : Int)).toNat = M := by omega
  have e1 : ((M + 1 : Nat) : Int) - 1 = (M : Int) := by omega
  have e2 : ((M : Int) + 1) - 1 = (M : Int) := by omega
  clear h h1 F1 F2 hf b1
  go_enter Tryz.func167, Tryz.ntmps167
  go_wp2
  go_returns
  exact ⟨rfl, H1.out, G2.out⟩
set_option maxRecDepth 20000 in
set_option maxHeartbeats 2000000 in
theorem fix_at (i : Nat) (h : Im w p A c b N K D) (hP : Pl D K N) (hn : Nd K N) (hi : i < N) (hu : DnI K N i) :
    Calls Tryz.prog 118 #[.iface 127 (.pointer (some ⟨p, 0, none⟩)), .int .i64 (i : Int)] w (UpOut w p A c b N N K) := by
  have hl := len_at h
  have hd := down_at i (St.start (M := N) h hP) hn (Nat.le_refl _) hi hu
  clear h hP hu
  go_enter Tryz.func118, Tryz.ntmps118
  go_wp2_with fail
  refine hl.mono ?_
  rintro e w1 ⟨rfl, rfl⟩
  go_wp2_with fail
  refine hd.mono ?_
  rintro e w1 ⟨r, rfl, K', hS, hF, hT⟩
  clear hl hd
  cases r with
  | true =>
    have hS := Lib.hid hS
    have hH := Lib.hid (hT rfl)
    clear hF hT
    go_wp2
    go_returns
    exact ⟨rfl, K', hS.out, hH.out⟩
  | false =>
    have hu := up_at i hS hn (Nat.le_refl _) hi (hF rfl)
    clear hF hT hS
    go_wp2_with fail
    refine hu.mono ?_
    rintro e w2 ⟨rfl, K2, hS, hH⟩
    have hS := Lib.hid hS
    have hH := Lib.hid hH
    clear hu
    go_wp2
    go_returns
    exact ⟨rfl, K2, hS.out, hH.out⟩
/-- what Push leaves -/
def HpOut (w : World) (p : Nat) (A : Option Addr) (b N : Nat) (K : Nat → It) (e : Ending) (w' : World) : Prop :=
  e = .returned (.tuple #[]) ∧ ∃ A' c' K' D', Im w' p A' c' b N K' D' ∧ Pl D' K' N ∧ Hp K' N ∧ (row K' N).Perm (row K N) ∧ Fr (own p A b) w w' ∧ Sub w (own p A' b) (own p A b)
set_option maxRecDepth 20000 in
set_option maxHeartbeats 2000000 in
theorem hpush_at (x : It) (h : Im w p A c b N K D) (hP : Pl D K N) (hn : Nd K N) (hH : Hp K N) (hx : (x.1 : Int) ≤ 18446744073709551615 ∧ (x.2 : Int) ≤ 18446744073709551615) (hf : ∀ i, i < N → (K i).1 ≠ x.1) (hN : N + 1 ≤ 1000) :
    Calls Tryz.prog 117 #[.iface 127 (.pointer (some ⟨p, 0, none⟩)), .iface 132 (.agg #[.int .u64 (x.1 : Int), .int .u64 (x.2 : Int)])] w (HpOut w p A b (N + 1) (up1 K N x)) := by
  have hp := ipush_at x h hP hx hf hN
  have hu : UpI (up1 K N x) (N + 1) N := hH.up fun k hk => up1_other K x (by omega)
  have hn2 : Nd (up1 K N x) (N + 1) := fun i j hi hj e => by
    by_cases e1 : i = N
    · by_cases e2 : j = N
      · omega
      · subst e1
        rw [up1_same, up1_other K x e2] at e
        exact absurd e.symm (hf j (by omega))
    · by_cases e2 : j = N
      · subst e2
        rw [up1_same, up1_other K x e1] at e
        exact absurd e (hf i (by omega))
      · rw [up1_other K x e1, up1_other K x e2] at e
        exact hn i j (by omega) (by omega) e
  have HU := Lib.hid hu
  have HN := Lib.hid hn2
  clear h hP hn hH hx hf hu hn2
  generalize up1 K N x = L at *
  go_enter Tryz.func117, Tryz.ntmps117
  go_wp2_with fail
  refine hp.mono ?_
  rintro e w1 ⟨rfl, A', c', D', h1, hP1, hF1, hS1⟩
  have hl := len_at h1
  have hup := up_at N (St.start (M := N + 1) h1 hP1) HN.out (Nat.le_refl _) (Nat.lt_succ_self N) HU.out
  have HF := Lib.hid hF1
  have HS := Lib.hid hS1
  have e1 : ((N + 1 : Nat) : Int) - 1 = (N : Int) := by omega
  have e2 : ((N : Int) + 1) - 1 = (N : Int) := by omega
  clear hp h1 hP1 hF1 hS1
  go_wp2_with fail
  refine hl.mono ?_
  rintro e w2 ⟨rfl, rfl⟩
  go_wp2_with fail
  refine hup.mono ?_
  rintro e w2 ⟨rfl, K2, hS2, hH2⟩
  obtain ⟨D2, h2, hP2⟩ := hS2.im
  have hq := Lib.hid (show HpOut w p A b (N + 1) L (.returned (.tuple #[])) w2 from ⟨rfl, A', c', K2, D2, h2, hP2, hH2, hS2.perm, HF.out.trans hS2.fr HS.out, HS.out⟩)
  clear hl hup h2 hP2 hS2 hH2
  go_wp2
  go_returns
  exact hq.out
/-- what Remove leaves: the one taken still in the map -/
def RmOut (w : World) (p : Nat) (A : Option Addr) (c b M i : Nat) (K : Nat → It) (e : Ending) (w' : World) : Prop :=
  e = .returned (.iface 132 (.agg #[.int .u64 ((K i).1 : Int), .int .u64 ((K i).2 : Int)])) ∧
    ∃ K' D', Im w' p A c b M K' D' ∧ Pl D' K' (M + 1) ∧ Hp K' M ∧ (row K' (M + 1)).Perm (row K (M + 1)) ∧ K' M = K i ∧ Fr (own p A b) w w'
set_option maxRecDepth 20000 in
set_option maxHeartbeats 2000000 in
theorem remove_at (i : Nat) (h : Im w p A c b (M + 1) K D) (hP : Pl D K (M + 1)) (hn : Nd K (M + 1)) (hH : Hp K (M + 1)) (hi : i < M + 1) :
    Calls Tryz.prog 96 #[.iface 127 (.pointer (some ⟨p, 0, none⟩)), .int .i64 (i : Int)] w (RmOut w p A c b M i K) := by
  have hl := len_at h
  have hN := h.few
  have e1 : ((M + 1 : Nat) : Int) - 1 = (M : Int) := by omega
  have e2 : ((M : Int) + 1) - 1 = (M : Int) := by omega
  by_cases hiM : i = M
  · subst hiM
    have hp := pop_at h
    have HR := Lib.hid (show Pl D K (i + 1) ∧ Hp K i from ⟨hP, hH.cut (Nat.le_succ _)⟩)
    clear h hP hn hH
    go_enter Tryz.func96, Tryz.ntmps96
    go_wp2_with fail
    refine hl.mono ?_
    rintro e w1 ⟨rfl, rfl⟩
    go_wp2_with fail
    refine hp.mono ?_
    rintro e w1 ⟨rfl, h1, hF⟩
    have hq := Lib.hid (show RmOut w p A c b i i K _ w1 from ⟨rfl, K, D, h1, HR.out.1, HR.out.2, List.Perm.refl _, rfl, hF⟩)
    clear hl hp h1 hF
    go_wp2
    go_returns
    exact hq.out
  · have hs := swap_at h i M hi (by omega) hiM hP hn
    have hd0 : DnI (sw K i M) M i := hH.dn (Nat.le_succ _) hi fun k hk hki => sw_o K hki (by omega)
    have hpm := row_sw K hi (Nat.lt_succ_self M)
    have hn2 := Nd.sw hn hi (Nat.lt_succ_self M)
    have hlast := sw_j K i M
    have HD := Lib.hid hd0
    have HPm := Lib.hid hpm
    have HLs := Lib.hid hlast
    have hne : ¬ (M : Int) = (i : Int) := by omega
    clear h hP hn hH hd0 hpm hlast
    generalize sw K i M = L at *
    go_enter Tryz.func96, Tryz.ntmps96
    go_wp2_with fail
    refine hl.mono ?_
    rintro e w1 ⟨rfl, rfl⟩
    go_wp2_with fail
    refine hs.mono ?_
    rintro e w1 ⟨rfl, D1, h1, hP1, hF1⟩
    have hdn := down_at i (St.start (M := M) h1 hP1) hn2 (Nat.le_succ _) (by omega) HD.out
    have HF := Lib.hid hF1
    clear hl hs h1 hP1 hF1
    go_wp2_with fail
    refine hdn.mono ?_
    rintro e w2 ⟨r, rfl, K2, hS2, hfl, htr⟩
    clear hdn
    cases r with
    | true =>
      have hHp := htr rfl
      obtain ⟨D2, h2, hP2⟩ := hS2.im
      have hkl := hS2.keep M (Nat.le_refl _)
      have hp := pop_at h2
      have HQ := Lib.hid (show Pl D2 K2 (M + 1) ∧ Hp K2 M ∧ (row K2 (M + 1)).Perm (row K (M + 1)) ∧ K2 M = K i ∧ Fr (own p A b) w w2 from ⟨hP2, hHp, hS2.perm.trans HPm.out, hkl.trans HLs.out, HF.out.then hS2.fr⟩)
      unfold PpOut at hp
      rw [hkl, HLs.out] at hp
      clear h2 hP2 hS2 hHp hfl htr hkl
      go_wp2_with fail
      refine hp.mono ?_
      rintro e w3 ⟨rfl, h3, hF3⟩
      have hq := Lib.hid (show RmOut w p A c b M i K _ w3 from ⟨rfl, K2, D2, h3, HQ.out.1, HQ.out.2.1, HQ.out.2.2.1, HQ.out.2.2.2.1, HQ.out.2.2.2.2.then hF3⟩)
      clear hp h3 hF3
      go_wp2
      go_returns
      exact hq.out
    | false =>
      have hup := up_at i hS2 hn2 (Nat.le_succ _) (by omega) (hfl rfl)
      clear hfl htr hS2
      go_wp2_with fail
      refine hup.mono ?_
      rintro e w3 ⟨rfl, K3, hS3, hHp⟩
      obtain ⟨D2, h2, hP2⟩ := hS3.im
      have hkl := hS3.keep M (Nat.le_refl _)
      have hp := pop_at h2
      have HQ := Lib.hid (show Pl D2 K3 (M + 1) ∧ Hp K3 M ∧ (row K3 (M + 1)).Perm (row K (M + 1)) ∧ K3 M = K i ∧ Fr (own p A b) w w3 from ⟨hP2, hHp, hS3.perm.trans HPm.out, hkl.trans HLs.out, HF.out.then hS3.fr⟩)
      unfold PpOut at hp
      rw [hkl, HLs.out] at hp
      clear h2 hP2 hS3 hHp hkl hup
      go_wp2_with fail
      refine hp.mono ?_
      rintro e w4 ⟨rfl, h3, hF3⟩
      have hq := Lib.hid (show RmOut w p A c b M i K _ w4 from ⟨rfl, K3, D2, h3, HQ.out.1, HQ.out.2.1, HQ.out.2.2.1, HQ.out.2.2.2.1, HQ.out.2.2.2.2.then hF3⟩)
      clear hp h3 hF3
      go_wp2
      go_returns
      exact hq.out
end
end Go.Proofs.YtdmibolbpgondaaGreat.U12
