/-
  The walk of ShardNil.
-/
import Derived.Test.YtdmibolbpgondaaGreatKX15Add
set_option linter.unusedSimpArgs false
set_option linter.unusedVariables false
namespace Go.Proofs.YtdmibolbpgondaaGreat.X15
open Go.RowKit Go.Lib Go.Maps Go.Proofs.YtdmibolbpgondaaGreat.Wd Go.Proofs.YtdmibolbpgondaaGreat.P06
open Go.Proofs.YtdmibolbpgondaaGreat.B07 (Pn OkN OkA OkP Spn Sps pns tenA ten)
set_option maxRecDepth 20000 in
set_option maxHeartbeats 8000000 in
theorem nil_law (s : Sp) (A : Option Addr) (c n : Nat) (l : List At) (w : World) (hA : Ats w A c l) (hn : l.length = n) (hm : n ≤ 9223372036854775807) :
    Calls Tryz.prog 5 #[spv s (.slice A n c)] w fun e w' => e = .returned (.bool true) ∧ Below w.heap.size w w' := by
  obtain ⟨f, hf⟩ : ∃ f, far s l = f := ⟨_, rfl⟩
  have hfar := fun W (b : Below w.heap.size w W) => far_at s A c n l f W (hA.below b) hn hm hf
  have bx : Bk (w.alloc (.cells (spc s (.slice A n c)) 34)) w.heap.size 34 (spc s (.slice A n c)) := Bk.new w _ _
  have b0 : Below w.heap.size w (w.alloc (.cells (spc s (.slice A n c)) 34)) := (Below.refl _ _).alloc (Nat.le_refl _) _
  obtain ⟨g, hg⟩ : ∃ g, w.heap.size = g := ⟨_, rfl⟩
  obtain ⟨V, hV⟩ : ∃ V, w.alloc (.cells (spc s (.slice A n c)) 34) = V := ⟨_, rfl⟩
  rw [hV] at bx b0
  rw [hg] at bx
  go_enter Tryz.func5, Tryz.ntmps5
  go_wp2_with fail
  refine (alive_any _).mono ?_
  rintro e w1 ⟨rfl, b1⟩
  have k1 := bx.below b1
  have B1 := b0.trans (b1.mono b0.size)
  obtain ⟨x0, x1, x2, x3, x4, x5, x6, x7, x8, x9⟩ := ten_cells k1
  have hf1 := hfar w1 B1
  clear bx b0 hV b1 hg
  go_wp2_with fail
  change Calls _ _ #[spv s (.slice A n c)] _ _
  refine hf1.mono ?_
  rintro e w2 ⟨rfl, b2⟩
  have k2 := k1.below b2
  have B2 := B1.trans (b2.mono B1.size)
  clear x0 x1 x2 x3 x4 x5 x6 x7 x8 x9 hf1 k1 B1 b2 hfar
  cases f with
  | true =>
    go_wp2
    go_ret
    exact ⟨rfl, B2⟩
  | false =>
    obtain ⟨x0, x1, x2, x3, x4, x5, x6, x7, x8, x9⟩ := ten_cells k2
    have hr := nr_of (x := (s, l)) hf
    have hn40 : n ≤ 40 := by rw [← hn]; exact hr.few
    have hof := fun W (b : Below w.heap.size w W) => of_at s A c n l W (hA.below b) hn hn40
    have hof2 := hof w2 B2
    go_wp2_with fail
    change Calls _ _ #[spv s (.slice A n c)] _ _
    refine hof2.mono ?_
    rintro e w3 ⟨A3, c3, rfl, hd3, b3⟩
    have k3 := k2.below b3
    have B3 := B2.trans (b3.mono B2.size)
    clear x0 x1 x2 x3 x4 x5 x6 x7 x8 x9 k2 B2 hof2 hd3 b3
    go_wp2_with fail
    refine (add_nil s _ _).mono ?_
    rintro e w4 ⟨rfl, b4⟩
    have k4 := k3.below b4
    have B4 := B3.trans (b4.mono B3.size)
    clear k3 B3 b4
    go_wp2_with fail
    refine (stake_core (t := 1) (by omega) (sall_nil _) fun p' e => by rw [e.bi]).mono ?_
    rintro e w5 ⟨rfl, b5⟩
    have k5 := (k4.below ((Below.refl _ _).alloc (Nat.le_refl _) _)).below b5
    have B5 := (B4.alloc B4.size _).trans (b5.mono (B4.alloc B4.size _).size)
    clear k4 B4 b5
    go_wp2_with fail
    refine (dead_nil 1 (by omega) _).mono ?_
    rintro e w6 ⟨rfl, b6⟩
    have k6 := k5.below b6
    have B6 := B5.trans (b6.mono B5.size)
    clear k5 B5 b6
    go_wp2_with fail
    refine (held_nil _).mono ?_
    rintro e w7 ⟨rfl, b7⟩
    have k7 := (k6.below b7).below (U12.drew_below _)
    have B7 := (B6.trans (b7.mono B6.size)).drew
    clear k6 B6 b7
    go_wp2_with fail
    obtain ⟨z, hz⟩ : ∃ z, sz (s, l) = z := ⟨_, rfl⟩
    have hdu : ∀ W, Calls Tryz.prog 19 #[.pointer none, .int .u64 9] W fun e w' => (∃ U d, e = .returned (.slice U 0 d)) ∧ Below W.heap.size W w' := fun W => (due_nil 9 (by omega) W).mono fun e w' ⟨U, d, h, _, b⟩ => ⟨⟨U, d, h⟩, b⟩
    have htr := fun W => traces_nil W
    have hsz := fun A5 c5 W (h5 : Hd 0 W A5 c5 l) => size_any s A5 c5 n z l W h5.ats hn hr hz
    have hrs := fun W (b : Below w.heap.size w W) => refsize_any s A c n z l W (hA.below b) hn hr hz
    clear hf hr hz hn40 hm hn
    go_region_held3 (fun w' => w'.cell? ⟨g, 0, none⟩ = some (.int .u64 s.T) ∧ w'.cell? ⟨g, 1, none⟩ = some (.int .u64 s.I) ∧ w'.cell? ⟨g, 2, none⟩ = some (.int .u64 s.P) ∧ w'.cell? ⟨g, 3, none⟩ = some (.string s.sv) ∧ w'.cell? ⟨g, 4, none⟩ = some (.string s.nm) ∧ w'.cell? ⟨g, 5, none⟩ = some (.int .i64 s.kd) ∧ w'.cell? ⟨g, 6, none⟩ = some (.int .i64 s.st) ∧ w'.cell? ⟨g, 7, none⟩ = some (.int .u64 s.t0) ∧ w'.cell? ⟨g, 8, none⟩ = some (.int .u64 s.t1) ∧ w'.cell? ⟨g, 9, none⟩ = some (.slice A n c))
      (first | exact ten_cells Q5 | exact ten_cells Q4 | exact ten_cells Q3 | exact ten_cells Q2 | exact ten_cells Q1 | exact ten_cells k7 | go_keep)
      (first
        | (go_at_call 19; (with_reducible refine (hdu _).mono ?_); rintro e v1 ⟨⟨U1, d1, rfl⟩, C1⟩; have Q1 := k7.below C1; have E1 := B7.trans (C1.mono B7.size))
        | (go_at_call 23; (with_reducible refine (htr _).mono ?_); rintro e v2 ⟨⟨U2, d2, rfl⟩, C2⟩; have Q2 := Q1.below C2; have E2 := E1.trans (C2.mono E1.size))
        | (go_at_call 11; (with_reducible refine (hof _ E2).mono ?_); rintro e v3 ⟨A9, c9, rfl, H9, C3⟩; have Q3 := Q2.below C3; have E3 := E2.trans (C3.mono E2.size))
        | (go_at_call 25; (with_reducible refine (hsz A9 c9 _ (H9.low (Nat.zero_le _))).mono ?_); rintro e v4 ⟨rfl, C4⟩; have Q4 := Q3.below C4; have E4 := E3.trans (C4.mono E3.size))
        | (go_at_call 26; (with_reducible refine (hrs _ E4).mono ?_); rintro e v5 ⟨rfl, C5⟩; have Q5 := Q4.below C5; have E5 := E4.trans (C5.mono E4.size)))
    rename_i hHeld
    clear hHeld
    have HB := Lib.hid E5
    clear Q1 Q2 Q3 Q4 Q5 E1 E2 E3 E4 E5 C1 C2 C3 C4 C5 H9 hdu htr hsz hrs hof k7 B7
    go_wp2
    go_ret
    exact ⟨rfl, HB.out⟩
end Go.Proofs.YtdmibolbpgondaaGreat.X15
