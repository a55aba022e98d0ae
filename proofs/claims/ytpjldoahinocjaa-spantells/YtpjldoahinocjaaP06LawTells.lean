/-
  The walk of SpanTells.
-/
import Derived.Test.YtpjldoahinocjaaP06LawOwn
import Derived.Test.YtpjldoahinocjaaP06RefChk
import Derived.Test.YtpjldoahinocjaaP06RefAlk
set_option linter.unusedSimpArgs false
set_option linter.unusedVariables false
namespace Go.Proofs.Ytpjldoahinocjaa.P06
open Go.Shelf Go.RowKit Go.Lib Go.Sort Go.Proofs.Ytpjldoahinocjaa.Wd Go.Proofs.Ytpjldoahinocjaa.V04

theorem far_keys {s : Sp} {l : List At} (h : far s l = false) : ∀ x ∈ l, x.key.size ≤ 300 := by
  unfold far at h
  simp only [Bool.or_eq_false_iff, List.any_eq_false, decide_eq_true_eq, Bool.or_eq_true, not_or] at h
  intro x hx
  have := h.2 x hx
  omega
/-- the first with the key -/
theorem attr_hit {l : List At} {key : ByteArray} {k : Nat} (hk : k < l.length) (h : hasK key l[k] = true) (hb : ∀ j (hj : j < k), hasK key (l[j]'(by omega)) = false) : attrV l key = vl l[k].K l[k].N l[k].S ∧ attrB l key = true := by
  have : l.findIdx? (hasK key) = some k := by
    rw [List.findIdx?_eq_some_iff_getElem]
    exact ⟨hk, h, fun j hj => by simp [hb j hj]⟩
  unfold attrV attrB
  rw [this]
  refine ⟨?_, rfl⟩
  simp only
  rw [getElem!_pos l k hk]
theorem attr_miss {l : List At} {key : ByteArray} (hb : ∀ j (hj : j < l.length), hasK key l[j] = false) : attrV l key = vl 0 0 ⟨#[]⟩ ∧ attrB l key = false := by
  have : l.findIdx? (hasK key) = none := by
    rw [List.findIdx?_eq_none_iff]
    intro x hx
    obtain ⟨j, hj, rfl⟩ := List.mem_iff_getElem.1 hx
    exact hb j hj
  unfold attrV attrB
  rw [this]
  exact ⟨rfl, rfl⟩
theorem attr_form (l : List At) (key : ByteArray) : ∃ K N S, attrV l key = vl K N S := by
  unfold attrV
  split
  · exact ⟨_, _, _, rfl⟩
  · exact ⟨_, _, _, rfl⟩
/-- in the loop -/
structure TlR (w w3 w7 : World) (s : Sp) (A : Option Addr) (n c : Nat) (A5 : Option Addr) (c5 : Nat) (K N : Int) (S : ByteArray) (wr : World) : Prop where
  k1 : Bk wr w.heap.size 25 (spc s (.slice A n c))
  k2 : Bk wr w3.heap.size 30 (spc s (.slice A5 n c5))
  k3 : Bk wr w7.heap.size 41 #[.int .i64 K, .int .i64 N, .string S]
  b0 : Below w.heap.size w wr
theorem TlR.below {w w3 w7 : World} {s : Sp} {A : Option Addr} {n c : Nat} {A5 : Option Addr} {c5 : Nat} {K N : Int} {S : ByteArray} {wr w' : World} (h : TlR w w3 w7 s A n c A5 c5 K N S wr) (hb : Below wr.heap.size wr w') : TlR w w3 w7 s A n c A5 c5 K N S w' := ⟨h.k1.below hb, h.k2.below hb, h.k3.below hb, h.b0.trans (hb.mono h.b0.size)⟩
theorem vl_eq {K N L M : Int} {S T : ByteArray} (h : vl K N S = vl L M T) : K = L ∧ N = M ∧ S = T := by
  simp only [vl, Value.agg.injEq, Array.mk.injEq, List.cons.injEq, Value.int.injEq, Value.string.injEq, and_true, true_and] at h
  exact h
theorem TlR.cells {w w3 w7 : World} {s : Sp} {A : Option Addr} {n c : Nat} {A5 : Option Addr} {c5 : Nat} {K N : Int} {S : ByteArray} {W : World} (h : TlR w w3 w7 s A n c A5 c5 K N S W) {p : Addr} {x : At} (F : Four w p ⟨p.block, p.off + 1, none⟩ ⟨p.block, p.off + 2, none⟩ ⟨p.block, p.off + 3, none⟩ x) : W.cell? ⟨w.heap.size, 9, none⟩ = some (.slice A n c) ∧ W.cell? ⟨w3.heap.size, 0, none⟩ = some (.int .u64 s.T) ∧ W.cell? ⟨w3.heap.size, 1, none⟩ = some (.int .u64 s.I) ∧ W.cell? ⟨w3.heap.size, 2, none⟩ = some (.int .u64 s.P) ∧ W.cell? ⟨w3.heap.size, 3, none⟩ = some (.string s.sv) ∧ W.cell? ⟨w3.heap.size, 4, none⟩ = some (.string s.nm) ∧ W.cell? ⟨w3.heap.size, 5, none⟩ = some (.int .i64 s.kd) ∧ W.cell? ⟨w3.heap.size, 6, none⟩ = some (.int .i64 s.st) ∧ W.cell? ⟨w3.heap.size, 7, none⟩ = some (.int .u64 s.t0) ∧ W.cell? ⟨w3.heap.size, 8, none⟩ = some (.int .u64 s.t1) ∧ W.cell? ⟨w3.heap.size, 9, none⟩ = some (.slice A5 n c5) ∧ W.cell? ⟨w7.heap.size, 0, none⟩ = some (.int .i64 K) ∧ W.cell? ⟨w7.heap.size, 1, none⟩ = some (.int .i64 N) ∧ W.cell? ⟨w7.heap.size, 2, none⟩ = some (.string S) ∧ W.cell? ⟨p.block, p.off + 1, none⟩ = some (.int .i64 x.K) ∧ W.cell? ⟨p.block, p.off + 1 + 1, none⟩ = some (.int .i64 x.N) ∧ W.cell? ⟨p.block, p.off + 1 + 2, none⟩ = some (.string x.S) := by
  have pl := World.block_lt_of_cell? _ _ F.c0
  exact ⟨h.k1.cell 9, h.k2.cell 0, h.k2.cell 1, h.k2.cell 2, h.k2.cell 3, h.k2.cell 4, h.k2.cell 5, h.k2.cell 6, h.k2.cell 7, h.k2.cell 8, h.k2.cell 9, h.k3.cell 0, h.k3.cell 1, h.k3.cell 2, (h.b0.cell (p := ⟨p.block, p.off + 1, none⟩) pl).trans F.c1, (h.b0.cell (p := ⟨p.block, p.off + 2, none⟩) pl).trans F.c2, (h.b0.cell (p := ⟨p.block, p.off + 3, none⟩) pl).trans F.c3⟩
set_option maxRecDepth 20000 in
set_option maxHeartbeats 8000000 in
theorem tells_law (s : Sp) (A : Option Addr) (c n : Nat) (l : List At) (m : Int) (key : ByteArray) (w : World) (h : Ats w A c l) (ok : OkS s) (hn : l.length = n) :
    Calls Try.prog 3 #[spv s (.slice A n c), .int .i64 m, .string key] w fun e w' => e = .returned (.bool true) ∧ Below w.heap.size w w' := by
  have K1 : Bk (w.alloc (.cells (spc s (.slice A n c)) 25)) w.heap.size 25 (spc s (.slice A n c)) := Bk.new w _ _
  have b0 : Below w.heap.size w (w.alloc (.cells (spc s (.slice A n c)) 25)) := by go_grown
  have hm : n ≤ 9223372036854775807 := by have := h.cap; have := h.max; unfold maxLen at this; omega
  obtain ⟨fa, hfa⟩ : ∃ q, far s l = q := ⟨_, rfl⟩
  have hFa := fun W (hW : Below w.heap.size w W) => far_at s A c n l fa W (h.below hW) hn hm hfa
  have HFa := Lib.hid hfa
  clear hfa hm
  go_enter Try.func3, Try.ntmps3
  go_wp2_with fail
  refine (alive_any _).mono ?_
  rintro e w1 ⟨rfl, b1⟩
  replace K1 := K1.below b1
  replace b0 := b0.trans (b1.mono b0.size)
  clear b1
  have x0 : w1.cell? ⟨w.heap.size, 0, none⟩ = some (.int .u64 s.T) := K1.cell 0
  have x1 : w1.cell? ⟨w.heap.size, 1, none⟩ = some (.int .u64 s.I) := K1.cell 1
  have x2 : w1.cell? ⟨w.heap.size, 2, none⟩ = some (.int .u64 s.P) := K1.cell 2
  have x3 : w1.cell? ⟨w.heap.size, 3, none⟩ = some (.string s.sv) := K1.cell 3
  have x4 : w1.cell? ⟨w.heap.size, 4, none⟩ = some (.string s.nm) := K1.cell 4
  have x5 : w1.cell? ⟨w.heap.size, 5, none⟩ = some (.int .i64 s.kd) := K1.cell 5
  have x6 : w1.cell? ⟨w.heap.size, 6, none⟩ = some (.int .i64 s.st) := K1.cell 6
  have x7 : w1.cell? ⟨w.heap.size, 7, none⟩ = some (.int .u64 s.t0) := K1.cell 7
  have x8 : w1.cell? ⟨w.heap.size, 8, none⟩ = some (.int .u64 s.t1) := K1.cell 8
  have x9 : w1.cell? ⟨w.heap.size, 9, none⟩ = some (.slice A n c) := K1.cell 9
  go_wp2_with fail
  refine (hFa _ b0).mono ?_
  rintro e w2 ⟨rfl, b1⟩
  replace K1 := K1.below b1
  replace b0 := b0.trans (b1.mono b0.size)
  clear b1 hFa x0 x1 x2 x3 x4 x5 x6 x7 x8 x9
  cases fa with
  | true =>
    go_wp2
    go_ret
    exact ⟨rfl, b0⟩
  | false =>
    have z : n ≤ 40 := by rw [← hn]; exact far_len (un HFa)
    have hs := far_sizes (un HFa)
    have hks := far_keys (un HFa)
    have hO := fun W (hW : Below w.heap.size w W) => of_at s A c n l W (h.below hW) hn z
    have x0 : w2.cell? ⟨w.heap.size, 0, none⟩ = some (.int .u64 s.T) := K1.cell 0
    have x1 : w2.cell? ⟨w.heap.size, 1, none⟩ = some (.int .u64 s.I) := K1.cell 1
    have x2 : w2.cell? ⟨w.heap.size, 2, none⟩ = some (.int .u64 s.P) := K1.cell 2
    have x3 : w2.cell? ⟨w.heap.size, 3, none⟩ = some (.string s.sv) := K1.cell 3
    have x4 : w2.cell? ⟨w.heap.size, 4, none⟩ = some (.string s.nm) := K1.cell 4
    have x5 : w2.cell? ⟨w.heap.size, 5, none⟩ = some (.int .i64 s.kd) := K1.cell 5
    have x6 : w2.cell? ⟨w.heap.size, 6, none⟩ = some (.int .i64 s.st) := K1.cell 6
    have x7 : w2.cell? ⟨w.heap.size, 7, none⟩ = some (.int .u64 s.t0) := K1.cell 7
    have x8 : w2.cell? ⟨w.heap.size, 8, none⟩ = some (.int .u64 s.t1) := K1.cell 8
    have x9 : w2.cell? ⟨w.heap.size, 9, none⟩ = some (.slice A n c) := K1.cell 9
    go_wp2_with fail
    refine (hO _ b0).mono ?_
    rintro e w3 ⟨A5, c5, rfl, H5, b1⟩
    replace K1 := K1.below b1
    replace b0 := b0.trans (b1.mono b0.size)
    clear b1 hO x0 x1 x2 x3 x4 x5 x6 x7 x8 x9
    have hsv := hs.1
    have hnm := hs.2
    go_wp2_with fail
    have bx : Below w3.heap.size w3 (w3.alloc (.cells (spc s (.slice A5 n c5)) 30)) := by go_grown
    have K2 : Bk (w3.alloc (.cells (spc s (.slice A5 n c5)) 30)) w3.heap.size 30 (spc s (.slice A5 n c5)) := Bk.new w3 _ _
    replace K1 := K1.below bx
    replace b0 := b0.trans (bx.mono b0.size)
    generalize w3.alloc (.cells (spc s (.slice A5 n c5)) 30) = W3 at *
    obtain ⟨q, hq⟩ : ∃ q : Bool, q = true ↔ Amb l := by
      by_cases hA : Amb l
      · exact ⟨true, by simp [hA]⟩
      · exact ⟨false, by simp [hA]⟩
    have hCk := fun W (hW : Below w3.heap.size w3 W) => check_any s A5 c5 n l W ((H5.below hW).low (Nat.zero_le _)) hn z q hq
    have hRk := fun W (hW : Below w.heap.size w W) => refcheck_any s A c n l W (h.below hW) hn z hks q hq
    generalize chk s q = r at *
    have hAl := fun W (hW : Below w3.heap.size w3 W) => alike_any s m A5 c5 n l W ((H5.below hW).low (Nat.zero_le _)) hn z (by omega) (by omega)
    have hRa := fun W (hW : Below w.heap.size w W) => refalike_any s m A c n l W (h.below hW) hn z (by omega) (by omega)
    generalize alk s m = y at *
    have hTo : ∀ (A6 : Option Addr) (c6 : Nat) (Y : List At) (W : World), Hd 0 W A6 c6 Y → Y.length = n → Calls Try.prog 13 #[spv y (.slice A6 n c6)] W (OfOut W y n Y) := fun A6 c6 Y W h6 e6 => to_at y A6 c6 n Y W h6.ats e6 z
    have hSm : ∀ (A7 : Option Addr) (c7 : Nat) (A8 : Option Addr) (c8 : Nat) (Y Y' : List At) (W : World), Hd 0 W A7 c7 Y → Hd 0 W A8 c8 Y' → Y.length = n → Y'.length = n → Srt Y → Srt Y' → Keep l Y → Keep l Y' → Calls Try.prog 12 #[spv y (.slice A7 n c7), spv y (.slice A8 n c8)] W fun e w' => e = .returned (.bool true) ∧ Below W.heap.size W w' := fun A7 c7 A8 c8 Y Y' W h7 h8 e7 e8 s7 s8 k7 k8 => by
      have e := uniq ord Y Y' s7 s8 (k7.symm.trans k8)
      subst e
      exact same_any y y A7 A8 c7 c8 Y Y n n true W h7.ats h8.ats e7 e8 z z (by rw [cmpS_self]; rfl)
    have hFl := fun u W => failed_any s u W
    have hTk := fun u W => took_any s u W ok.a0 ok.b1
    have htk : Hid ((s.t1 < s.t0 → took s = 0) ∧ (¬ s.t1 < s.t0 → took s = s.t1 - s.t0)) := ⟨fun h => by simp [took, h], fun h => by simp [took, h]⟩
    have hw64 : Hid (¬ s.t1 < s.t0 → IntKind.u64.wrap (s.t1 - s.t0) = s.t1 - s.t0) := fun h => by have := ok.a0; have := ok.b1; rw [IntKind.wrap_u64]; omega
    generalize took s = tk at *
    have hAt := fun W (hW : Below w3.heap.size w3 W) => attr_any s A5 c5 n l key W ((H5.below hW).low (Nat.zero_le _)) hn z
    obtain ⟨K, N, S, hV⟩ := attr_form l key
    obtain ⟨bb, hB⟩ : ∃ bb, attrB l key = bb := ⟨_, rfl⟩
    rw [hV, hB] at hAt
    have HV := Lib.hid hV
    have HB := Lib.hid hB
    have fe : (s.st == 2) = decide (s.st = 2) := by rw [Bool.eq_iff_iff]; simp
    obtain ⟨fb, hfb⟩ : ∃ q, decide (s.st = 2) = q := ⟨_, rfl⟩
    rw [hfb] at hFl fe
    have ht1 : (r != r) = false := by simp
    have ht2 : (fb != fb) = false := by simp
    have HN := Lib.hid hn
    clear hq hks hs hsv hnm HFa H5 hV hB hfb ok
    have D1 : Bk W3.drew _ _ _ := K1
    have D2 : Bk W3.drew _ _ _ := K2
    have bd : Below w.heap.size w W3.drew := b0.drew
    have be : Below w3.heap.size w3 W3.drew := bx.drew
    clear K1 K2 b0 bx
    go_region_held3 (fun w' => w'.cell? ⟨w.heap.size, 0, none⟩ = some (.int .u64 s.T) ∧ w'.cell? ⟨w.heap.size, 1, none⟩ = some (.int .u64 s.I) ∧ w'.cell? ⟨w.heap.size, 2, none⟩ = some (.int .u64 s.P) ∧ w'.cell? ⟨w.heap.size, 3, none⟩ = some (.string s.sv) ∧ w'.cell? ⟨w.heap.size, 4, none⟩ = some (.string s.nm) ∧ w'.cell? ⟨w.heap.size, 5, none⟩ = some (.int .i64 s.kd) ∧ w'.cell? ⟨w.heap.size, 6, none⟩ = some (.int .i64 s.st) ∧ w'.cell? ⟨w.heap.size, 7, none⟩ = some (.int .u64 s.t0) ∧ w'.cell? ⟨w.heap.size, 8, none⟩ = some (.int .u64 s.t1) ∧ w'.cell? ⟨w.heap.size, 9, none⟩ = some (.slice A n c) ∧ w'.cell? ⟨w3.heap.size, 0, none⟩ = some (.int .u64 s.T) ∧ w'.cell? ⟨w3.heap.size, 1, none⟩ = some (.int .u64 s.I) ∧ w'.cell? ⟨w3.heap.size, 2, none⟩ = some (.int .u64 s.P) ∧ w'.cell? ⟨w3.heap.size, 3, none⟩ = some (.string s.sv) ∧ w'.cell? ⟨w3.heap.size, 4, none⟩ = some (.string s.nm) ∧ w'.cell? ⟨w3.heap.size, 5, none⟩ = some (.int .i64 s.kd) ∧ w'.cell? ⟨w3.heap.size, 6, none⟩ = some (.int .i64 s.st) ∧ w'.cell? ⟨w3.heap.size, 7, none⟩ = some (.int .u64 s.t0) ∧ w'.cell? ⟨w3.heap.size, 8, none⟩ = some (.int .u64 s.t1) ∧ w'.cell? ⟨w3.heap.size, 9, none⟩ = some (.slice A5 n c5))
      (first | exact twenty E6_1 E6_2 | exact twenty E5_1 E5_2 | exact twenty E4_1 E4_2 | exact twenty E3_1 E3_2 | exact twenty E2_1 E2_2 | exact twenty E1_1 E1_2 | exact twenty E0_1 E0_2 | exact twenty D1 D2 | go_keep)
      (first
        | (go_at_call 10; (with_reducible refine (hCk _ be).mono ?_); rintro e v0 ⟨rfl, B0⟩; have E0_1 := D1.below B0; have E0_2 := D2.below B0; have bd0 := bd.trans (B0.mono bd.size); have be0 := be.trans (B0.mono be.size))
        | (go_at_call 11; (with_reducible refine (hRk _ bd0).mono ?_); rintro e v1 ⟨rfl, B1⟩; have E1_1 := E0_1.below B1; have E1_2 := E0_2.below B1; have bd1 := bd0.trans (B1.mono bd0.size); have be1 := be0.trans (B1.mono be0.size))
        | (go_at_call 14; (with_reducible refine (hAl _ be1).mono ?_); rintro e v2 ⟨A6, c6, Y6, rfl, hY6, S6, P6, H6, B2⟩; have E2_1 := E1_1.below B2; have E2_2 := E1_2.below B2; have bd2 := bd1.trans (B2.mono bd1.size); have be2 := be1.trans (B2.mono be1.size))
        | (go_at_call 13; (with_reducible refine (hTo A6 c6 Y6 _ (H6.low (Nat.zero_le _)) hY6).mono ?_); rintro e v3 ⟨A7, c7, rfl, H7, B3⟩; have E3_1 := E2_1.below B3; have E3_2 := E2_2.below B3; have bd3 := bd2.trans (B3.mono bd2.size); have be3 := be2.trans (B3.mono be2.size))
        | (go_at_call 15; (with_reducible refine (hRa _ bd3).mono ?_); rintro e v4 ⟨A8, c8, Y8, rfl, hY8, S8, P8, H8, B4⟩; have E4_1 := E3_1.below B4; have E4_2 := E3_2.below B4; have bd4 := bd3.trans (B4.mono bd3.size); have be4 := be3.trans (B4.mono be3.size))
        | (go_at_call 12; (with_reducible refine (hSm A7 c7 A8 c8 Y6 Y8 _ ((H7.below B4).low (Nat.zero_le _)) (H8.low (Nat.zero_le _)) hY6 hY8 S6 S8 P6 P8).mono ?_); rintro e v5 ⟨rfl, B5⟩; have E5_1 := E4_1.below B5; have E5_2 := E4_2.below B5; have bd5 := bd4.trans (B5.mono bd4.size); have be5 := be4.trans (B5.mono be4.size))
        | (go_at_call 16; (with_reducible refine (hFl _ _).mono ?_); rintro e v6 ⟨rfl, B6⟩; have E6_1 := E5_1.below B6; have E6_2 := E5_2.below B6; have bd6 := bd5.trans (B6.mono bd5.size); have be6 := be5.trans (B6.mono be5.size)))
    rename_i hHeld
    clear hHeld
    clear D1 D2 E0_1 E0_2 E1_1 E1_2 E2_1 E2_2 E3_1 E3_2 E4_1 E4_2 E5_1 E5_2 bd bd0 bd1 bd2 bd3 bd4 bd5 be be0 be1 be2 be3 be4 be5 B0 B1 B2 B3 B4 B5 B6 H6 H7 H8 S6 S8 P6 P8 hY6 hY8 hCk hRk hAl hTo hRa hSm hFl ht1 ht2 fe
    have x0 : v6.cell? ⟨w.heap.size, 0, none⟩ = some (.int .u64 s.T) := E6_1.cell 0
    have x1 : v6.cell? ⟨w.heap.size, 1, none⟩ = some (.int .u64 s.I) := E6_1.cell 1
    have x2 : v6.cell? ⟨w.heap.size, 2, none⟩ = some (.int .u64 s.P) := E6_1.cell 2
    have x3 : v6.cell? ⟨w.heap.size, 3, none⟩ = some (.string s.sv) := E6_1.cell 3
    have x4 : v6.cell? ⟨w.heap.size, 4, none⟩ = some (.string s.nm) := E6_1.cell 4
    have x5 : v6.cell? ⟨w.heap.size, 5, none⟩ = some (.int .i64 s.kd) := E6_1.cell 5
    have x6 : v6.cell? ⟨w.heap.size, 6, none⟩ = some (.int .i64 s.st) := E6_1.cell 6
    have x7 : v6.cell? ⟨w.heap.size, 7, none⟩ = some (.int .u64 s.t0) := E6_1.cell 7
    have x8 : v6.cell? ⟨w.heap.size, 8, none⟩ = some (.int .u64 s.t1) := E6_1.cell 8
    have x9 : v6.cell? ⟨w.heap.size, 9, none⟩ = some (.slice A n c) := E6_1.cell 9
    have y0 : v6.cell? ⟨w3.heap.size, 0, none⟩ = some (.int .u64 s.T) := E6_2.cell 0
    have y1 : v6.cell? ⟨w3.heap.size, 1, none⟩ = some (.int .u64 s.I) := E6_2.cell 1
    have y2 : v6.cell? ⟨w3.heap.size, 2, none⟩ = some (.int .u64 s.P) := E6_2.cell 2
    have y3 : v6.cell? ⟨w3.heap.size, 3, none⟩ = some (.string s.sv) := E6_2.cell 3
    have y4 : v6.cell? ⟨w3.heap.size, 4, none⟩ = some (.string s.nm) := E6_2.cell 4
    have y5 : v6.cell? ⟨w3.heap.size, 5, none⟩ = some (.int .i64 s.kd) := E6_2.cell 5
    have y6 : v6.cell? ⟨w3.heap.size, 6, none⟩ = some (.int .i64 s.st) := E6_2.cell 6
    have y7 : v6.cell? ⟨w3.heap.size, 7, none⟩ = some (.int .u64 s.t0) := E6_2.cell 7
    have y8 : v6.cell? ⟨w3.heap.size, 8, none⟩ = some (.int .u64 s.t1) := E6_2.cell 8
    have y9 : v6.cell? ⟨w3.heap.size, 9, none⟩ = some (.slice A5 n c5) := E6_2.cell 9
    by_cases hle : s.t1 < s.t0
    · have e0 := (un htk).1 hle
      subst e0
      go_wp2_with fail
      refine (hAt _ be6).mono ?_
      rintro e w7 ⟨rfl, B7⟩
      have M1 := E6_1.below B7
      have M2 := E6_2.below B7
      have b7 := bd6.trans (B7.mono bd6.size)
      clear B7 E6_1 E6_2 bd6 be6 hAt x0 x1 x2 x3 x4 x5 x6 x7 x8 x9 y0 y1 y2 y3 y4 y5 y6 y7 y8 y9
      have bn : Below w7.heap.size w7 (w7.alloc (.cells #[.int .i64 K, .int .i64 N, .string S] 41)) := by go_grown
      have hst : TlR w w3 w7 s A n c A5 c5 K N S (w7.alloc (.cells #[.int .i64 K, .int .i64 N, .string S] 41)) := ⟨M1.below bn, M2.below bn, Bk.new w7 _ _, b7.trans (bn.mono b7.size)⟩
      clear M1 M2 b7 bn
      go_wp2
      go_loopw [11] (fun u wr => ∃ k : Nat, u = .int .i64 k ∧ k ≤ n ∧ TlR w w3 w7 s A n c A5 c5 K N S wr ∧ Hid (∀ j (hj : j < l.length), j < k → hasK key l[j] = false)) (fun u _ => n - (intOf u).toNat)
      case atStart => exact ⟨0, rfl, Nat.zero_le _, hst, fun j hj h => absurd h (by omega)⟩
      case round =>
        clear hst
        obtain ⟨k, rfl, hk, R, HI⟩ := hrel
        have c9 : wr.cell? ⟨w.heap.size, 9, none⟩ = some (.slice A n c) := R.k1.cell 9
        by_cases hlt : k < n
        · have hltz : (k : Int) < (n : Int) := by omega
          have hkl : k < l.length := by rw [un HN]; exact hlt
          obtain ⟨ad, p, rfl, hp, F⟩ := h.get hkl
          have pl := World.block_lt_of_cell? _ _ F.c0
          have f0 := (R.b0.cell (p := p) pl).trans F.c0
          obtain ⟨t, ht⟩ : ∃ t, (l[k].key.toList == key.toList) = t := ⟨_, rfl⟩
          have HT := Lib.hid ht
          cases t with
          | true =>
            have ha := attr_hit (key := key) hkl (un HT) (fun j hj => un HI j (by omega) hj)
            have hbb := (un HB).symm.trans ha.2
            obtain ⟨q1, q2, q3⟩ := vl_eq ((un HV).symm.trans ha.1)
            have F0 := Lib.hid F
            clear F HV HB HI HN ha
            generalize l[k] = x at *
            subst q1 q2 q3 hbb
            have e0 : (0 : Int) ≤ (k : Int) := by omega
            have e1 : ((k : Int)).toNat = k := by omega
            have s1 : (x.K == x.K) = true := by simp
            have s2 : (x.N == x.N) = true := by simp
            have s3 : (x.S.toList == x.S.toList) = true := by simp
            go_wp2_with fail
            have R' : TlR w w3 w7 s (some ad) n c A5 c5 x.K x.N x.S wr.drew := ⟨R.k1, R.k2, R.k3, R.b0.drew⟩
            clear R c9 f0
            go_region_held3 (fun w' => w'.cell? ⟨w.heap.size, 9, none⟩ = some (.slice (some ad) n c) ∧ w'.cell? ⟨w3.heap.size, 0, none⟩ = some (.int .u64 s.T) ∧ w'.cell? ⟨w3.heap.size, 1, none⟩ = some (.int .u64 s.I) ∧ w'.cell? ⟨w3.heap.size, 2, none⟩ = some (.int .u64 s.P) ∧ w'.cell? ⟨w3.heap.size, 3, none⟩ = some (.string s.sv) ∧ w'.cell? ⟨w3.heap.size, 4, none⟩ = some (.string s.nm) ∧ w'.cell? ⟨w3.heap.size, 5, none⟩ = some (.int .i64 s.kd) ∧ w'.cell? ⟨w3.heap.size, 6, none⟩ = some (.int .i64 s.st) ∧ w'.cell? ⟨w3.heap.size, 7, none⟩ = some (.int .u64 s.t0) ∧ w'.cell? ⟨w3.heap.size, 8, none⟩ = some (.int .u64 s.t1) ∧ w'.cell? ⟨w3.heap.size, 9, none⟩ = some (.slice A5 n c5) ∧ w'.cell? ⟨w7.heap.size, 0, none⟩ = some (.int .i64 x.K) ∧ w'.cell? ⟨w7.heap.size, 1, none⟩ = some (.int .i64 x.N) ∧ w'.cell? ⟨w7.heap.size, 2, none⟩ = some (.string x.S) ∧ w'.cell? ⟨p.block, p.off + 1, none⟩ = some (.int .i64 x.K) ∧ w'.cell? ⟨p.block, p.off + 1 + 1, none⟩ = some (.int .i64 x.N) ∧ w'.cell? ⟨p.block, p.off + 1 + 2, none⟩ = some (.string x.S))
              (first | exact R8.cells (un F0) | exact R'.cells (un F0) | go_keep)
              (first
                | (go_at_call 18; (with_reducible refine (hTk _ _).mono ?_); rintro e w8 ⟨rfl, B8⟩; have R8 := R'.below B8))
            go_wp2
            go_ret
            exact ⟨rfl, R8.b0⟩
          | false =>
            clear F
            go_wp2
            go_roundw
            case rel =>
              refine ⟨k + 1, by go_num, by omega, R, fun j hj hjk => ?_⟩
              by_cases e : j = k
              · subst e; exact un HT
              · exact un HI j hj (by omega)
            case measure => first | go_num | (simp [intOf]; omega)
        · have hltz : ¬ ((k : Int) < (n : Int)) := by omega
          have ha := attr_miss (l := l) (key := key) (fun j hj => un HI j hj (by have := un HN; omega))
          have hbb := (un HB).symm.trans ha.2
          obtain ⟨q1, q2, q3⟩ := vl_eq ((un HV).symm.trans ha.1)
          clear HV HB HI HN ha
          subst q1 q2 q3 hbb
          have y0 : wr.cell? ⟨w3.heap.size, 0, none⟩ = some (.int .u64 s.T) := R.k2.cell 0
          have y1 : wr.cell? ⟨w3.heap.size, 1, none⟩ = some (.int .u64 s.I) := R.k2.cell 1
          have y2 : wr.cell? ⟨w3.heap.size, 2, none⟩ = some (.int .u64 s.P) := R.k2.cell 2
          have y3 : wr.cell? ⟨w3.heap.size, 3, none⟩ = some (.string s.sv) := R.k2.cell 3
          have y4 : wr.cell? ⟨w3.heap.size, 4, none⟩ = some (.string s.nm) := R.k2.cell 4
          have y5 : wr.cell? ⟨w3.heap.size, 5, none⟩ = some (.int .i64 s.kd) := R.k2.cell 5
          have y6 : wr.cell? ⟨w3.heap.size, 6, none⟩ = some (.int .i64 s.st) := R.k2.cell 6
          have y7 : wr.cell? ⟨w3.heap.size, 7, none⟩ = some (.int .u64 s.t0) := R.k2.cell 7
          have y8 : wr.cell? ⟨w3.heap.size, 8, none⟩ = some (.int .u64 s.t1) := R.k2.cell 8
          have y9 : wr.cell? ⟨w3.heap.size, 9, none⟩ = some (.slice A5 n c5) := R.k2.cell 9
          have z0 : wr.cell? ⟨w7.heap.size, 0, none⟩ = some (.int .i64 0) := R.k3.cell 0
          go_wp2_with fail
          refine (hTk _ _).mono ?_
          rintro e w8 ⟨rfl, B8⟩
          have b8 := R.b0.trans (B8.mono R.b0.size)
          clear B8 R c9 z0 y0 y1 y2 y3 y4 y5 y6 y7 y8 y9
          go_wp2
          go_ret
          exact ⟨rfl, b8⟩
    · have e0 := (un htk).2 (by omega)
      have hwr : IntKind.u64.wrap (s.t1 - s.t0) = tk := (un hw64 (by omega)).trans e0.symm
      have heq : (tk == tk) = true := by simp
      clear e0
      go_wp2_with fail
      refine (hAt _ be6).mono ?_
      rintro e w7 ⟨rfl, B7⟩
      have M1 := E6_1.below B7
      have M2 := E6_2.below B7
      have b7 := bd6.trans (B7.mono bd6.size)
      clear B7 E6_1 E6_2 bd6 be6 hAt x0 x1 x2 x3 x4 x5 x6 x7 x8 x9 y0 y1 y2 y3 y4 y5 y6 y7 y8 y9
      have bn : Below w7.heap.size w7 (w7.alloc (.cells #[.int .i64 K, .int .i64 N, .string S] 41)) := by go_grown
      have hst : TlR w w3 w7 s A n c A5 c5 K N S (w7.alloc (.cells #[.int .i64 K, .int .i64 N, .string S] 41)) := ⟨M1.below bn, M2.below bn, Bk.new w7 _ _, b7.trans (bn.mono b7.size)⟩
      clear M1 M2 b7 bn
      go_wp2
      go_loopw [11] (fun u wr => ∃ k : Nat, u = .int .i64 k ∧ k ≤ n ∧ TlR w w3 w7 s A n c A5 c5 K N S wr ∧ Hid (∀ j (hj : j < l.length), j < k → hasK key l[j] = false)) (fun u _ => n - (intOf u).toNat)
      case atStart => exact ⟨0, rfl, Nat.zero_le _, hst, fun j hj h => absurd h (by omega)⟩
      case round =>
        clear hst
        obtain ⟨k, rfl, hk, R, HI⟩ := hrel
        have c9 : wr.cell? ⟨w.heap.size, 9, none⟩ = some (.slice A n c) := R.k1.cell 9
        by_cases hlt : k < n
        · have hltz : (k : Int) < (n : Int) := by omega
          have hkl : k < l.length := by rw [un HN]; exact hlt
          obtain ⟨ad, p, rfl, hp, F⟩ := h.get hkl
          have pl := World.block_lt_of_cell? _ _ F.c0
          have f0 := (R.b0.cell (p := p) pl).trans F.c0
          obtain ⟨t, ht⟩ : ∃ t, (l[k].key.toList == key.toList) = t := ⟨_, rfl⟩
          have HT := Lib.hid ht
          cases t with
          | true =>
            have ha := attr_hit (key := key) hkl (un HT) (fun j hj => un HI j (by omega) hj)
            have hbb := (un HB).symm.trans ha.2
            obtain ⟨q1, q2, q3⟩ := vl_eq ((un HV).symm.trans ha.1)
            have F0 := Lib.hid F
            clear F HV HB HI HN ha
            generalize l[k] = x at *
            subst q1 q2 q3 hbb
            have e0 : (0 : Int) ≤ (k : Int) := by omega
            have e1 : ((k : Int)).toNat = k := by omega
            have s1 : (x.K == x.K) = true := by simp
            have s2 : (x.N == x.N) = true := by simp
            have s3 : (x.S.toList == x.S.toList) = true := by simp
            go_wp2_with fail
            have R' : TlR w w3 w7 s (some ad) n c A5 c5 x.K x.N x.S wr.drew := ⟨R.k1, R.k2, R.k3, R.b0.drew⟩
            clear R c9 f0
            go_region_held3 (fun w' => w'.cell? ⟨w.heap.size, 9, none⟩ = some (.slice (some ad) n c) ∧ w'.cell? ⟨w3.heap.size, 0, none⟩ = some (.int .u64 s.T) ∧ w'.cell? ⟨w3.heap.size, 1, none⟩ = some (.int .u64 s.I) ∧ w'.cell? ⟨w3.heap.size, 2, none⟩ = some (.int .u64 s.P) ∧ w'.cell? ⟨w3.heap.size, 3, none⟩ = some (.string s.sv) ∧ w'.cell? ⟨w3.heap.size, 4, none⟩ = some (.string s.nm) ∧ w'.cell? ⟨w3.heap.size, 5, none⟩ = some (.int .i64 s.kd) ∧ w'.cell? ⟨w3.heap.size, 6, none⟩ = some (.int .i64 s.st) ∧ w'.cell? ⟨w3.heap.size, 7, none⟩ = some (.int .u64 s.t0) ∧ w'.cell? ⟨w3.heap.size, 8, none⟩ = some (.int .u64 s.t1) ∧ w'.cell? ⟨w3.heap.size, 9, none⟩ = some (.slice A5 n c5) ∧ w'.cell? ⟨w7.heap.size, 0, none⟩ = some (.int .i64 x.K) ∧ w'.cell? ⟨w7.heap.size, 1, none⟩ = some (.int .i64 x.N) ∧ w'.cell? ⟨w7.heap.size, 2, none⟩ = some (.string x.S) ∧ w'.cell? ⟨p.block, p.off + 1, none⟩ = some (.int .i64 x.K) ∧ w'.cell? ⟨p.block, p.off + 1 + 1, none⟩ = some (.int .i64 x.N) ∧ w'.cell? ⟨p.block, p.off + 1 + 2, none⟩ = some (.string x.S))
              (first | exact R8.cells (un F0) | exact R'.cells (un F0) | go_keep)
              (first
                | (go_at_call 18; (with_reducible refine (hTk _ _).mono ?_); rintro e w8 ⟨rfl, B8⟩; have R8 := R'.below B8))
            go_wp2
            go_ret
            exact ⟨rfl, R8.b0⟩
          | false =>
            clear F
            go_wp2
            go_roundw
            case rel =>
              refine ⟨k + 1, by go_num, by omega, R, fun j hj hjk => ?_⟩
              by_cases e : j = k
              · subst e; exact un HT
              · exact un HI j hj (by omega)
            case measure => first | go_num | (simp [intOf]; omega)
        · have hltz : ¬ ((k : Int) < (n : Int)) := by omega
          have ha := attr_miss (l := l) (key := key) (fun j hj => un HI j hj (by have := un HN; omega))
          have hbb := (un HB).symm.trans ha.2
          obtain ⟨q1, q2, q3⟩ := vl_eq ((un HV).symm.trans ha.1)
          clear HV HB HI HN ha
          subst q1 q2 q3 hbb
          have y0 : wr.cell? ⟨w3.heap.size, 0, none⟩ = some (.int .u64 s.T) := R.k2.cell 0
          have y1 : wr.cell? ⟨w3.heap.size, 1, none⟩ = some (.int .u64 s.I) := R.k2.cell 1
          have y2 : wr.cell? ⟨w3.heap.size, 2, none⟩ = some (.int .u64 s.P) := R.k2.cell 2
          have y3 : wr.cell? ⟨w3.heap.size, 3, none⟩ = some (.string s.sv) := R.k2.cell 3
          have y4 : wr.cell? ⟨w3.heap.size, 4, none⟩ = some (.string s.nm) := R.k2.cell 4
          have y5 : wr.cell? ⟨w3.heap.size, 5, none⟩ = some (.int .i64 s.kd) := R.k2.cell 5
          have y6 : wr.cell? ⟨w3.heap.size, 6, none⟩ = some (.int .i64 s.st) := R.k2.cell 6
          have y7 : wr.cell? ⟨w3.heap.size, 7, none⟩ = some (.int .u64 s.t0) := R.k2.cell 7
          have y8 : wr.cell? ⟨w3.heap.size, 8, none⟩ = some (.int .u64 s.t1) := R.k2.cell 8
          have y9 : wr.cell? ⟨w3.heap.size, 9, none⟩ = some (.slice A5 n c5) := R.k2.cell 9
          have z0 : wr.cell? ⟨w7.heap.size, 0, none⟩ = some (.int .i64 0) := R.k3.cell 0
          go_wp2_with fail
          refine (hTk _ _).mono ?_
          rintro e w8 ⟨rfl, B8⟩
          have b8 := R.b0.trans (B8.mono R.b0.size)
          clear B8 R c9 z0 y0 y1 y2 y3 y4 y5 y6 y7 y8 y9
          go_wp2
          go_ret
          exact ⟨rfl, b8⟩
end Go.Proofs.Ytpjldoahinocjaa.P06
