/-
  The walk of WmarkRises.
-/
import Derived.Test.YtmonjlnmkkdnfaaW13Min
import Derived.Test.YtmonjlnmkkdnfaaW13Open
set_option linter.unusedSimpArgs false
set_option linter.unusedVariables false
namespace Go.Proofs.Ytmonjlnmkkdnfaa.W13
open Go.RowKit Go.Lib Go.Proofs.Ytmonjlnmkkdnfaa.Wd

theorem mn_first (f : Nat → Nat) : ∀ k, mn f k ≤ f 0
  | 0 => Nat.le_refl _
  | k + 1 => by
    have := mn_first f k
    show min (mn f k) (f (k + 1)) ≤ f 0
    omega
/-- a clock of the call's own, and behind it a row of numbers at g -/
def RS (w0 w : World) (p : Nat) (c : Cl) (g n : Nat) (M : Nat → Nat) : Prop := ∃ lo hi, Ci w p lo hi c ∧ w0.heap.size ≤ lo ∧ hi ≤ g ∧ w0.heap.size ≤ g ∧ Nr w g n M ∧ Below w0.heap.size w0 w
section
variable {w0 w w' : World} {p g n : Nat} {c : Cl} {M : Nat → Nat}
theorem RS.bel (h : RS w0 w p c g n M) : Below w0.heap.size w0 w := by obtain ⟨_, _, _, _, _, _, _, b⟩ := h; exact b
theorem RS.row (h : RS w0 w p c g n M) : Nr w g n M := by obtain ⟨_, _, _, _, _, _, k, _⟩ := h; exact k
theorem RS.ok (h : RS w0 w p c g n M) : c.Ok := by obtain ⟨_, _, k, _⟩ := h; exact k.ok
theorem RS.see (h : RS w0 w p c g n M) (s e : Nat) (hs : s < c.N) (he : e ≤ 4611686018427387904) :
    Calls Try.prog 11 #[.pointer (some ⟨p, 0, none⟩), .int .i64 (s : Int), .int .u64 (e : Int)] w fun e' w' => e' = .returned (.int .i64 0) ∧ RS w0 w' p (c.see s e) g n M := by
  obtain ⟨lo, hi, k, h1, h2, h3, h4, h5⟩ := h
  exact (see_at s e k hs he).mono fun _ _ ⟨e1, k2, F⟩ => ⟨e1, lo, hi, k2, h1, h2, h3, h4.fx F (.inr h2), h5.trans (F.below h1 h5.size)⟩
theorem RS.tick (h : RS w0 w p c g n M) (hn : c.now < 100000) : Calls Try.prog 10 #[.pointer (some ⟨p, 0, none⟩)] w fun e' w' => e' = .returned (.int .i64 0) ∧ RS w0 w' p c.tick g n M := by
  obtain ⟨lo, hi, k, h1, h2, h3, h4, h5⟩ := h
  exact (tick_at k hn).mono fun _ _ ⟨e1, k2, F⟩ => ⟨e1, lo, hi, k2, h1, h2, h3, h4.fx F (.inr h2), h5.trans (F.below h1 h5.size)⟩
theorem RS.mark (h : RS w0 w p c g n M) : Calls Try.prog 13 #[.pointer (some ⟨p, 0, none⟩)] w fun e w' => e = .returned (.int .u64 (c.mark : Int)) ∧ w = w' := by
  obtain ⟨lo, hi, k, _⟩ := h
  exact mark_at k
theorem RS.set (h : RS w0 w p c g n M) {k : Nat} (hk : k < n) (T : Nat) : RS w0 (w.setCell ⟨g, k, none⟩ (.int .u64 (T : Int))) p c g n (upn M k T) := by
  obtain ⟨lo, hi, k1, h1, h2, h3, h4, h5⟩ := h
  have F := Fx.setCell (lo := g) (hi := g + 1) w ⟨g, k, none⟩ (.int .u64 (T : Int)) (Nat.le_refl _) (Nat.lt_succ_self _)
  exact ⟨lo, hi, k1.fx F (.inl h2), h1, h2, h3, h4.set hk T, h5.trans (F.below h3 h5.size)⟩
end
/-- the ends are M, and where nobody is idle the mark is their least one less the lateness -/
structure Jv (n l d i : Nat) (c : Cl) (M : Nat → Nat) : Prop where
  N : c.N = n
  now : c.now ≤ i
  zn : d = 0 → Zn n l c M
section
variable {n l d i : Nat} {c : Cl} {M : Nat → Nat}
theorem Jv.init (n l d : Nat) (h : 0 < n) : Jv n l d 0 (Cl.init n l d) (fun _ => 0) := ⟨rfl, Nat.le_refl _, fun e => by subst e; exact Zn.init n l h⟩
theorem Jv.tick (h : Jv n l d i c M) : Jv n l d (i + 1) c.tick M := ⟨h.N, Nat.succ_le_succ h.now, fun e => (h.zn e).tick⟩
theorem Jv.see (h : Jv n l d i c M) {s : Nat} (hs : s < n) (e : Nat) : Jv n l d (i + 1) (c.see s e) (sy M s e) := ⟨h.N, Nat.le_succ_of_le h.now, fun k => (h.zn k).see hs e⟩
end
set_option maxRecDepth 20000 in
set_option maxHeartbeats 4000000 in
theorem rises_zero (a l : Nat) (A0 : Option Addr) (c0 n0 : Nat) (L : List Ac) (w : World) (ha : a ≤ 255) (hl : l ≤ 65535) (hA : Acs w A0 c0 L) (hok : ∀ y ∈ L, y.Ok) (hn0 : L.length = n0) :
    Calls Try.prog 4 #[.int .u8 (a : Int), .int .u16 (l : Int), .int .u8 0, .slice A0 n0 c0] w fun r w' => r = .returned (.bool true) ∧ Below w.heap.size w w' := by
  have HN := Lib.hid hn0
  have HA := Lib.hid hA
  have HOK := Lib.hid hok
  have m1 := hA.max
  have m3 := hA.cap
  have hmx : n0 ≤ 9223372036854775807 := by rw [hn0] at m3; unfold maxLen at m1; omega
  clear hn0 hA hok m1 m3
  go_enter Try.func4, Try.ntmps4
  go_wp2_with fail
  refine (alive_any _).mono ?_
  rintro r w1 ⟨rfl, b0⟩
  by_cases h2 : (100 : Int) < (n0 : Int)
  · go_wp2
    go_ret
    exact ⟨rfl, b0⟩
  obtain ⟨q, hq⟩ : ∃ q, a % 16 = q := ⟨_, rfl⟩
  have hqi : (a : Int) % 16 = (q : Int) := by omega
  obtain ⟨n, hn⟩ : ∃ n, 1 + q = n := ⟨_, rfl⟩
  have hni : 1 + (q : Int) = (n : Int) := by omega
  have hnew := new_right n l 0 w1 (by unfold Rt; omega)
  have hn1 : 0 < n := by omega
  have hn2 : n ≤ 16 := by omega
  obtain ⟨i0, hi, hz0, hz1, hz2⟩ := info_two u64_info
  have hmk : ∀ W : World, (Instr.makeSlice 40 (.int .i64 (n : Int)) (.int .i64 (n : Int))).run Try.prog W = .ok (.slice (some ⟨W.heap.size, 0, none⟩) n n) (W.alloc (nrow 22 n)) := fun W => by
    have := make_n (P := Try.prog) (t := 40) (e := 22) Try.underlying40 hi hz0 n (by omega) (by omega) _ rfl W
    rw [hz1, Nat.mul_one] at this
    exact this
  have HNQ := Lib.hid hni
  clear hn hq hz0 hz1 hz2 hi
  go_wp2_with fail
  refine hnew.mono ?_
  rintro r w2 ⟨p, rfl, C, b1⟩
  clear hnew hqi hni HNQ
  have bn := below_box w2 (nrow 22 n)
  have C1 := Lib.hid (show RS w (w2.alloc (nrow 22 n)) p (Cl.init n l 0) w2.heap.size n (fun _ => 0) from
    ⟨w1.heap.size, w2.heap.size, C.below bn, b0.size, Nat.le_refl _, Nat.le_trans b0.size b1.size, nrow_at w2 _ n, (b0.trans (b1.mono b0.size)).trans (bn.mono (Nat.le_trans b0.size b1.size))⟩)
  have J0 := Lib.hid (Jv.init n l 0 hn1)
  clear C b0 b1 bn
  go_wp2
  clear hmk
  obtain ⟨g, hg⟩ : ∃ g, w2.heap.size = g := ⟨_, rfl⟩
  rw [hg] at C1 ⊢
  clear hg
  have Z0 := Lib.hid (show (0 : Int) = ((Cl.init n l 0).mark : Int) from rfl)
  generalize w2.alloc (nrow 22 n) = w3 at *
  go_loopw [13, 14] (fun v13 v14 wr => ∃ (i : Nat) (c : Cl) (M : Nat → Nat), v13 = .int .u64 (c.mark : Int) ∧ v14 = .int .i64 (i : Int) ∧ i ≤ n0 ∧ Hid (RS w wr p c g n M) ∧ Hid (Jv n l 0 i c M)) (fun _ v14 _ => n0 - (intOf v14).toNat)
  case atStart => exact ⟨0, _, _, by rw [← Z0.out], rfl, Nat.zero_le _, C1, J0⟩
  case round =>
    clear C1 J0 Z0
    obtain ⟨i, c, M, rfl, rfl, hin, C, J⟩ := hrel
    by_cases hlt : i < n0
    · have hil : i < L.length := by rw [HN.out]; exact hlt
      obtain ⟨ad, pp, rfl, hpp, x0, x1⟩ := (HA.out.below C.out.bel).get hil
      have hyok := HOK.out L[i] (List.getElem_mem hil)
      generalize L[i] = y at *
      have z0 : (0 : Int) ≤ (i : Int) := by omega
      have z1 : ((i : Int)).toNat = i := by omega
      by_cases hneg : y.S < 0
      · have ht := C.out.tick (by have := J.out.now; omega)
        have hmle := tick_mark c
        have J2 := Lib.hid J.out.tick
        clear C J
        generalize c.tick = c2 at *
        go_wp2_with fail
        refine ht.mono ?_
        rintro r w4 ⟨rfl, C⟩
        have hm := C.mark
        have C2 := Lib.hid C
        clear ht C
        go_wp2_with fail
        refine hm.mono ?_
        rintro r w5 ⟨rfl, rfl⟩
        go_wp2_with fail
        refine hm.mono ?_
        rintro r w5 ⟨rfl, rfl⟩
        clear hm
        go_wp2
        go_roundw
        case rel => exact ⟨i + 1, c2, M, rfl, by go_num, by omega, C2, J2⟩
        case measure => first | go_num | (simp [intOf]; omega)
      · obtain ⟨sz, hsz⟩ : ∃ s : Nat, y.S % (n : Int) = (s : Int) := ⟨(y.S % (n : Int)).toNat, by have := Int.emod_nonneg y.S (b := (n : Int)) (by omega); omega⟩
        have hsn : sz < n := by have := Int.emod_lt_of_pos y.S (b := (n : Int)) (by omega); omega
        obtain ⟨e, he⟩ : ∃ e : Nat, (y.E : Int) % 4611686018427387904 = (e : Int) := ⟨y.E % 4611686018427387904, by omega⟩
        have heb : e ≤ 4611686018427387904 := by omega
        have hs := C.out.see sz e (by rw [J.out.N]; exact hsn) heb
        have hmle := see_mark c sz e
        have J2 := Lib.hid (J.out.see hsn e)
        have HS := Lib.hid (fun (hd0 : 0 = 0) (hle : e ≤ M sz) => (J.out.zn hd0).same hsn hle)
        clear C J
        generalize c.see sz e = c2 at *
        generalize c.mark = mk at *
        go_wp2_with fail
        refine hs.mono ?_
        rintro r w4 ⟨rfl, C⟩
        have r0 := C.row.c sz hsn
        have f0 := C.row.f sz hsn
        have zs0 : (0 : Int) ≤ (sz : Int) := by omega
        have zs1 : ((sz : Int)).toNat = sz := by omega
        have CS := Lib.hid (fun T => C.set hsn T)
        have CH := Lib.hid C
        clear hs hsz he x0 x1 hneg hyok C
        by_cases hle : e ≤ M sz
        · have e3 := HS.out trivial hle
          have hm := CH.out.mark
          rw [e3] at hm
          clear CH HS
          go_wp2_with fail
          refine hm.mono ?_
          rintro r w5 ⟨rfl, rfl⟩
          clear hm
          have E5 := Lib.hid (show upn M sz (M sz) = sy M sz e from by unfold sy; congr 1; omega)
          have C5 := CS.out (M sz)
          rw [E5.out] at C5
          have hm5 := C5.mark
          rw [e3] at hm5
          clear CS E5
          go_wp2_with fail
          refine hm5.mono ?_
          rintro r w6 ⟨rfl, rfl⟩
          go_wp2_with fail
          refine hm5.mono ?_
          rintro r w6 ⟨rfl, rfl⟩
          have C6 := Lib.hid C5
          clear hm5 r0 f0 C5
          go_wp2
          go_roundw
          case rel => exact ⟨i + 1, c2, _, by rw [e3], by go_num, by omega, C6, J2⟩
          case measure => first | go_num | (simp [intOf]; omega)
        · clear HS CH
          have hgt : M sz < e := by omega
          have E5 := Lib.hid (show upn M sz e = sy M sz e from by unfold sy; congr 1; omega)
          have C5 := CS.out e
          rw [E5.out] at C5
          have hm5 := C5.mark
          skip
          clear CS E5
          go_wp2_with fail
          refine hm5.mono ?_
          rintro r w6 ⟨rfl, rfl⟩
          go_wp2_with fail
          refine hm5.mono ?_
          rintro r w6 ⟨rfl, rfl⟩
          have C6 := Lib.hid C5
          clear hm5 r0 f0 C5
          go_wp2
          go_roundw
          case rel => exact ⟨i + 1, c2, _, rfl, by go_num, by omega, C6, J2⟩
          case measure => first | go_num | (simp [intOf]; omega)
    · have e1 : i = n0 := by omega
      subst e1
      have r0 := C.out.row.c 0 hn1
      have ZM := Lib.hid (show c.mark = mn M (n - 1) - l ∧ mn M (n - 1) ≤ 4611686018427387904 from ⟨(J.out.zn rfl).mark, Nat.le_trans (mn_first M (n - 1)) (by rw [← (J.out.zn rfl).en 0 (by rw [J.out.N]; exact hn1)]; exact C.out.ok.end_ 0 (by rw [J.out.N]; exact hn1))⟩)
      have L0 := Lib.hid (show ((M 0 : Nat) : Int) = ((mn M (0 - 1) : Nat) : Int) from rfl)
      clear J hlt hin
      generalize c.mark = mk at *
      go_wp2
      go_loopw [17, 18] (fun v17 v18 wr2 => ∃ s : Nat, v17 = .int .u64 ((mn M (s - 1) : Nat) : Int) ∧ v18 = .int .i64 (s : Int) ∧ s ≤ n ∧ Hid (RS w wr2 p c g n M)) (fun _ v18 _ => n - (intOf v18).toNat)
      case atStart => exact ⟨0, by rw [← L0.out], rfl, Nat.zero_le _, C⟩
      case round =>
        clear C L0 r0
        obtain ⟨s, rfl, rfl, hs, C⟩ := hrel
        by_cases hsn : s < n
        · have r1 := C.out.row.c s hsn
          have st := Lib.hid (mn_step M s)
          have y0 : (0 : Int) ≤ (s : Int) := by omega
          have y1 : ((s : Int)).toNat = s := by omega
          generalize mn M (s - 1) = X at *
          generalize M s = Y at *
          go_wp2
          go_roundw
          case rel => exact ⟨s + 1, by rw [Nat.add_sub_cancel, ← st.out]; congr 1; split <;> omega, by go_num, by omega, C⟩
          case measure => first | go_num | (simp [intOf]; omega)
        · have e2 : s = n := by omega
          subst e2
          have hb := C.out.bel
          clear C hs
          generalize mn M (s - 1) = X at *
          by_cases hlx : (l : Int) < (X : Int)
          · have hw : IntKind.u64.wrap ((X : Int) - (l : Int)) = (mk : Int) := by have := ZM.out; rw [IntWalk.u64_in _ (by omega)]; omega
            clear ZM
            go_wp2
            go_ret
            exact ⟨rfl, hb⟩
          · have hm0 : mk = 0 := by have := ZM.out; omega
            subst hm0
            clear ZM
            go_wp2
            go_ret
            exact ⟨rfl, hb⟩
set_option maxRecDepth 20000 in
set_option maxHeartbeats 4000000 in
theorem rises_pos (a l d : Nat) (A0 : Option Addr) (c0 n0 : Nat) (L : List Ac) (w : World) (ha : a ≤ 255) (hl : l ≤ 65535) (hd : d ≤ 255) (hdp : 0 < d) (hA : Acs w A0 c0 L) (hok : ∀ y ∈ L, y.Ok) (hn0 : L.length = n0) :
    Calls Try.prog 4 #[.int .u8 (a : Int), .int .u16 (l : Int), .int .u8 (d : Int), .slice A0 n0 c0] w fun r w' => r = .returned (.bool true) ∧ Below w.heap.size w w' := by
  have HN := Lib.hid hn0
  have HA := Lib.hid hA
  have HOK := Lib.hid hok
  have m1 := hA.max
  have m3 := hA.cap
  have hmx : n0 ≤ 9223372036854775807 := by rw [hn0] at m3; unfold maxLen at m1; omega
  clear hn0 hA hok m1 m3
  go_enter Try.func4, Try.ntmps4
  go_wp2_with fail
  refine (alive_any _).mono ?_
  rintro r w1 ⟨rfl, b0⟩
  by_cases h2 : (100 : Int) < (n0 : Int)
  · go_wp2
    go_ret
    exact ⟨rfl, b0⟩
  obtain ⟨q, hq⟩ : ∃ q, a % 16 = q := ⟨_, rfl⟩
  have hqi : (a : Int) % 16 = (q : Int) := by omega
  obtain ⟨n, hn⟩ : ∃ n, 1 + q = n := ⟨_, rfl⟩
  have hni : 1 + (q : Int) = (n : Int) := by omega
  have hnew := new_right n l d w1 (by unfold Rt; omega)
  have hn1 : 0 < n := by omega
  have hn2 : n ≤ 16 := by omega
  obtain ⟨i0, hi, hz0, hz1, hz2⟩ := info_two u64_info
  have hmk : ∀ W : World, (Instr.makeSlice 40 (.int .i64 (n : Int)) (.int .i64 (n : Int))).run Try.prog W = .ok (.slice (some ⟨W.heap.size, 0, none⟩) n n) (W.alloc (nrow 22 n)) := fun W => by
    have := make_n (P := Try.prog) (t := 40) (e := 22) Try.underlying40 hi hz0 n (by omega) (by omega) _ rfl W
    rw [hz1, Nat.mul_one] at this
    exact this
  have HNQ := Lib.hid hni
  clear hn hq hz0 hz1 hz2 hi
  go_wp2_with fail
  refine hnew.mono ?_
  rintro r w2 ⟨p, rfl, C, b1⟩
  clear hnew hqi hni HNQ
  have bn := below_box w2 (nrow 22 n)
  have C1 := Lib.hid (show RS w (w2.alloc (nrow 22 n)) p (Cl.init n l d) w2.heap.size n (fun _ => 0) from
    ⟨w1.heap.size, w2.heap.size, C.below bn, b0.size, Nat.le_refl _, Nat.le_trans b0.size b1.size, nrow_at w2 _ n, (b0.trans (b1.mono b0.size)).trans (bn.mono (Nat.le_trans b0.size b1.size))⟩)
  have J0 := Lib.hid (Jv.init n l d hn1)
  clear C b0 b1 bn
  go_wp2
  clear hmk
  obtain ⟨g, hg⟩ : ∃ g, w2.heap.size = g := ⟨_, rfl⟩
  rw [hg] at C1 ⊢
  clear hg
  have Z0 := Lib.hid (show (0 : Int) = ((Cl.init n l d).mark : Int) from rfl)
  generalize w2.alloc (nrow 22 n) = w3 at *
  go_loopw [13, 14] (fun v13 v14 wr => ∃ (i : Nat) (c : Cl) (M : Nat → Nat), v13 = .int .u64 (c.mark : Int) ∧ v14 = .int .i64 (i : Int) ∧ i ≤ n0 ∧ Hid (RS w wr p c g n M) ∧ Hid (Jv n l d i c M)) (fun _ v14 _ => n0 - (intOf v14).toNat)
  case atStart => exact ⟨0, _, _, by rw [← Z0.out], rfl, Nat.zero_le _, C1, J0⟩
  case round =>
    clear C1 J0 Z0
    obtain ⟨i, c, M, rfl, rfl, hin, C, J⟩ := hrel
    by_cases hlt : i < n0
    · have hil : i < L.length := by rw [HN.out]; exact hlt
      obtain ⟨ad, pp, rfl, hpp, x0, x1⟩ := (HA.out.below C.out.bel).get hil
      have hyok := HOK.out L[i] (List.getElem_mem hil)
      generalize L[i] = y at *
      have z0 : (0 : Int) ≤ (i : Int) := by omega
      have z1 : ((i : Int)).toNat = i := by omega
      by_cases hneg : y.S < 0
      · have ht := C.out.tick (by have := J.out.now; omega)
        have hmle := tick_mark c
        have J2 := Lib.hid J.out.tick
        clear C J
        generalize c.tick = c2 at *
        go_wp2_with fail
        refine ht.mono ?_
        rintro r w4 ⟨rfl, C⟩
        have hm := C.mark
        have C2 := Lib.hid C
        clear ht C
        go_wp2_with fail
        refine hm.mono ?_
        rintro r w5 ⟨rfl, rfl⟩
        go_wp2_with fail
        refine hm.mono ?_
        rintro r w5 ⟨rfl, rfl⟩
        clear hm
        go_wp2
        go_roundw
        case rel => exact ⟨i + 1, c2, M, rfl, by go_num, by omega, C2, J2⟩
        case measure => first | go_num | (simp [intOf]; omega)
      · obtain ⟨sz, hsz⟩ : ∃ s : Nat, y.S % (n : Int) = (s : Int) := ⟨(y.S % (n : Int)).toNat, by have := Int.emod_nonneg y.S (b := (n : Int)) (by omega); omega⟩
        have hsn : sz < n := by have := Int.emod_lt_of_pos y.S (b := (n : Int)) (by omega); omega
        obtain ⟨e, he⟩ : ∃ e : Nat, (y.E : Int) % 4611686018427387904 = (e : Int) := ⟨y.E % 4611686018427387904, by omega⟩
        have heb : e ≤ 4611686018427387904 := by omega
        have hs := C.out.see sz e (by rw [J.out.N]; exact hsn) heb
        have hmle := see_mark c sz e
        have J2 := Lib.hid (J.out.see hsn e)
        have HS := Lib.hid (fun (hd0 : d = 0) (hle : e ≤ M sz) => (J.out.zn hd0).same hsn hle)
        clear C J
        generalize c.see sz e = c2 at *
        generalize c.mark = mk at *
        go_wp2_with fail
        refine hs.mono ?_
        rintro r w4 ⟨rfl, C⟩
        have r0 := C.row.c sz hsn
        have f0 := C.row.f sz hsn
        have zs0 : (0 : Int) ≤ (sz : Int) := by omega
        have zs1 : ((sz : Int)).toNat = sz := by omega
        have CS := Lib.hid (fun T => C.set hsn T)
        have CH := Lib.hid C
        clear hs hsz he x0 x1 hneg hyok C
        clear HS CH
        have hdi : ¬ (d : Int) = 0 := by omega
        by_cases hle : e ≤ M sz
        · skip
          have E5 := Lib.hid (show upn M sz (M sz) = sy M sz e from by unfold sy; congr 1; omega)
          have C5 := CS.out (M sz)
          rw [E5.out] at C5
          have hm5 := C5.mark
          skip
          clear CS E5
          go_wp2_with fail
          refine hm5.mono ?_
          rintro r w6 ⟨rfl, rfl⟩
          go_wp2_with fail
          refine hm5.mono ?_
          rintro r w6 ⟨rfl, rfl⟩
          have C6 := Lib.hid C5
          clear hm5 r0 f0 C5
          go_wp2
          go_roundw
          case rel => exact ⟨i + 1, c2, _, rfl, by go_num, by omega, C6, J2⟩
          case measure => first | go_num | (simp [intOf]; omega)
        · have hgt : M sz < e := by omega
          have E5 := Lib.hid (show upn M sz e = sy M sz e from by unfold sy; congr 1; omega)
          have C5 := CS.out e
          rw [E5.out] at C5
          have hm5 := C5.mark
          skip
          clear CS E5
          go_wp2_with fail
          refine hm5.mono ?_
          rintro r w6 ⟨rfl, rfl⟩
          go_wp2_with fail
          refine hm5.mono ?_
          rintro r w6 ⟨rfl, rfl⟩
          have C6 := Lib.hid C5
          clear hm5 r0 f0 C5
          go_wp2
          go_roundw
          case rel => exact ⟨i + 1, c2, _, rfl, by go_num, by omega, C6, J2⟩
          case measure => first | go_num | (simp [intOf]; omega)
    · have e1 : i = n0 := by omega
      subst e1
      have r0 := C.out.row.c 0 hn1
      have mxb : True := trivial
      have L0 := Lib.hid (show ((M 0 : Nat) : Int) = ((mn M (0 - 1) : Nat) : Int) from rfl)
      clear J hlt hin
      generalize c.mark = mk at *
      go_wp2
      go_loopw [17, 18] (fun v17 v18 wr2 => ∃ s : Nat, v17 = .int .u64 ((mn M (s - 1) : Nat) : Int) ∧ v18 = .int .i64 (s : Int) ∧ s ≤ n ∧ Hid (RS w wr2 p c g n M)) (fun _ v18 _ => n - (intOf v18).toNat)
      case atStart => exact ⟨0, by rw [← L0.out], rfl, Nat.zero_le _, C⟩
      case round =>
        clear C L0 r0
        obtain ⟨s, rfl, rfl, hs, C⟩ := hrel
        by_cases hsn : s < n
        · have r1 := C.out.row.c s hsn
          have st := Lib.hid (mn_step M s)
          have y0 : (0 : Int) ≤ (s : Int) := by omega
          have y1 : ((s : Int)).toNat = s := by omega
          generalize mn M (s - 1) = X at *
          generalize M s = Y at *
          go_wp2
          go_roundw
          case rel => exact ⟨s + 1, by rw [Nat.add_sub_cancel, ← st.out]; congr 1; split <;> omega, by go_num, by omega, C⟩
          case measure => first | go_num | (simp [intOf]; omega)
        · have e2 : s = n := by omega
          subst e2
          have hb := C.out.bel
          clear C hs
          generalize mn M (s - 1) = X at *
          have hdi : ¬ (d : Int) = 0 := by omega
          go_wp2
          go_ret
          exact ⟨rfl, hb⟩
/-- both -/
theorem rises_law (a l d : Nat) (A0 : Option Addr) (c0 n0 : Nat) (L : List Ac) (w : World) (ha : a ≤ 255) (hl : l ≤ 65535) (hd : d ≤ 255) (hA : Acs w A0 c0 L) (hok : ∀ y ∈ L, y.Ok) (hn0 : L.length = n0) :
    Calls Try.prog 4 #[.int .u8 (a : Int), .int .u16 (l : Int), .int .u8 (d : Int), .slice A0 n0 c0] w fun r w' => r = .returned (.bool true) ∧ Below w.heap.size w w' := by
  by_cases h : d = 0
  · subst h
    exact rises_zero a l A0 c0 n0 L w ha hl hA hok hn0
  · exact rises_pos a l d A0 c0 n0 L w ha hl hd (by omega) hA hok hn0
end Go.Proofs.Ytmonjlnmkkdnfaa.W13
