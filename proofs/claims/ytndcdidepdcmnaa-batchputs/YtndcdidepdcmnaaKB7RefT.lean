/-
  The document's side of layer 7: num, join, Texts.
-/
import Derived.Test.YtndcdidepdcmnaaKB7Rd5
import Derived.Test.YtndcdidepdcmnaaKS05Find
import Derived.Test.YtndcdidepdcmnaaKV04RefBytes
import Derived.Test.YtndcdidepdcmnaaKB7Txt
set_option linter.unusedSimpArgs false
set_option linter.unusedVariables false
namespace Go.Proofs.Ytndcdidepdcmnaa.B07
open Go.RowKit Go.Lib Go.Maps Go.Proofs.Ytndcdidepdcmnaa.Wd Go.Proofs.Ytndcdidepdcmnaa.V01 Go.Proofs.Ytndcdidepdcmnaa.V04 Go.Proofs.Ytndcdidepdcmnaa.P06
open Go.Proofs.Ytndcdidepdcmnaa.S05 (ix find_any wpList_append_one_at)

theorem rnumb_at (N : Int) (n : Nat) (r : List UInt8) (w : World) (hN : N = (n : Int)) (hr : vby n = r) (hn : n ≤ 18446744073709551615) : Calls Try.prog 30 #[.int .u64 N] w fun e w' => V04.Own w w' e r := by
  subst hN
  have h := refput_at (n : Int) n r w rfl hr (by omega)
  clear hr
  go_enter Try.func30, Try.ntmps30
  go_wp2_with fail
  refine h.mono ?_
  rintro e w2 ⟨A', c', rfl, own, b2⟩
  go_wp2
  go_ret
  exact ⟨A', c', rfl, own, b2⟩

/-- a row of slices of bytes -/
structure Jn (w : World) (g : Nat) (ls : List (Option Addr × Nat × List UInt8)) : Prop where
  at_ : ∀ i (h : i < ls.length), w.cell? ⟨g, i, none⟩ = some (.slice ls[i].1 ls[i].2.2.length ls[i].2.1)
  bs : ∀ i (h : i < ls.length), Bs w ls[i].1 ls[i].2.1 ls[i].2.2
theorem Jn.below {w w' : World} {g : Nat} {ls : List (Option Addr × Nat × List UInt8)} (h : Jn w g ls) (hg : g < w.heap.size) (hb : Below w.heap.size w w') : Jn w' g ls :=
  ⟨fun i hi => (hb.cell (p := ⟨g, i, none⟩) hg).trans (h.at_ i hi), fun i hi => (h.bs i hi).below hb⟩
def jo (ls : List (Option Addr × Nat × List UInt8)) : List UInt8 := ls.flatMap fun x => x.2.2
theorem jo_step {ls : List (Option Addr × Nat × List UInt8)} {k : Nat} (h : k < ls.length) : jo (ls.take (k + 1)) = jo (ls.take k) ++ ls[k].2.2 := by
  unfold jo
  conv => lhs; rw [← List.take_append_getElem h, List.flatMap_append]
  simp only [List.flatMap_cons, List.flatMap_nil, List.append_nil]
theorem jo_le (ls : List (Option Addr × Nat × List UInt8)) (k : Nat) : (jo (ls.take k)).length ≤ (jo ls).length := by
  conv => rhs; rw [← List.take_append_drop k ls]
  unfold jo
  rw [List.flatMap_append, List.length_append]
  omega

set_option maxRecDepth 20000 in
set_option maxHeartbeats 2000000 in
theorem join_any (w : World) (g n c : Nat) (ls : List (Option Addr × Nat × List UInt8)) (r : List UInt8) (hg : g < w.heap.size) (h : Jn w g ls) (hn : ls.length = n) (hm : n ≤ 1000) (hr : jo ls = r) (hb : r.length ≤ 1000000000) :
    Calls Try.prog 28 #[.slice (some ⟨g, 0, none⟩) n c] w fun e w' => V04.Own w w' e r := by
  obtain ⟨i0, hi, hz0, hz1, hz2⟩ := info_parts V01.byte_info
  have HN := Lib.hid hn
  have HR := Lib.hid hr
  have hR0 : w.ownsRow w.heap.size 5 1 (.slice none 0 0) 0 [] := World.ownsRow_nil _ _ _ _
  clear hn hr
  go_enter Try.func28, Try.ntmps28
  go_wp2_with fail
  go_loopw [3, 4] (fun v i wr => ∃ (k m : Nat) (A : Option Addr) (ca : Nat), v = .slice A m ca ∧ i = .int .i64 (k : Nat) ∧ k ≤ n ∧ Hid ((jo (ls.take k)).length = m) ∧ wr.ownsRow w.heap.size 5 1 (.slice A m ca) m (Lib.byteCells (jo (ls.take k))) ∧ Below w.heap.size w wr) (fun _ i _ => n - (intOf i).toNat)
  case atStart => exact ⟨0, 0, none, 0, rfl, rfl, Nat.zero_le _, Lib.hid rfl, hR0, Below.refl _ _⟩
  case round =>
    clear hR0
    obtain ⟨k, m, A, ca, rfl, rfl, hk, HM, own, bw⟩ := hrel
    by_cases hlt : k < n
    · have hltz : (k : Int) < (n : Int) := by omega
      have hkl : k < ls.length := by rw [un HN]; exact hlt
      have hJ := h.below hg bw
      have hc := hJ.at_ k hkl
      have hbs := hJ.bs k hkl
      have hst := jo_step hkl
      have hle := jo_le ls (k + 1)
      obtain ⟨⟨Ax, cx, lx⟩, hx⟩ : ∃ x, ls[k] = x := ⟨_, rfl⟩
      rw [hx] at hc hbs hst
      dsimp only at hc hbs hst
      obtain ⟨q, hq⟩ : ∃ q, lx.length = q := ⟨_, rfl⟩
      have hml : m + q ≤ 1000000000 := by
        rw [hst, HR.out, List.length_append, HM.out, hq] at hle
        omega
      unfold Bs at hbs
      rw [hq] at hc hbs
      have y0 : (0 : Int) ≤ (k : Int) := by omega
      have y1 : ((k : Int)).toNat = k := by omega
      have hp : (⟨g, 0, none⟩ : Addr).add k = ⟨g, k, none⟩ := by rw [Addr.add_lit, Nat.zero_add]
      have hsz := bw.size
      have HST := Lib.hid hst
      have HQ := Lib.hid hq
      clear hx hst hle hJ hq h
      go_wp2_with (at_builtin; refine wpList_append_rd _ rfl (.tmp 11) (.tmp 15) 25 rfl w.heap.size 5 i0 _ 1 1 Try.underlying25 hi hz0 hz1 hz2 rfl (by decide) _ m (Lib.byteCells (jo (ls.take k))) rfl own Ax q cx (Lib.byteCells lx) rfl hbs (bc_one lx) ?d1 ?d2 ?d3 ?_)
      case d1 => unfold maxLen; omega
      case d2 => omega
      case d3 => exact hsz
      intro A6 c6 w6 own6 hg6
      have bw6 : Below w.heap.size w w6 := bw.grown hg6 hsz (fun k hk => (own.lt k hk).1)
      rw [← bc_app, ← HST.out] at own6
      have hm6 : (jo (ls.take (k + 1))).length = m + q := by rw [HST.out, List.length_append, HM.out, HQ.out]
      have HM6 := Lib.hid hm6
      clear hg6 own hbs hc hm6
      go_wp2
      go_roundw
      case rel => exact ⟨k + 1, m + q, A6, c6, rfl, by go_num, by omega, HM6, own6, bw6⟩
      case measure => first | go_num | (simp [intOf]; omega)
    · have hltz : ¬ ((k : Int) < (n : Int)) := by omega
      have hkn : k = n := by omega
      subst hkn
      have e : jo (ls.take k) = r := by rw [List.take_of_length_le (by rw [un HN]; exact Nat.le_refl _)]; exact HR.out
      rw [e] at own
      have hm : r.length = m := by rw [← e]; exact HM.out
      go_wp2
      go_ret
      exact ⟨A, ca, by rw [hm]; rfl, by rw [hm]; exact own, bw⟩

/-! ### Texts -/
/-- a row of texts that the call has made, and another beside it -/
structure TR (w : World) (T : List ByteArray) (A : Option Addr) (m c : Nat) (wr : World) : Prop where
  row : wr.ownsRow w.heap.size 9 1 (.slice A m c) m (sc T)
  len : T.length = m
  bel : Below w.heap.size w wr
theorem sc_lit2 (w : World) (e : TypeId) (a b : ByteArray) : (w.alloc (.cells #[.string a, .string b] e)).ownsRow w.heap.size e 1 (.slice (some ⟨w.heap.size, 0, none⟩) 2 2) 2 (sc [a, b]) :=
  ⟨by simp [sc], .inr ⟨w.heap.size, 2, #[.string a, .string b], rfl, Nat.le_refl _, heap_alloc_new w _, Nat.le_refl _, by unfold maxLen; omega, by simp, by simp [sc]⟩⟩

set_option maxRecDepth 20000 in
set_option maxHeartbeats 4000000 in
theorem texts_at (w : World) (A : Option Addr) (c n : Nat) (L : List Spn) (h : Sps w A c L) (hn : L.length = n) (hm : n ≤ 1100) (h40 : ∀ x ∈ L, x.l.length ≤ 40) (hz : ∀ x ∈ pns L, ∀ s ∈ tex x, s.size ≤ 65536) :
    Calls Try.prog 27 #[.slice A n c] w fun e w' => ∃ A' c', e = .returned (.slice A' (texts (pns L)).length c') ∧ w'.ownsRow w.heap.size 9 1 (.slice A' (texts (pns L)).length c') (texts (pns L)).length (sc (texts (pns L))) ∧ Below w.heap.size w w' := by
  obtain ⟨i0, hi, hz0, hz1, hz2⟩ := info_parts text_info
  have HN := Lib.hid hn
  have hpn : (pns L).length = n := by rw [pns_len, hn]
  have HP := Lib.hid hpn
  have htl := texts_len (pns L) 40 (fun x hx => by obtain ⟨y, hy, rfl⟩ := List.mem_map.1 hx; exact h40 y hy)
  rw [hpn] at htl
  have htl2 : (texts (pns L)).length ≤ 46200 := by have : n * (40 + 2) ≤ 1100 * (40 + 2) := Nat.mul_le_mul_right _ hm; omega
  have hR0 : TR w (texts ((pns L).take 0)) none 0 0 w := ⟨World.ownsRow_nil _ _ _ _, rfl, Below.refl _ _⟩
  clear hn hpn htl
  go_enter Try.func27, Try.ntmps27
  go_wp2_with fail
  go_loopw [3, 4] (fun v i wr => ∃ (k m : Nat) (A2 : Option Addr) (c2 : Nat), v = .slice A2 m c2 ∧ i = .int .i64 (k : Nat) ∧ k ≤ n ∧ TR w (texts ((pns L).take k)) A2 m c2 wr) (fun _ i _ => n - (intOf i).toNat)
  case atStart => exact ⟨0, 0, none, 0, rfl, rfl, Nat.zero_le _, hR0⟩
  case round =>
    clear hR0
    obtain ⟨k, m, A2, c2, rfl, rfl, hk, R⟩ := hrel
    by_cases hlt : k < n
    · have hltz : (k : Int) < (n : Int) := by omega
      have hkl : k < L.length := by rw [un HN]; exact hlt
      have hkp : k < (pns L).length := by rw [un HP]; exact hlt
      have hbw := h.below R.bel
      obtain ⟨ad, p, rfl, hp, F⟩ := hbw.get hkl
      have hA := hbw.ats _ (List.getElem_mem hkl)
      have h4 := h40 _ (List.getElem_mem hkl)
      have hx : (pns L)[k] = (L[k].s, L[k].l) := pns_get L hkl
      have hzk := hz _ (List.getElem_mem hkp)
      have hst := texts_take k hkp
      have hle := texts_le (pns L) (k + 1)
      rw [hx] at hzk hst
      obtain ⟨⟨s, A1, c1, l⟩, hL⟩ : ∃ x, L[k] = x := ⟨_, rfl⟩
      rw [hL] at F hA h4 hzk hst
      dsimp only at hA h4 hzk hst
      have e3 := F.c3
      have e4 := F.c4
      have e9 := F.c9
      dsimp only at e3 e4 e9
      obtain ⟨q, hq⟩ : ∃ q, l.length = q := ⟨_, rfl⟩
      rw [hq] at e9 h4
      have hpl := World.block_lt_of_cell? wr ⟨p.block, p.off + 3, none⟩ e3
      have HQ := Lib.hid hq
      have HST := Lib.hid hst
      have HR := Lib.hid R
      have HA := Lib.hid hA
      have HZ := Lib.hid hzk
      have y0 : (0 : Int) ≤ (k : Int) := by omega
      have y1 : ((k : Int)).toNat = k := by omega
      have d3 : wr.drew.cell? ⟨p.block, p.off + 3, none⟩ = some (.string s.sv) := e3
      have d4 : wr.drew.cell? ⟨p.block, p.off + 4, none⟩ = some (.string s.nm) := e4
      clear F hA hL hq hst R hbw hx hzk
      go_wp2_with fail
      go_region_held3 (fun w' => w'.cell? ⟨p.block, p.off + 3, none⟩ = some (.string s.sv) ∧ w'.cell? ⟨p.block, p.off + 4, none⟩ = some (.string s.nm))
        (go_keep)
        (fail)
      rename_i hHeld
      clear hHeld d3 d4
      have hlit := sc_lit2 wr 9 s.sv s.nm
      have bl : Below wr.heap.size wr (wr.alloc (.cells #[.string s.sv, .string s.nm] 9)).drew := bd ((Below.refl _ _).alloc (Nat.le_refl _) _ : Below wr.drew.heap.size wr.drew (wr.drew.alloc _))
      have hlit' : (wr.alloc (.cells #[.string s.sv, .string s.nm] 9)).drew.ownsRow wr.heap.size 9 1 (.slice (some ⟨wr.heap.size, 0, none⟩) 2 2) 2 (sc [s.sv, s.nm]) := hlit
      clear hlit
      generalize (wr.alloc (.cells #[.string s.sv, .string s.nm] 9)).drew = w4 at bl hlit' ⊢
      have hAb := fun (W : World) (hW : Below wr.heap.size wr W) => HA.out.below hW
      have hC9 := fun (W : World) (hW : Below wr.heap.size wr W) => (hW.cell (p := ⟨p.block, p.off + 9, none⟩) hpl).trans e9
      have HAb := Lib.hid hAb
      have HC9 := Lib.hid hC9
      clear e3 e4 e9 hAb hC9
      go_wp2_with fail
      go_loopw [5, 6] (fun v i w5 => ∃ (j : Nat) (Aq : Option Addr) (cq : Nat), v = .slice Aq (2 + j) cq ∧ i = .int .i64 (j : Nat) ∧ j ≤ q ∧ w5.ownsRow wr.heap.size 9 1 (.slice Aq (2 + j) cq) (2 + j) (sc (tex (s, l.take j))) ∧ Below wr.heap.size wr w5) (fun _ i _ => q - (intOf i).toNat)
      case atStart => exact ⟨0, _, 2, rfl, rfl, Nat.zero_le _, by simpa [tex] using hlit', bl⟩
      case round =>
        clear hlit' bl
        obtain ⟨j, Aq, cq, rfl, rfl, hj, own5, b5⟩ := hrel
        have x9 := HC9.out _ b5
        by_cases hjq : j < q
        · have hjz : (j : Int) < (q : Int) := by omega
          have hjl : j < l.length := by rw [un HQ]; exact hjq
          obtain ⟨ad1, p1, rfl, hp1, F⟩ := (HAb.out _ b5).get hjl
          have f0 := F.c0
          have htk : sc (tex (s, l.take (j + 1))) = sc (tex (s, l.take j)) ++ [.string l[j].key] := by
            have e : l.take (j + 1) = l.take j ++ [l[j]] := (List.take_append_getElem hjl).symm
            rw [e]
            unfold tex sc
            simp only [List.map_append, List.map_cons, List.map_nil, List.cons_append]
          clear F
          obtain ⟨z, hzz⟩ : ∃ z, l[j] = z := ⟨_, rfl⟩
          rw [hzz] at f0 htk
          have u0 : (0 : Int) ≤ (j : Int) := by omega
          have u1 : ((j : Int)).toNat = j := by omega
          have HTK := Lib.hid htk
          have hsz5 := b5.size
          clear hzz htk
          go_wp2_with (at_builtin; refine wpList_append_one _ rfl (.tmp 35) (.tmp 45) 69 rfl _ 9 i0 _ 16 Try.underlying69 hi hz0 hz1 hz2 rfl _ (2 + j) (sc (tex (s, l.take j))) rfl own5 (.string z.key) rfl rfl ?d1 ?d2 ?d3 ?_)
          case d1 => unfold maxLen; omega
          case d2 => omega
          case d3 => exact hsz5
          intro A6 c6 w6 own6 b6
          have bw6 := b5.trans b6
          rw [← HTK.out] at own6
          clear own5 b5 b6 x9 f0
          go_wp2
          go_roundw
          case rel => exact ⟨j + 1, A6, c6, rfl, by go_num, by omega, own6, bw6⟩
          case measure => first | go_num | (simp [intOf]; omega)
        · have hjz : ¬ ((j : Int) < (q : Int)) := by omega
          have hjq' : j = q := by omega
          subst hjq'
          rw [List.take_of_length_le (by rw [un HQ]; exact Nat.le_refl _)] at own5
          have hTl : (tex (s, l)).length = 2 + j := by simp only [tex, List.length_cons, List.length_map, HQ.out]; omega
          have hSs : Ss wr Aq cq (tex (s, l)) := Ss.own (by rw [hTl]; exact own5)
          obtain ⟨gq, uq, hAq, hgq, hgql, _, _, _⟩ := own_first own5 (by omega)
          have hRow5 := own_below HR.out.row b5
          have hA2lt : ∀ a, A2 = some a → a.block < gq := fun a e => by
            have := (HR.out.row.lt a.block (by rw [e]; rfl)).2
            omega
          have hRR : TR w (adds (texts ((pns L).take k)) ((tex (s, l)).take 0)) A2 m c2 wr := ⟨hRow5, HR.out.len, HR.out.bel.trans (b5.mono HR.out.bel.size)⟩
          have HTl := Lib.hid hTl
          clear own5 hRow5 hTl b5
          go_wp2_with fail
          go_loopw [3, 7] (fun v i w7 => ∃ (i2 m2 : Nat) (A5 : Option Addr) (c5 : Nat), v = .slice A5 m2 c5 ∧ i = .int .i64 (i2 : Nat) ∧ i2 ≤ 2 + j ∧ TR w (adds (texts ((pns L).take k)) ((tex (s, l)).take i2)) A5 m2 c5 w7 ∧ Ss w7 Aq cq (tex (s, l)) ∧ gq < w7.heap.size ∧ (∀ a, A5 = some a → a.block ≠ gq)) (fun _ i _ => 2 + j - (intOf i).toNat)
          case atStart => exact ⟨0, m, A2, c2, rfl, rfl, Nat.zero_le _, hRR, hSs, hgql, fun a e => by have := hA2lt a e; omega⟩
          case round =>
            clear hRR hSs hgql
            obtain ⟨i2, m2, A5, c5, rfl, rfl, hi2, R2, hSs, hgql, hne⟩ := hrel
            by_cases hil : i2 < 2 + j
            · have hilz : (i2 : Int) < 2 + (j : Int) := by omega
              have hil' : i2 < (tex (s, l)).length := by rw [HTl.out]; exact hil
              obtain ⟨adq, hadq, hcq⟩ := hSs.get hil'
              have hzs := HZ.out _ (List.getElem_mem hil')
              have hstep := adds_step (ss := tex (s, l)) (texts ((pns L).take k)) hil'
              have hlt3 := adds_take_le (texts ((pns L).take k)) (tex (s, l)) (i2 + 1)
              rw [← HST.out] at hlt3
              obtain ⟨y, hy⟩ : ∃ y, (tex (s, l))[i2] = y := ⟨_, rfl⟩
              rw [hy] at hcq hzs hstep
              have hfd := find_any A5 c5 m2 (adds (texts ((pns L).take k)) ((tex (s, l)).take i2)) y wr (Ss.own (by rw [R2.len]; exact R2.row)) R2.len
              have v0 : (0 : Int) ≤ (i2 : Int) := by omega
              have v1 : ((i2 : Int)).toNat = i2 := by omega
              rw [hAq] at hadq
              injection hadq with hadq
              subst hadq
              have hpq : (⟨gq, 0, none⟩ : Addr).add i2 = ⟨gq, i2, none⟩ := by rw [Addr.add_lit, Nat.zero_add]
              rw [hpq] at hcq
              have HR2 := Lib.hid R2
              have HSS := Lib.hid hSs
              have HSTP := Lib.hid hstep
              have hsz := R2.bel.size
              have hrow2 := R2.row
              have hm2b : m2 ≤ 46200 := by
                have h1 := R2.len
                have h2 := adds_take_le (texts ((pns L).take k)) (tex (s, l)) i2
                rw [← HST.out] at h2
                omega
              clear R2 hSs hy hstep hlt3
              subst hAq
              have hil2 : (i2 : Int) < ((2 + j : Nat) : Int) := by omega
              go_wp2_with fail
              refine hfd.mono ?_
              rintro e w8 ⟨z, rfl, rfl, z1, z2⟩
              clear hfd
              by_cases hmem : y ∈ adds (texts ((pns L).take k)) ((tex (s, l)).take i2)
              · have hzz : ¬ (z < 0) := by rw [z1 hmem]; omega
                have hR3 : TR w (adds (texts ((pns L).take k)) ((tex (s, l)).take (i2 + 1))) A5 m2 c5 wr := by
                  rw [HSTP.out, add_in hmem]
                  exact HR2.out
                clear z1 z2 HR2 HSTP
                go_wp2
                go_roundw
                case rel => exact ⟨i2 + 1, m2, A5, c5, rfl, by go_num, by omega, hR3, HSS.out, hgql, hne⟩
                case measure => first | go_num | (simp [intOf]; omega)
              · have hzz : z < 0 := by rw [z2 hmem]; omega
                clear z1 z2
                go_wp2_with (at_builtin; refine wpList_append_one_at wr rfl (.tmp 60) (.tmp 65) 69 rfl w.heap.size 9 i0 _ 16 Try.underlying69 hi hz0 hz1 hz2 rfl (.slice A5 m2 c5) m2 _ rfl hrow2 (.string y) _ rfl rfl rfl ?d4 ?d5 ?d6 ?_)
                case d4 => unfold maxLen; omega
                case d5 => omega
                case d6 => exact hsz
                intro A9 c9 w9 own9 hg9 hat9
                have hsz9 : (wr.alloc (.cells #[.string y] 9)).heap.size = wr.heap.size + 1 := by simp
                have hR3 : TR w (adds (texts ((pns L).take k)) ((tex (s, l)).take (i2 + 1))) A9 (m2 + 1) c9 w9 := by
                  rw [HSTP.out, add_not hmem]
                  refine ⟨by rw [sc_app]; exact own9, by rw [List.length_append, HR2.out.len]; rfl, ?_⟩
                  exact (HR2.out.bel.alloc HR2.out.bel.size _).grown hg9 (by rw [hsz9]; omega) (fun q hq => (hrow2.lt q hq).1)
                have hrne : ∀ q, (Value.slice A5 m2 c5).ownBlock = some q → q ≠ gq := fun q hq => by
                  cases A5 with
                  | none => cases hq
                  | some a =>
                    injection hq with hq
                    subst hq
                    exact hne a rfl
                have hSs9 : Ss w9 (some ⟨gq, 0, none⟩) cq (tex (s, l)) := Rd.grown (Rd.alloc HSS.out _) hg9 (fun a e _ hq => by injection e with e; subst e; exact hrne _ hq rfl)
                have hgq9 : gq < w9.heap.size := by have := hg9.size; rw [hsz9] at this; omega
                have hne9 : ∀ a, A9 = some a → a.block ≠ gq := fun a e hc => by
                  subst e
                  rcases hat9 with h1 | h1
                  · exact hrne _ h1.symm hc
                  · injection h1 with h1
                    first
                      | omega
                      | (rw [hsz9] at h1; omega)
                clear own9 hg9 hat9 HR2 HSTP HSS hrow2 hcq hsz9
                go_wp2
                go_roundw
                case rel => exact ⟨i2 + 1, m2 + 1, A9, c9, rfl, by go_num, by omega, hR3, hSs9, hgq9, hne9⟩
                case measure => first | go_num | (simp [intOf]; omega)
            · have hilz : ¬ ((i2 : Int) < ((2 + j : Nat) : Int)) := by omega
              have hi2' : i2 = 2 + j := by omega
              have hR4 : TR w (texts ((pns L).take (k + 1))) A5 m2 c5 wr := by
                have := R2
                have e : (tex (s, l)).take i2 = tex (s, l) := List.take_of_length_le (by rw [HTl.out]; omega)
                rw [e, ← HST.out] at this
                exact this
              clear R2 hSs
              go_wp2
              go_roundw
              case rel => exact ⟨k + 1, m2, A5, c5, rfl, by go_num, by omega, hR4⟩
              case measure => first | go_num | (simp [intOf]; omega)
    · have hltz : ¬ ((k : Int) < (n : Int)) := by omega
      have hkn : k = n := by omega
      subst hkn
      have e : (pns L).take k = pns L := List.take_of_length_le (by rw [un HP]; exact Nat.le_refl _)
      have hrow := R.row
      have hlen := R.len
      have bel := R.bel
      rw [e] at hrow hlen
      have HLn := Lib.hid hlen
      clear R hlen
      go_wp2
      go_ret
      exact ⟨A2, c2, by rw [HLn.out]; rfl, by rw [HLn.out]; exact hrow, bel⟩
end Go.Proofs.Ytndcdidepdcmnaa.B07
