/-
  batch.Put: the bytes of spans.
-/
import Derived.Test.YtndcdidepdcmnaaKB7Sps
import Derived.Deep.RegionHeld3
set_option linter.unusedSimpArgs false
set_option linter.unusedVariables false
namespace Go.Proofs.Ytndcdidepdcmnaa.B07
open Go.RowKit Go.Lib Go.Maps Go.Proofs.Ytndcdidepdcmnaa.Wd Go.Proofs.Ytndcdidepdcmnaa.V01 Go.Proofs.Ytndcdidepdcmnaa.V04 Go.Proofs.Ytndcdidepdcmnaa.P06
open Go.Proofs.Ytndcdidepdcmnaa.S05 (Fr Sub Tab ix tb bytes_tab new_any)

theorem body_len {L : List Pn} {n k : Nat} (h : ∀ x ∈ L.take k, x.2.length ≤ 16) : (body L n k).length ≤ 10 + k * 80260 := by
  have hv := vby_le n
  have : ∀ (t : List ByteArray) (M : List Pn), (∀ x ∈ M, x.2.length ≤ 16) → (M.flatMap (spB t)).length ≤ M.length * 80260 := fun t M hM => by
    induction M with
    | nil => simp
    | cons x M ih =>
      have h1 := spB_len t x
      have h2 := hM x (by simp)
      have h3 := ih fun y hy => hM y (by simp [hy])
      simp only [List.flatMap_cons, List.length_append, List.length_cons, Nat.add_mul]
      omega
  have h1 := this (texts (L.take k)) (L.take k) h
  have h2 : (L.take k).length * 80260 ≤ k * 80260 := Nat.mul_le_mul_right _ (by simp; omega)
  unfold body
  rw [List.length_append]
  omega
theorem ck_len {x : Pn} (h : ck x = 0) : x.2.length ≤ 16 := by
  have := (ck_ok h).2
  simp only [lng, Bool.or_eq_false_iff, decide_eq_false_iff_not] at this
  omega
theorem ck_bad {x : Pn} (h : bad x = true) : ck x = 1 := by simp [ck, h]
theorem ck_lng {x : Pn} (h : bad x = false) : ck x = if lng x then 2 else 0 := by simp [ck, h]
theorem lng_of {x : Pn} (h : 16 < x.2.length) : lng x = true := by simp [lng, h]
/-- sizes that the walk bears -/
structure SmP (x : Pn) : Prop where
  sv : x.1.sv.size ≤ 65536
  nm : x.1.nm.size ≤ 65536
  key : ∀ a ∈ x.2, a.key.size ≤ 65536
/-- what Put answers, in memory -/
def PutOut (w : World) (r : List UInt8 × Nat) (e : Ending) (w' : World) : Prop :=
  ((r.2 ≠ 0 ∧ e = .returned (.tuple #[.slice none 0 0, .int .i64 r.2])) ∨
   (r.2 = 0 ∧ ∃ A c, e = .returned (.tuple #[.slice A r.1.length c, .int .i64 0]) ∧ w'.ownsRow w.heap.size 5 1 (.slice A r.1.length c) r.1.length (Lib.byteCells r.1))) ∧ Below w.heap.size w w'

theorem wx_new {w w1 : World} (hT : Tab w1 w.heap.size [] [w.heap.size]) (hb : Below w.heap.size w w1) (t : TypeId) (ht : t = 62) :
    Wx (w1.alloc (.cells #[.pointer (some ⟨w.heap.size, 0, none⟩), .slice none 0 0] t)) w1.heap.size [] [] [w1.heap.size, w.heap.size] := by
  subst ht
  have hlt := hT.lt w.heap.size (by simp)
  refine ⟨w.heap.size, [w.heap.size], none, 0, ⟨Bk.new w1 _ _, hT.below (below_box _ _ (Nat.le_refl _)), World.ownsRow_nil _ _ _ _, by simp; omega, fun a e => (by cases e)⟩, rfl⟩

set_option maxRecDepth 20000 in
theorem put_many (w : World) (A : Option Addr) (c n : Nat) (hn : 1024 < n) : Calls Try.prog 9 #[.slice A n c] w (PutOut w ([], 2)) := by
  have hz : (1024 : Int) < (n : Int) := by omega
  go_enter Try.func9, Try.ntmps9
  go_wp2
  go_ret2
  exact ⟨.inl ⟨by simp, rfl⟩, Below.refl _ _⟩

/-- where the loop is -/
structure PR (w : World) (g : Nat) (L : List Spn) (n k : Nat) (O : List Nat) (wr : World) : Prop where
  W : Wx wr g (texts ((pns L).take k)) (body (pns L) n k) O
  up : ∀ y ∈ O, w.heap.size ≤ y
  bel : Below w.heap.size w wr
  ok : ∀ x ∈ (pns L).take k, ck x = 0

set_option maxRecDepth 20000 in
set_option maxHeartbeats 4000000 in
theorem put_any (w : World) (A : Option Addr) (c n : Nat) (L : List Spn) (h : Sps w A c L) (hn : L.length = n) (hok : ∀ x ∈ pns L, OkP x) (hsm : ∀ x ∈ pns L, SmP x) (ht : (texts (pns L)).length ≤ 4096) (hm : n ≤ 1024) :
    Calls Try.prog 9 #[.slice A n c] w (PutOut w (putF (pns L))) := by
  have hmz : ¬ ((1024 : Int) < (n : Int)) := by omega
  have hpn : (pns L).length = n := by rw [pns_len, hn]
  have HN := Lib.hid hn
  have HP := Lib.hid hpn
  clear hn hpn
  go_enter Try.func9, Try.ntmps9
  go_wp2_with fail
  refine (new_any w).mono ?_
  rintro e w1 ⟨rfl, hT1, hb1⟩
  have W2 := wx_new hT1 hb1 62 rfl
  have b2 := hb1.alloc hb1.size (.cells #[.pointer (some ⟨w.heap.size, 0, none⟩), .slice none 0 0] 62)
  have hup : ∀ y ∈ [w1.heap.size, w.heap.size], w.heap.size ≤ y := fun y hy => by
    have := hb1.size
    simp at hy
    rcases hy with rfl | rfl <;> omega
  clear hT1
  go_wp2_with fail
  generalize w1.alloc (.cells #[.pointer (some ⟨w.heap.size, 0, none⟩), .slice none 0 0] 62) = w2 at W2 b2 ⊢
  generalize w1.heap.size = g at W2 hup ⊢
  refine (number_any w2 g [] [] (vby n) _ (n : Int) n W2 rfl (by omega) (by simp) rfl).mono ?_
  rintro e w3 ⟨rfl, O3, W3, f3, s3⟩
  have b3 := b2.trans (f3.below b2.size hup)
  have hR0 : PR w g L n 0 O3 w3 := ⟨by simpa [texts, adds, body_zero] using W3, s3.above b2.size hup, b3, by simp⟩
  clear W2 W3 f3 s3 b2 b3 hup hb1
  go_wp2_with fail
  go_loopw [21] (fun v wr => ∃ (k : Nat) (O : List Nat), v = .int .i64 k ∧ k ≤ n ∧ PR w g L n k O wr) (fun v _ => n - (intOf v).toNat)
  case atStart => exact ⟨0, O3, rfl, Nat.zero_le _, hR0⟩
  case round =>
    clear hR0
    obtain ⟨k, O, rfl, hk, R⟩ := hrel
    by_cases hlt : k < n
    · have hltz : (k : Int) < (n : Int) := by omega
      have hkl : k < L.length := by rw [un HN]; exact hlt
      have hkp : k < (pns L).length := by rw [un HP]; exact hlt
      obtain ⟨ad, p, rfl, hp, F⟩ := (h.below R.bel).get hkl
      have hA := (h.below R.bel).ats _ (List.getElem_mem hkl)
      have hA0 := h.ats _ (List.getElem_mem hkl)
      have hx : (pns L)[k] = (L[k].s, L[k].l) := pns_get L hkl
      have hmem : (pns L)[k] ∈ pns L := List.getElem_mem hkp
      have hokx := hok _ hmem
      have hsmx := hsm _ hmem
      have hstep := texts_take k hkp
      have hbody := body_step (n := n) hkp
      have hcka := fun he => cks_at R.ok hkp he
      have hbl := body_len (n := n) fun x hx => ck_len (R.ok x hx)
      have htl : (texts ((pns L).take (k + 1))).length ≤ 4096 := Nat.le_trans (texts_le (pns L) (k + 1)) ht
      have hokn : ck (pns L)[k] = 0 → ∀ x ∈ (pns L).take (k + 1), ck x = 0 := fun hc x hx => by
        rw [← List.take_append_getElem hkp] at hx
        rcases List.mem_append.1 hx with hx | hx
        · exact R.ok x hx
        · simp at hx; rw [hx]; exact hc
      rw [hx] at hokx hsmx hstep hbody hcka hokn
      obtain ⟨⟨s, A1, c1, l⟩, hL⟩ : ∃ x, L[k] = x := ⟨_, rfl⟩
      rw [hL] at F hA hA0 hokx hsmx hstep hbody hcka hokn
      dsimp only at hA hA0 hokx hsmx hstep hbody hcka hokn
      have e0 := F.c0
      have e1 := F.c1
      have e2 := F.c2
      have e3 := F.c3
      have e4 := F.c4
      have e5 := F.c5
      have e6 := F.c6
      have e7 := F.c7
      have e8 := F.c8
      have e9 := F.c9
      dsimp only at e0 e1 e2 e3 e4 e5 e6 e7 e8 e9
      obtain ⟨m, hml⟩ : ∃ m, l.length = m := ⟨_, rfl⟩
      rw [hml] at e9
      have hmax : m ≤ 9223372036854775807 := by
        have h1 := hA.max
        have h2 := hA.cap
        unfold maxLen at h1
        omega
      have hbad : bad (s, l) = true ∨ bad (s, l) = false := by cases bad (s, l) <;> simp
      have hwl := R.W.lt
      have hAlt := B07.Ats.lt hA0
      have bx := below_box wr (.cells (spc s (.slice A1 m c1)) 45) (Nat.le_refl _)
      have hA2 := hA.below bx
      have hW2 := R.W.below bx
      have hK2 : Bk (wr.alloc (.cells (spc s (.slice A1 m c1)) 45)) wr.heap.size 45 (spc s (.slice A1 m c1)) := Bk.new wr _ _
      have hqO : wr.heap.size ∉ O := fun hm => by have := hwl _ hm; omega
      have bel2 := R.bel.trans (bx.mono R.bel.size)
      have hup := R.up
      obtain ⟨cd, hcd⟩ : ∃ cd, cd = if bad (s, l) then 1 else if 16 < m then 2 else 0 := ⟨_, rfl⟩
      have HBd := Lib.hid hbody
      have HSt := Lib.hid hstep
      have HCk := Lib.hid hcka
      have HOk := Lib.hid hokn
      have HRo := Lib.hid R.ok
      have Hmax := Lib.hid hmax
      clear R F hL hA hA0 hx hmem hbody hstep hcka hokn hmax
      go_wp2_with fail
      change Calls _ _ _ (wr.alloc (.cells (spc s (.slice A1 m c1)) 45)) _
      generalize wr.alloc (.cells (spc s (.slice A1 m c1)) 45) = wa at hA2 hW2 hK2 bel2 ⊢
      generalize wr.heap.size = q at hK2 hqO ⊢
      clear bx hwl e0 e1 e2 e3 e4 e5 e6 e7 e8 e9
      refine (check_any s A1 c1 m l cd wa hA2 hml Hmax.out hcd).mono ?_
      rintro e w4 ⟨rfl, b4⟩
      have hA4 := hA2.below b4
      have hW4 := hW2.below b4
      have hK4 := hK2.below b4
      have bel4 := bel2.trans (b4.mono bel2.size)
      clear b4 hA2 hW2 hK2 bel2
      by_cases hcz : cd = 0
      · have hbf : bad (s, l) = false := by
          rcases hbad with hb | hb
          · rw [hcd, if_pos hb] at hcz; cases hcz
          · exact hb
        have hm16 : m ≤ 16 := by
          rw [hcd, hbf] at hcz
          by_cases h16 : 16 < m
          · simp [h16] at hcz
          · omega
        have y0 : w4.cell? ⟨q, 0, none⟩ = some (.int .u64 s.T) := hK4.cell 0
        have y1 : w4.cell? ⟨q, 1, none⟩ = some (.int .u64 s.I) := hK4.cell 1
        have y2 : w4.cell? ⟨q, 2, none⟩ = some (.int .u64 s.P) := hK4.cell 2
        have y3 : w4.cell? ⟨q, 3, none⟩ = some (.string s.sv) := hK4.cell 3
        have y4 : w4.cell? ⟨q, 4, none⟩ = some (.string s.nm) := hK4.cell 4
        have y5 : w4.cell? ⟨q, 5, none⟩ = some (.int .i64 s.kd) := hK4.cell 5
        have y6 : w4.cell? ⟨q, 6, none⟩ = some (.int .i64 s.st) := hK4.cell 6
        have y7 : w4.cell? ⟨q, 7, none⟩ = some (.int .u64 s.t0) := hK4.cell 7
        have y8 : w4.cell? ⟨q, 8, none⟩ = some (.int .u64 s.t1) := hK4.cell 8
        have y9 : w4.cell? ⟨q, 9, none⟩ = some (.slice A1 m c1) := hK4.cell 9
        obtain ⟨c2, hc2⟩ : ∃ c2, c2 = if lng (s, l) then 2 else 0 := ⟨_, rfl⟩
        have hsp := span_any w4 g (texts ((pns L).take k)) (body (pns L) n k) O s A1 c1 m l c2 hW4 hA4 hml (fun a e hl hm => by have := hAlt a e hl; have := hup _ hm; omega) (by rw [← HSt.out]; exact htl) hokx.1 hokx.2 (by omega) hm16 hbf hsmx.sv hsmx.nm hsmx.key hc2
        have hck : ck (s, l) = c2 := by rw [ck_lng hbf, hc2]
        have HK := Lib.hid hck
        have HC2 := Lib.hid hc2
        clear hcd hbad hbf hck hc2 hW4 hA4 hK4 hml hsmx hokx hAlt
        subst hcz
        go_wp2_with fail
        clear y0 y1 y2 y3 y4 y5 y6 y7 y8 y9
        refine hsp.mono ?_
        rintro e w5 ⟨rfl, f5, k5⟩
        have bel5 := bel4.trans (f5.below bel4.size hup)
        by_cases hz2 : c2 = 0
        · obtain ⟨O5, W5, f5', s5⟩ := k5 hz2
          have hR : PR w g L n (k + 1) O5 w5 := ⟨by rw [HSt.out, HBd.out]; exact W5, s5.above bel4.size hup, bel5, HOk.out (by rw [HK.out, hz2])⟩
          clear k5 f5 W5 f5' s5 hsp HK HC2
          subst hz2
          go_wp2
          go_roundw
          case rel => exact ⟨k + 1, O5, by go_num, by omega, hR⟩
          case measure => first | go_num | (simp [intOf]; omega)
        · have hc2' : c2 = 2 := by
            rw [HC2.out]
            rw [HC2.out] at hz2
            split at hz2 <;> simp_all
          have hput : putF (pns L) = ([], 2) := by
            unfold putF
            have : cks (pns L) = 2 := by rw [HCk.out (by rw [HK.out]; exact hz2), HK.out, hc2']
            rw [this, HP.out, if_neg (by omega), if_pos (by decide)]
          have HPut := Lib.hid hput
          clear k5 f5 hsp HK HC2 hput hz2
          subst hc2'
          go_wp2
          go_ret2
          rw [HPut.out]
          exact ⟨.inl ⟨by simp, rfl⟩, bel5⟩
      · have hcc : cd = ck (s, l) := by
          rcases hbad with hb | hb
          · rw [hcd, if_pos hb, ck_bad hb]
          · rw [hcd, hb, ck_lng hb]
            rw [hcd, hb] at hcz
            by_cases h16 : 16 < m
            · rw [lng_of (x := (s, l)) (by show 16 < l.length; omega)]; simp [h16]
            · simp [h16] at hcz
        have hput : putF (pns L) = ([], cd) := by
          unfold putF
          have hcs : cks (pns L) = cd := by rw [HCk.out (by rw [← hcc]; exact hcz), hcc]
          rw [hcs, HP.out, if_neg (by omega), if_pos hcz]
        have hci : ¬ ((cd : Int) = 0) := by omega
        have HPut := Lib.hid hput
        clear hcd hbad hcc hput hW4 hA4 hK4 hml hsmx hokx hAlt
        go_wp2
        go_ret2
        rw [HPut.out]
        exact ⟨.inl ⟨hcz, rfl⟩, bel4⟩
    · have hltz : ¬ ((k : Int) < (n : Int)) := by omega
      have hkn : k = n := by omega
      subst hkn
      have hall : (pns L).take k = pns L := List.take_of_length_le (by rw [HP.out]; exact Nat.le_refl _)
      have hcs : cks (pns L) = 0 := cks_zero.2 fun x hx => R.ok x (by rw [hall]; exact hx)
      have hbl := body_len (n := k) fun x hx => ck_len (R.ok x hx)
      obtain ⟨p, o, A1, c1, W, hO⟩ := R.W
      have k0 : wr.cell? ⟨g, 0, none⟩ = some (.pointer (some ⟨p, 0, none⟩)) := W.box.cell 0
      obtain ⟨B, hB⟩ : ∃ B, body (pns L) k k = B := ⟨_, rfl⟩
      rw [hB] at W hbl
      obtain ⟨m, hm2⟩ : ∃ m, B.length = m := ⟨_, rfl⟩
      have k1 : wr.cell? ⟨g, 1, none⟩ = some (.slice A1 m c1) := by rw [← hm2]; exact W.box.cell 1
      have hrow : wr.ownsRow 0 5 1 (.slice A1 m c1) m (Lib.byteCells B) := by rw [← hm2]; exact W.row
      rw [hall] at W
      obtain ⟨r, hr⟩ : ∃ r, tb (texts (pns L)) = r := ⟨_, rfl⟩
      have hTb := W.tab
      have hrl : r.length ≤ 20000000 := by
        have h1 := S05.tx_len 4096 (texts (pns L)) hTb.size
        have h2 := S05.vby_le (texts (pns L)).length
        have h3 : (texts (pns L)).length * (4096 + 10) ≤ 4096 * (4096 + 10) := Nat.mul_le_mul_right _ ht
        rw [← hr]
        unfold tb
        rw [List.length_append]
        omega
      have hok1 : okB (pns L) = r ++ B := by rw [okB_body, hr, HP.out, hB]
      have bel := R.bel
      have hgl := W.box.lt
      have HM := Lib.hid hm2
      have HO := Lib.hid hok1
      have HCs := Lib.hid hcs
      have hK := W.box
      rw [hm2] at hbl hK
      clear W R h hok hsm hm2 hok1 hcs hB hall hO
      have hltz2 : (k : Int) ≤ (k : Int) := Int.le_refl _
      go_wp2_with fail
      have k0 : wr.drew.cell? ⟨g, 0, none⟩ = some (.pointer (some ⟨p, 0, none⟩)) := k0
      have k1 : wr.drew.cell? ⟨g, 1, none⟩ = some (.slice A1 m c1) := k1
      have hTd : Tab wr.drew p (texts (pns L)) o := hTb.below ⟨rfl, rfl, rfl, Nat.le_refl _, fun _ _ => rfl⟩
      have hrd : wr.drew.ownsRow 0 5 1 (.slice A1 m c1) m (Lib.byteCells B) := hrow
      have q4f := fun (w4 : World) (hb2 : Below wr.drew.heap.size wr.drew w4) => (show w4.cell? ⟨g, 0, none⟩ = some (.pointer (some ⟨p, 0, none⟩)) ∧ w4.cell? ⟨g, 1, none⟩ = some (.slice A1 m c1) from ⟨(hb2.cell (p := ⟨g, 0, none⟩) hgl).trans k0, (hb2.cell (p := ⟨g, 1, none⟩) hgl).trans k1⟩)
      have q5f := fun (w4 : World) (o : Obj) (hb2 : Below wr.drew.heap.size wr.drew w4) => q4f (w4.alloc o) (hb2.alloc hb2.size o)
      have q6f := fun (w4 : World) (o : Obj) (hb2 : Below wr.drew.heap.size wr.drew w4) (w5 : World) (hb3 : Below (w4.alloc o).heap.size (w4.alloc o) w5) => q4f w5 ((hb2.alloc hb2.size o).trans (hb3.mono (hb2.alloc hb2.size o).size))
      have hcon : ∀ (w4 : World) (A2 : Option Addr) (c2 : Nat) (hown2 : w4.ownsRow wr.drew.heap.size 5 1 (.slice A2 r.length c2) r.length (Lib.byteCells r)) (hb2 : Below wr.drew.heap.size wr.drew w4),
          Calls Try.prog 23 #[.slice (some ⟨w4.heap.size, 0, none⟩) 2 2] (w4.alloc (.cells #[.slice A2 r.length c2, .slice A1 m c1] 25)) fun e w' =>
            ∃ A' c', e = .returned (.slice A' (r.length + m) c') ∧ w'.ownsRow (w4.alloc (.cells #[.slice A2 r.length c2, .slice A1 m c1] 25)).heap.size 5 1 (.slice A' (r.length + m) c') (r.length + m) (Lib.byteCells (r ++ B)) ∧ Below (w4.alloc (.cells #[.slice A2 r.length c2, .slice A1 m c1] 25)).heap.size (w4.alloc (.cells #[.slice A2 r.length c2, .slice A1 m c1] 25)) w' := fun w4 A2 c2 hown2 hb2 => by
        have bb := below_box w4 (.cells #[.slice A2 r.length c2, .slice A1 m c1] 25) (Nat.le_refl _)
        have hB1 : Bs w4 A1 c1 B := by
          have := Rd.own (own_below hrd hb2)
          unfold Bs
          rw [HM.out]
          exact this
        exact concat_at A2 A1 c2 c1 r.length m r B w4.heap.size _ (by simp) (by simp) ((Bs.own hown2).below bb) (hB1.below bb) rfl HM.out (by omega) (by omega)
      go_region_held3 (fun w' => w'.cell? ⟨g, 0, none⟩ = some (.pointer (some ⟨p, 0, none⟩)) ∧ w'.cell? ⟨g, 1, none⟩ = some (.slice A1 m c1))
        (first | exact q6 | exact q5 | exact q4 | go_keep)
        (first
          | (go_at_call 24; (with_reducible refine (bytes_tab _ p _ _ r hTd hr).mono ?_); rintro e w4 ⟨A2, c2, rfl, hown2, hb2⟩; have q4 := q4f w4 hb2; have q5 := q5f w4 (.cells #[.slice A2 r.length c2, .slice A1 m c1] 25) hb2)
          | (go_at_call 23; (with_reducible refine (hcon w4 A2 c2 hown2 hb2).mono ?_); rintro e w5 ⟨A3, c3, rfl, hown3, hb3⟩; have q6 := q6f w4 (.cells #[.slice A2 r.length c2, .slice A1 m c1] 25) hb2 w5 hb3))
      have bd2 := bd hb2
      have bel4 := bel.trans (bd2.mono bel.size)
      have bel4' := bel4.alloc bel4.size (.cells #[.slice A2 r.length c2, .slice A1 m c1] 25)
      have bel5 := bel4'.trans (hb3.mono bel4'.size)
      have hown5 := own_base hown3 bel4'.size
      have hlen : (okB (pns L)).length = r.length + m := by rw [HO.out, List.length_append, HM.out]
      have HL := Lib.hid hlen
      have HPk := HP.out
      have hput : putF (pns L) = if 65536 < r.length + m then ([], 2) else (okB (pns L), 0) := by
        unfold putF
        rw [HP.out, if_neg (by omega), HCs.out, if_neg (by simp), hlen]
      have HPu := Lib.hid hput
      clear hput hlen q4 q5 q6 q4f q5f q6f hcon hown3 hown2 hb2 hb3 bd2 bel4 bel4' HPk hTb hTd hrd hrow k0 k1
      obtain ⟨N, hN⟩ : ∃ N, r.length + m = N := ⟨_, rfl⟩
      rw [hN] at hown5 ⊢
      have HNn := Lib.hid hN
      have hNb : N ≤ 200000000 := by omega
      clear hN hrl hbl
      by_cases h65 : 65536 < N
      · have hz : (65536 : Int) < (N : Int) := by omega
        go_wp2
        go_ret2
        rw [HPu.out, HNn.out, if_pos h65]
        exact ⟨.inl ⟨by simp, rfl⟩, bel5⟩
      · have hz : ¬ ((65536 : Int) < (N : Int)) := by omega
        go_wp2
        go_ret2
        rw [HPu.out, HNn.out, if_neg h65]
        refine ⟨.inr ⟨rfl, A3, c3, ?_, ?_⟩, bel5⟩
        · show _ = Ending.returned (.tuple #[.slice A3 (okB (pns L)).length c3, .int .i64 0])
          rw [HL.out, HNn.out]
          rfl
        · show _root_.Go.World.ownsRow _ _ _ _ (.slice A3 (okB (pns L)).length c3) (okB (pns L)).length (Lib.byteCells (okB (pns L)))
          rw [HL.out, HNn.out, HO.out]
          exact hown5
end Go.Proofs.Ytndcdidepdcmnaa.B07
