/-
  The walk of BatchPuts: of any spans the program puts the bytes, or the error, that the document puts.
  The document's Put of layer 7.
  BatchPuts.
-/
import Derived.Test.YtndcdidepdcmnaaKB7LawBack
import Derived.Test.YtndcdidepdcmnaaKB7RefP0
import Derived.Deep.CutRange
section
set_option linter.unusedSimpArgs false
set_option linter.unusedVariables false
namespace Go.Proofs.Ytndcdidepdcmnaa.B07
open Go.RowKit Go.Lib Go.Maps Go.Proofs.Ytndcdidepdcmnaa.Wd Go.Proofs.Ytndcdidepdcmnaa.V01 Go.Proofs.Ytndcdidepdcmnaa.V04 Go.Proofs.Ytndcdidepdcmnaa.P06 Go.Proofs.Ytndcdidepdcmnaa.Q07

set_option maxRecDepth 20000 in
theorem rput_many (w : World) (A : Option Addr) (c n : Nat) (hn : 1024 < n) : Calls Try.prog 11 #[.slice A n c] w (PutOut w ([], 2)) := by
  have hz : (1024 : Int) < (n : Int) := by omega
  go_enter Try.func11, Try.ntmps11
  go_wp2
  go_ret2
  exact ⟨.inl ⟨by simp, rfl⟩, Below.refl _ _⟩
theorem putF_err (L : List Pn) : (putF L).2 ≤ 2 := by
  have h : ∀ M : List Pn, cks M ≤ 2 := fun M => by
    induction M with
    | nil => simp [cks]
    | cons x M ih =>
      unfold cks
      split
      · unfold ck
        split
        · omega
        · split <;> omega
      · exact ih
  unfold putF
  have := h L
  split
  · simp
  · split
    · exact this
    · split <;> simp

set_option maxRecDepth 20000 in
set_option maxHeartbeats 8000000 in
theorem puts_walk (hrp : ∀ (w : World) (A : Option Addr) (c n : Nat) (L : List Spn), Sps w A c L → L.length = n → (∀ x ∈ pns L, OkP x) → (∀ x ∈ L, x.l.length ≤ 40) → (∀ x ∈ pns L, SmP x) → (texts (pns L)).length ≤ 4096 → n ≤ 1024 → Calls Try.prog 11 #[.slice A n c] w (PutOut w (putF (pns L))))
    (A : Option Addr) (c : Nat) (L : List Spn) (w : World) (hS : Sps w A c L) (hok : ∀ x ∈ pns L, OkP x) :
    Calls Try.prog 3 #[.slice A L.length c] w fun e w' => e = .returned (.bool true) ∧ Below w.heap.size w w' := by
  have hmax : L.length ≤ 9223372036854775807 := by
    have h1 := hS.rd.max
    have h2 := hS.rd.cap
    unfold maxLen at h1
    omega
  obtain ⟨n, hn⟩ : ∃ n, L.length = n := ⟨_, rfl⟩
  rw [hn] at hmax ⊢
  have HN := Lib.hid hn
  clear hn
  go_enter Try.func3, Try.ntmps3
  go_wp2_with fail
  refine (alive_any _).mono ?_
  rintro e w1 ⟨rfl, b1⟩
  have hS1 := hS.below b1
  have hf := fars_any w1 A c n L hS1 HN.out hmax
  clear hS
  go_wp2_with fail
  refine hf.mono ?_
  rintro e w2 ⟨fb, rfl, hnear, b2⟩
  have bb2 := b1.trans (b2.mono b1.size)
  have hS2 := hS1.below b2
  clear hf hS1 b1 b2
  cases fb with
  | true =>
    go_wp2
    go_ret
    exact ⟨rfl, bb2⟩
  | false =>
    have hNr := hnear rfl
    clear hnear
    obtain ⟨hl1, hl2⟩ := near_len hNr
    have hof := ofs_any w2 A c n L hS2 HN.out (by rw [HN.out] at hl1; exact hl1) hl2
    go_wp2_with fail
    refine hof.mono ?_
    rintro e w3 ⟨A3, c3, M, rfl, hMl, hMp, own3, b3⟩
    have bb3 := bb2.trans (b3.mono bb2.size)
    have hS3 := hS2.below b3
    have hput := put_near w3 A3 c3 n M own3.sps hMl (by rw [hMp]; exact hok) (by rw [hMp]; exact hNr)
    rw [hMp] at hput
    clear hof own3 hS2 bb2 b3 hMp hMl
    go_wp2_with fail
    refine hput.mono ?_
    rintro e w4 ⟨h4, b4⟩
    have bb4 := bb3.trans (b4.mono bb3.size)
    have hS4 := hS3.below b4
    clear hput hS3 b4
    have hrf : Calls Try.prog 11 #[.slice A n c] w4 (PutOut w4 (putF (pns L))) := by
      by_cases hl : n ≤ 1024
      · exact hrp w4 A c n L hS4 HN.out hok hl2 (fun x hx => sm_near (hNr.each x hx)) (near_texts hNr (by rw [pns_len, HN.out]; exact hl)) hl
      · have : putF (pns L) = ([], 2) := by unfold putF; rw [if_pos (by rw [pns_len, HN.out]; omega)]
        rw [this]
        exact rput_many w4 A c n (by omega)
    have her2 := putF_err (pns L)
    clear hrp
    obtain ⟨⟨q, er⟩, hr⟩ : ∃ r, putF (pns L) = r := ⟨_, rfl⟩
    rw [hr] at h4 hrf her2
    dsimp only at h4 her2
    clear hr
    rcases h4 with ⟨her, rfl⟩ | ⟨her, A4, c4, rfl, own4⟩
    · go_wp2_with fail
      refine hrf.mono ?_
      rintro e w5 ⟨h5, b5⟩
      have bb5 := bb4.trans (b5.mono bb4.size)
      dsimp only at h5
      rcases h5 with ⟨_, rfl⟩ | ⟨h0, _⟩
      · have hby := bytes_at none none 0 0 0 0 [] [] true w5 (Bs.nil _) (Bs.nil _) rfl rfl (by simp)
        clear hrf
        have hee : ((er : Int) == (er : Int)) = true := by simp
        go_wp2_with fail
        refine hby.mono ?_
        rintro e w6 ⟨rfl, rfl⟩
        go_wp2
        go_ret
        exact ⟨rfl, bb5⟩
      · exact absurd h0 her
    · subst her
      have hQ4 := Bs.own own4
      obtain ⟨nq, hnq⟩ : ∃ nq, q.length = nq := ⟨_, rfl⟩
      rw [hnq]
      have HQ := Lib.hid hnq
      go_wp2_with fail
      refine hrf.mono ?_
      rintro e w5 ⟨h5, b5⟩
      have bb5 := bb4.trans (b5.mono bb4.size)
      dsimp only at h5
      rcases h5 with ⟨h0, _⟩ | ⟨_, A5, c5, rfl, own5⟩
      · exact absurd rfl h0
      · have hby := bytes_at A4 A5 c4 c5 nq nq q q true w5 (hQ4.below b5) (Bs.own own5) HQ.out HQ.out (by simp)
        dsimp only
        rw [HQ.out]
        clear hrf own4 own5 hnq
        go_wp2_with fail
        refine hby.mono ?_
        rintro e w6 ⟨rfl, rfl⟩
        go_wp2
        go_ret
        exact ⟨rfl, bb5⟩
end Go.Proofs.Ytndcdidepdcmnaa.B07
end

section
set_option linter.unusedSimpArgs false
set_option linter.unusedVariables false
namespace Go.Proofs.Ytndcdidepdcmnaa.B07
open Go.RowKit Go.Lib Go.Maps Go.Proofs.Ytndcdidepdcmnaa.Wd Go.Proofs.Ytndcdidepdcmnaa.V01 Go.Proofs.Ytndcdidepdcmnaa.V04 Go.Proofs.Ytndcdidepdcmnaa.P06
open Go.Proofs.Ytndcdidepdcmnaa.S05 (ix tb find_any refbytes_any)

def bad0 (s : Sp) : Bool := !(inB s.kd) || !(inB s.st)
def lng0 (s : Sp) (m : Nat) : Bool := decide (16 < m) || decide (4096 < s.sv.size) || decide (4096 < s.nm.size)
theorem bad_eq (s : Sp) (l : List At) : bad (s, l) = (bad0 s || !(l.all rightA)) := rfl
theorem lng_eq (s : Sp) (l : List At) : lng (s, l) = (lng0 s l.length || l.any fun a => decide (4096 < a.key.size)) := by unfold lng lng0; rfl

set_option maxRecDepth 20000 in
set_option maxHeartbeats 40000000 in
theorem rput_any (w : World) (A : Option Addr) (c n : Nat) (L : List Spn) (h : Sps w A c L) (hn : L.length = n) (hok : ∀ x ∈ pns L, OkP x) (h40 : ∀ x ∈ L, x.l.length ≤ 40) (hsm : ∀ x ∈ pns L, SmP x) (ht : (texts (pns L)).length ≤ 4096) (hm : n ≤ 1024) :
    Calls Try.prog 11 #[.slice A n c] w (PutOut w (putF (pns L))) := by
  have hmz : ¬ ((1024 : Int) < (n : Int)) := by omega
  have hpn : (pns L).length = n := by rw [pns_len, hn]
  have HN := Lib.hid hn
  have HP := Lib.hid hpn
  clear hn hpn
  go_enter Try.func11, Try.ntmps11
  go_wp2_with fail
  go_loopw [4] (fun v wr => ∃ k : Nat, v = .int .i64 (k : Nat) ∧ k ≤ n ∧ Below w.heap.size w wr ∧ Hid (∀ x ∈ (pns L).take k, ck x = 0)) (fun v _ => n - (intOf v).toNat)
  case atStart => exact ⟨0, rfl, Nat.zero_le _, Below.refl _ _, Lib.hid (by simp)⟩
  case round =>
    obtain ⟨k, rfl, hk, bw, HI⟩ := hrel
    by_cases hlt : k < n
    · have hltz : (k : Int) < (n : Int) := by omega
      have hkl : k < L.length := by rw [un HN]; exact hlt
      have hkp : k < (pns L).length := by rw [un HP]; exact hlt
      have hbw := h.below bw
      obtain ⟨ad, p, rfl, hp, F⟩ := hbw.get hkl
      have hA := hbw.ats _ (List.getElem_mem hkl)
      have hx : (pns L)[k] = (L[k].s, L[k].l) := pns_get L hkl
      have hcka := fun he => cks_at HI.out hkp he
      have h4 := h40 _ (List.getElem_mem hkl)
      have hokn : ck (pns L)[k] = 0 → ∀ x ∈ (pns L).take (k + 1), ck x = 0 := fun hc x hx => by
        rw [← List.take_append_getElem hkp] at hx
        rcases List.mem_append.1 hx with hx | hx
        · exact HI.out x hx
        · simp at hx; rw [hx]; exact hc
      rw [hx] at hcka hokn
      obtain ⟨⟨s, A1, c1, l⟩, hL⟩ : ∃ x, L[k] = x := ⟨_, rfl⟩
      rw [hL] at F hA hcka hokn h4
      dsimp only at hA hcka hokn h4
      have e0 := F.c0
      have e1 := F.c1
      have e2 := F.c2
      have e3 := F.c3
      have e4 := F.c4
      have e5 := F.c5
      have e6 := F.c6
      have e7 := F.c7
      have e8 := F.c8
      have e9 := F.c9
      dsimp only at e0 e1 e2 e3 e4 e5 e6 e7 e8 e9
      obtain ⟨m, hml⟩ : ∃ m, l.length = m := ⟨_, rfl⟩
      rw [hml] at e9 h4
      have HM := Lib.hid hml
      have HCk := Lib.hid hcka
      have HOk := Lib.hid hokn
      have bx := below_box wr (.cells (spc s (.slice A1 m c1)) 53) (Nat.le_refl _)
      have hK : Bk (wr.alloc (.cells (spc s (.slice A1 m c1)) 53)) wr.heap.size 53 (spc s (.slice A1 m c1)) := Bk.new wr _ _
      have hA2 := hA.below bx
      have bw2 := bw.trans (bx.mono bw.size)
      clear F hA hL hml hcka hokn hx hbw bx
      go_upto_region 7 with fail
      go_cut [6] from 18 to 92 (fun u6 wc => u6 = .bool (bad0 s) ∧ wc = wr.alloc (.cells (spc s (.slice A1 m c1)) 53))
      case first =>
        clear hA2 bw2 hK
        by_cases q1 : s.kd < 0
        · go_wp2_with fail
          go_meet
          case rel => exact ⟨by simp [bad0, inB]; omega, rfl⟩
        · by_cases q2 : 255 < s.kd
          · go_wp2_with fail
            go_meet
            case rel => exact ⟨by simp [bad0, inB]; omega, rfl⟩
          · by_cases q3 : s.st < 0
            · go_wp2_with fail
              go_meet
              case rel => exact ⟨by simp [bad0, inB]; omega, rfl⟩
            · by_cases q4 : 255 < s.st
              · go_wp2_with fail
                go_meet
                case rel => exact ⟨by simp [bad0, inB]; omega, rfl⟩
              · go_wp2_with fail
                go_meet
                case rel => exact ⟨by simp [bad0, inB]; omega, rfl⟩
      case rest =>
        obtain ⟨rfl, rfl⟩ := hcut
        clear e0 e1 e2 e5 e6 e7 e8
        go_upto_region 8 with fail
        go_cut [7] from 18 to 92 (fun u7 wc => u7 = .bool (lng0 s m) ∧ wc = wr.alloc (.cells (spc s (.slice A1 m c1)) 53))
        case first =>
          clear hA2 bw2 hK
          by_cases q1 : (16 : Int) < (m : Int)
          · go_wp2_with fail
            go_meet
            case rel => exact ⟨by simp [lng0]; omega, rfl⟩
          · by_cases q2 : (4096 : Int) < (s.sv.size : Int)
            · go_wp2_with fail
              go_meet
              case rel => exact ⟨by simp [lng0]; omega, rfl⟩
            · by_cases q3 : (4096 : Int) < (s.nm.size : Int)
              · go_wp2_with fail
                go_meet
                case rel => exact ⟨by simp [lng0]; omega, rfl⟩
              · go_wp2_with fail
                go_meet
                case rel => exact ⟨by simp [lng0]; omega, rfl⟩
        case rest =>
          obtain ⟨rfl, rfl⟩ := hcut
          generalize wr.alloc (.cells (spc s (.slice A1 m c1)) 53) = w2 at hK hA2 bw2 ⊢
          generalize wr.heap.size = q at hK ⊢
          clear e3 e4 e9
          go_wp2_with fail
          go_loopw [6, 7, 8] (fun v6 v7 v8 wr => ∃ j : Nat, v6 = .bool (bad0 s || !((l.take j).all rightA)) ∧ v7 = .bool (lng0 s m || (l.take j).any fun a => decide (4096 < a.key.size)) ∧ v8 = .int .i64 (j : Nat) ∧ j ≤ m ∧ Below w2.heap.size w2 wr) (fun _ _ i _ => m - (intOf i).toNat)
          case atStart => exact ⟨0, by simp, by simp, rfl, Nat.zero_le _, Below.refl _ _⟩
          case round =>
            obtain ⟨j, rfl, rfl, rfl, hj, bj⟩ := hrel
            have x9 : wr.cell? ⟨q, 9, none⟩ = some (.slice A1 m c1) := (hK.below bj).cell 9
            by_cases hjm : j < m
            · have hjz : (j : Int) < (m : Int) := by omega
              have hjl : j < l.length := by rw [un HM]; exact hjm
              obtain ⟨ad1, p1, rfl, hp1, F⟩ := (hA2.below bj).get hjl
              have f0 := F.c0
              have f1 := F.c1
              have f2 : wr.cell? ⟨p1.block, p1.off + 1 + 1, none⟩ = some (.int .i64 l[j].N) := F.c2
              have f3 : wr.cell? ⟨p1.block, p1.off + 1 + 2, none⟩ = some (.string l[j].S) := F.c3
              have hp1l := World.block_lt_of_cell? _ _ F.c0
              have hb1 : (bad0 s || !((l.take (j + 1)).all rightA)) = ((bad0 s || !((l.take j).all rightA)) || !(rightA l[j])) := by
                rw [← List.take_append_getElem hjl, List.all_append]
                cases bad0 s <;> cases (l.take j).all rightA <;> simp
              have hl1 : (lng0 s m || (l.take (j + 1)).any fun a => decide (4096 < a.key.size)) = ((lng0 s m || (l.take j).any fun a => decide (4096 < a.key.size)) || decide (4096 < l[j].key.size)) := by
                rw [← List.take_append_getElem hjl, List.any_append]
                cases lng0 s m <;> cases ((l.take j).any fun a => decide (4096 < a.key.size)) <;> simp
              clear F
              obtain ⟨z, hz⟩ : ∃ z, l[j] = z := ⟨_, rfl⟩
              rw [hz] at f0 f1 f2 f3 hb1 hl1
              have HB1 := Lib.hid hb1
              have HL1 := Lib.hid hl1
              clear hb1 hl1 hz
              generalize hvb : (bad0 s || !((l.take j).all rightA)) = vb at HB1 ⊢
              generalize hvl : (lng0 s m || (l.take j).any fun a => decide (4096 < a.key.size)) = vg at HL1 ⊢
              have u0 : (0 : Int) ≤ (j : Int) := by omega
              have u1 : ((j : Int)).toNat = j := by omega
              cases vb with
              | true =>
                cases vg with
                | true =>
                  go_wp2
                  go_roundw
                  case rel => exact ⟨j + 1, by rw [HB1.out]; rfl, by rw [HL1.out]; rfl, by go_num, by omega, bj⟩
                  case measure => first | go_num | (simp [intOf]; omega)
                | false =>
                  by_cases q4 : (4096 : Int) < (z.key.size : Int)
                  · go_wp2
                    go_roundw
                    case rel => exact ⟨j + 1, by rw [HB1.out]; rfl, by rw [HL1.out, decide_eq_true (by omega : 4096 < z.key.size)]; first | rfl | (simp; omega), by go_num, by omega, bj⟩
                    case measure => first | go_num | (simp [intOf]; omega)
                  · go_wp2
                    go_roundw
                    case rel => exact ⟨j + 1, by rw [HB1.out]; rfl, by rw [HL1.out, decide_eq_false (by omega : ¬ 4096 < z.key.size)]; first | rfl | (simp; omega), by go_num, by omega, bj⟩
                    case measure => first | go_num | (simp [intOf]; omega)
              | false =>
                obtain ⟨rq, hrq⟩ : ∃ rq, right z.K z.N z.S = rq := ⟨_, rfl⟩
                have hRt := fun W => refright_any z.K z.N z.S rq W hrq
                have hrA : rightA z = rq := hrq
                have HRA := Lib.hid hrA
                clear hrA hrq
                have bx2 := below_box wr (box 56 z.K z.N z.S) (Nat.le_refl _)
                have bj2 := bj.trans (bx2.mono bj.size)
                have x9b : (wr.alloc (box 56 z.K z.N z.S)).cell? ⟨q, 9, none⟩ = some (.slice (some ad1) m c1) := (hK.below bj2).cell 9
                have f0b : (wr.alloc (box 56 z.K z.N z.S)).cell? p1 = some (.string z.key) := (bx2.cell hp1l).trans f0
                go_wp2_with fail
                refine (hRt _).mono ?_
                rintro e w8 ⟨rfl, rfl⟩
                clear hRt x9 f0 f1 f2 f3
                generalize wr.alloc (box 56 z.K z.N z.S) = w8 at bj2 x9b f0b ⊢
                clear bx2
                cases vg with
                | true =>
                  go_wp2
                  go_roundw
                  case rel => exact ⟨j + 1, by rw [HB1.out]; rw [HRA.out]; cases rq <;> rfl, by rw [HL1.out]; rfl, by go_num, by omega, bj2⟩
                  case measure => first | go_num | (simp [intOf]; omega)
                | false =>
                  by_cases q4 : (4096 : Int) < (z.key.size : Int)
                  · go_wp2
                    go_roundw
                    case rel => exact ⟨j + 1, by rw [HB1.out]; rw [HRA.out]; cases rq <;> rfl, by rw [HL1.out, decide_eq_true (by omega : 4096 < z.key.size)]; first | rfl | (simp; omega), by go_num, by omega, bj2⟩
                    case measure => first | go_num | (simp [intOf]; omega)
                  · go_wp2
                    go_roundw
                    case rel => exact ⟨j + 1, by rw [HB1.out]; rw [HRA.out]; cases rq <;> rfl, by rw [HL1.out, decide_eq_false (by omega : ¬ 4096 < z.key.size)]; first | rfl | (simp; omega), by go_num, by omega, bj2⟩
                    case measure => first | go_num | (simp [intOf]; omega)
            · have hjz : ¬ ((j : Int) < (m : Int)) := by omega
              have hjm' : j = m := by omega
              subst hjm'
              have e1 : l.take j = l := List.take_of_length_le (by rw [un HM]; exact Nat.le_refl _)
              rw [e1]
              have hbl : bad (s, l) = (bad0 s || !(l.all rightA)) := rfl
              have hll : lng (s, l) = (lng0 s j || l.any fun a => decide (4096 < a.key.size)) := by rw [lng_eq, HM.out]
              rw [← hbl, ← hll]
              have bw3 := bw2.trans (bj.mono bw2.size)
              cases hvb : bad (s, l) with
              | true =>
                have hck : ck (s, l) = 1 := ck_bad hvb
                have hput : putF (pns L) = ([], 1) := by
                  unfold putF
                  rw [HCk.out (by rw [hck]; decide), hck, HP.out, if_neg (by omega), if_pos (by decide)]
                have HPut := Lib.hid hput
                clear hput hck hvb hbl hll
                go_wp2
                go_ret2
                rw [HPut.out]
                exact ⟨.inl ⟨by simp, rfl⟩, bw3⟩
              | false =>
                cases hvl : lng (s, l) with
                | true =>
                  have hck : ck (s, l) = 2 := by rw [ck_lng hvb, hvl]; rfl
                  have hput : putF (pns L) = ([], 2) := by
                    unfold putF
                    rw [HCk.out (by rw [hck]; decide), hck, HP.out, if_neg (by omega), if_pos (by decide)]
                  have HPut := Lib.hid hput
                  clear hput hck hvb hvl hbl hll
                  go_wp2
                  go_ret2
                  rw [HPut.out]
                  exact ⟨.inl ⟨by simp, rfl⟩, bw3⟩
                | false =>
                  have hck : ck (s, l) = 0 := by rw [ck_lng hvb, hvl]; rfl
                  have hok2 := HOk.out hck
                  have HOk2 := Lib.hid hok2
                  clear hok2 hck hvb hvl hbl hll
                  go_wp2
                  go_roundw
                  case rel => exact ⟨k + 1, by go_num, by omega, bw3, HOk2⟩
                  case measure => first | go_num | (simp [intOf]; omega)
    · have hltz : ¬ ((k : Int) < (n : Int)) := by omega
      have hkn : k = n := by omega
      subst hkn
      have hall : (pns L).take k = pns L := List.take_of_length_le (by rw [un HP]; exact Nat.le_refl _)
      have hcks : ∀ x ∈ pns L, ck x = 0 := by have := HI.out; rwa [hall] at this
      have hS := h.below bw
      have htx := texts_at wr A c k L hS HN.out (by omega) h40 (fun x hx s hs => by have := ck_size (hcks x hx) s hs; omega)
      clear h
      go_wp2_with fail
      refine htx.mono ?_
      rintro e w3 ⟨At, ct, rfl, ownt, b3⟩
      have bw3 := bw.trans (b3.mono bw.size)
      have hS3 := hS.below b3
      clear htx hS b3 bw
      obtain ⟨lt, hlt2⟩ : ∃ lt, (texts (pns L)).length = lt := ⟨_, rfl⟩
      rw [hlt2] at ownt ht ⊢
      have hz4 : ¬ ((4096 : Int) < (lt : Int)) := by omega
      have hSt : Ss w3 At ct (texts (pns L)) := Ss.own (by rw [hlt2]; exact ownt)
      have hsz : ∀ s ∈ texts (pns L), s.size ≤ 4096 := fun s hs => by
        obtain ⟨x, hx, h⟩ := texts_of hs
        exact ck_size (hcks x hx) s h
      obtain ⟨tbt, htb⟩ : ∃ q, tb (texts (pns L)) = q := ⟨_, rfl⟩
      have hbt := refbytes_any At ct lt (texts (pns L)) tbt w3 hSt hlt2 ht hsz htb
      have htbl : tbt.length ≤ 20000000 := by
        have h1 := S05.tx_len 4096 (texts (pns L)) hsz
        have h2 := S05.vby_le (texts (pns L)).length
        have h3 : (texts (pns L)).length * (4096 + 10) ≤ 4096 * (4096 + 10) := Nat.mul_le_mul_right _ (by omega)
        rw [← htb]
        unfold tb
        rw [List.length_append]
        omega
      have HLT := Lib.hid hlt2
      have HTB := Lib.hid htb
      clear hlt2 htb ownt
      go_wp2_with fail
      refine hbt.mono ?_
      rintro e w4 ⟨A4, c4, rfl, own4, b4⟩
      have bw4 := bw3.trans (b4.mono bw3.size)
      have hS4 := hS3.below b4
      have hSt4 := hSt.below b4
      have hB4 := Bs.own own4
      have hnum := rnumb_at (k : Int) k (vby k) w4 rfl rfl (by omega)
      clear hbt own4 hS3 hSt b4 bw3
      go_wp2_with fail
      refine hnum.mono ?_
      rintro e w5 ⟨A5, c5, rfl, own5, b5⟩
      have bw5 := bw4.trans (b5.mono bw4.size)
      have hS5 := hS4.below b5
      have hSt5 := hSt4.below b5
      have hB5 := hB4.below b5
      have hC5 := Bs.own own5
      have hvk := S05.vby_le k
      have bj := below_box w5 (.cells #[.slice A4 tbt.length c4, .slice A5 (vby k).length c5] 25) (Nat.le_refl _)
      have hJn : Jn (w5.alloc (.cells #[.slice A4 tbt.length c4, .slice A5 (vby k).length c5] 25)) w5.heap.size [(A4, c4, tbt), (A5, c5, vby k)] := by
        refine ⟨fun i hi => ?_, fun i hi => ?_⟩
        · match i, hi with
          | 0, _ => simp
          | 1, _ => simp
        · match i, hi with
          | 0, _ => exact hB5.below bj
          | 1, _ => exact hC5.below bj
      have hjn := join_any _ w5.heap.size 2 2 [(A4, c4, tbt), (A5, c5, vby k)] (tbt ++ vby k) (by simp) hJn rfl (by omega) (by simp [jo]) (by rw [List.length_append]; omega)
      have bwj := bw5.trans (bj.mono bw5.size)
      have hSj := hS5.below bj
      have hStj := hSt5.below bj
      clear hnum own5 hS4 hSt4 hB4 bw4 b5 hJn hB5 hC5 hS5 hSt5 bj
      obtain ⟨t1, ht1⟩ : ∃ t1, tbt.length = t1 := ⟨_, rfl⟩
      obtain ⟨t2, ht2⟩ : ∃ t2, (vby k).length = t2 := ⟨_, rfl⟩
      rw [ht1, ht2] at hjn bwj hSj hStj ⊢
      go_wp2_with fail
      generalize w5.alloc (.cells #[.slice A4 t1 c4, .slice A5 t2 c5] 25) = w6 at hjn bwj hSj hStj ⊢
      refine hjn.mono ?_
      rintro e w7 ⟨A7, c7, rfl, own7, b7⟩
      have bw7 := bwj.trans (b7.mono bwj.size)
      have hS7 := hSj.below b7
      have hSt7 := hStj.below b7
      have hB7 := Bs.own own7
      obtain ⟨pre, hpre⟩ : ∃ pre, tbt ++ vby k = pre := ⟨_, rfl⟩
      rw [hpre] at hB7
      obtain ⟨lp, hlp⟩ : ∃ lp, pre.length = lp := ⟨_, rfl⟩
      have hlp9 : lp ≤ 20000010 := by rw [← hlp, ← hpre, List.length_append]; omega
      rw [hpre, hlp]
      have HLP := Lib.hid hlp
      have HPRE := Lib.hid hpre
      have own8 : w7.ownsRow w.heap.size 5 1 (.slice A7 lp c7) lp (Lib.byteCells pre) := by
        have := own_base own7 bwj.size
        rw [hpre, hlp] at this
        exact this
      clear hjn own7 hpre hlp ht1 ht2
      go_wp2_with fail
      go_loopw [10, 11] (fun v10 v11 wr => ∃ (i : Nat) (o : List UInt8) (lo : Nat) (Ao : Option Addr) (co : Nat), v10 = .slice Ao lo co ∧ v11 = .int .i64 (i : Nat) ∧ i ≤ k ∧ Hid (o.length = lo) ∧ Hid (o = pre ++ ((pns L).take i).flatMap (spB (texts (pns L)))) ∧ wr.ownsRow w.heap.size 5 1 (.slice Ao lo co) lo (Lib.byteCells o) ∧ Below w7.heap.size w7 wr) (fun _ v _ => k - (intOf v).toNat)
      case atStart => exact ⟨0, pre, lp, A7, c7, rfl, rfl, Nat.zero_le _, HLP, Lib.hid (by simp), own8, Below.refl _ _⟩
      case round =>
        obtain ⟨i, o, lo, Ao, co, rfl, rfl, hik, HLO, HO, owno, bo⟩ := hrel
        have hBo : Bs wr Ao co o := Bs.own (by rw [HLO.out]; exact owno)
        by_cases hlt : i < k
        · have hltz : (i : Int) < (k : Int) := by omega
          have hil : i < L.length := by rw [un HN]; exact hlt
          have hSo := hS7.below bo
          obtain ⟨ad, p, rfl, hp, F⟩ := hSo.get hil
          have hA := hSo.ats _ (List.getElem_mem hil)
          obtain ⟨⟨s, A1, c1, l⟩, hL⟩ : ∃ x, L[i] = x := ⟨_, rfl⟩
          rw [hL] at F hA
          dsimp only at hA
          have e0 := F.c0
          have e1 := F.c1
          have e2 := F.c2
          have e3 := F.c3
          have e4 := F.c4
          have e5 := F.c5
          have e6 := F.c6
          have e7 := F.c7
          have e8 := F.c8
          have e9 := F.c9
          dsimp only at e0 e1 e2 e3 e4 e5 e6 e7 e8 e9
          obtain ⟨m, hml⟩ : ∃ m, l.length = m := ⟨_, rfl⟩
          rw [hml] at e9
          have HM := Lib.hid hml
          have HLi := Lib.hid hL
          have i0' : (0 : Int) ≤ (i : Int) := by omega
          have bx := below_box wr (.cells (spc s (.slice A1 m c1)) 53) (Nat.le_refl _)
          have hK : Bk (wr.alloc (.cells (spc s (.slice A1 m c1)) 53)) wr.heap.size 53 (spc s (.slice A1 m c1)) := Bk.new wr _ _
          have hA2 := hA.below bx
          have bo2 := bo.trans (bx.mono bo.size)
          have hSt8 := (hSt7.below bo).below bx
          have hBo2 := hBo.below bx
          clear F hA hL hml hSo
          go_upto_region 26 with fail
          have owno2 := own_below owno bx
          generalize hX : wr.alloc (.cells #[.int .u64 s.T, .int .u64 s.I, .int .u64 s.P, .string s.sv, .string s.nm, .int .i64 s.kd, .int .i64 s.st, .int .u64 s.t0, .int .u64 s.t1, .slice A1 m c1] 53) = wB
          have hX' : wr.alloc (.cells (spc s (.slice A1 m c1)) 53) = wB := hX
          rw [hX'] at hK hA2 bo2 hSt8 hBo2 owno2
          clear hX hX' bx owno hBo bo e0 e1 e2 e3 e4 e5 e6 e7 e8 e9
          generalize wr.heap.size = g at hK ⊢
          have hxm : (s, l) ∈ pns L := List.mem_map.2 ⟨L[i], List.getElem_mem hil, by rw [HLi.out]; rfl⟩
          have hm3 : s.sv ∈ texts (pns L) := texts_mem hxm _ (by simp [tex])
          have hm4 : s.nm ∈ texts (pns L) := texts_mem hxm _ (by simp [tex])
          have hlt3 := S05.ix_lt hm3
          have hlt4 := S05.ix_lt hm4
          obtain ⟨q3, hq3⟩ : ∃ q, ix (texts (pns L)) s.sv = q := ⟨_, rfl⟩
          obtain ⟨q4, hq4⟩ : ∃ q, ix (texts (pns L)) s.nm = q := ⟨_, rfl⟩
          rw [hq3, HLT.out] at hlt3
          rw [hq4, HLT.out] at hlt4
          have hSd : Ss wB.drew At ct (texts (pns L)) := hSt8.below ⟨rfl, rfl, rfl, Nat.le_refl _, fun _ _ => rfl⟩
          have hfd3 : Calls Try.prog 31 #[.slice At lt ct, .string s.sv] wB.drew fun e w' => e = .returned (.int .i64 (q3 : Int)) ∧ wB.drew = w' :=
            (find_any At ct lt _ s.sv _ hSd HLT.out).mono (by rintro e w' ⟨z, rfl, rfl, z1, _⟩; exact ⟨by rw [z1 hm3, hq3], rfl⟩)
          have hfd4 : Calls Try.prog 31 #[.slice At lt ct, .string s.nm] wB.drew fun e w' => e = .returned (.int .i64 (q4 : Int)) ∧ wB.drew = w' :=
            (find_any At ct lt _ s.nm _ hSd HLT.out).mono (by rintro e w' ⟨z, rfl, rfl, z1, _⟩; exact ⟨by rw [z1 hm4, hq4], rfl⟩)
          have HQ3 := Lib.hid hq3
          have HQ4 := Lib.hid hq4
          have f3 : wB.drew.cell? ⟨g, 3, none⟩ = some (.string s.sv) := hK.cell 3
          have f4 : wB.drew.cell? ⟨g, 4, none⟩ = some (.string s.nm) := hK.cell 4
          have kA : ∀ X, (wB.alloc X).drew.cell? ⟨g, 3, none⟩ = some (.string s.sv) ∧ (wB.alloc X).drew.cell? ⟨g, 4, none⟩ = some (.string s.nm) := fun X => ⟨(hK.below (below_box wB X (Nat.le_refl _))).cell 3, (hK.below (below_box wB X (Nat.le_refl _))).cell 4⟩
          clear hq3 hq4 hm3 hm4
          go_region_held3 (fun w' => w'.cell? ⟨g, 3, none⟩ = some (.string s.sv) ∧ w'.cell? ⟨g, 4, none⟩ = some (.string s.nm))
            (first | exact kA _ | go_keep)
            (first
              | (go_at_call 31; (with_reducible refine hfd3.mono ?_); rintro e w8 ⟨rfl, rfl⟩)
              | (go_at_call 31; (with_reducible refine hfd4.mono ?_); rintro e w8 ⟨rfl, rfl⟩))
          have bC : Below wB.heap.size wB (wB.alloc (.cells #[.int .i64 (q3 : Int), .int .i64 (q4 : Int)] 3)).drew := bd ((Below.refl _ _).alloc (Nat.le_refl _) _ : Below wB.drew.heap.size wB.drew (wB.drew.alloc _))
          have hKt : Bk (wB.alloc (.cells #[.int .i64 (q3 : Int), .int .i64 (q4 : Int)] 3)).drew wB.heap.size 3 #[.int .i64 (q3 : Int), .int .i64 (q4 : Int)] := Bk.new wB _ _
          have hKc := hK.below bC
          have bo3 := bo2.trans (bC.mono bo2.size)
          have hA3 := hA2.below bC
          have hSt9 := hSt8.below bC
          have owno3 := own_below owno2 bC
          clear hfd3 hfd4 hSd f3 f4 kA hK bo2 hA2 hSt8 hBo2 owno2 bC
          generalize (wB.alloc (.cells #[.int .i64 (q3 : Int), .int .i64 (q4 : Int)] 3)).drew = wC at hKt hKc bo3 hA3 hSt9 owno3 ⊢
          generalize wB.heap.size = gt at hKt ⊢
          obtain ⟨hkd, hst, h16⟩ := ck_span (hcks _ hxm)
          have hokn := (hok _ hxm).1
          have hlo : lo ≤ 110000000 := by
            have h1 := sps_len (texts (pns L)) ((pns L).take i) (fun x hx => (ck_span (hcks x (List.mem_of_mem_take hx))).2.2)
            have h2 : ((pns L).take i).length ≤ 1024 := by rw [List.length_take, HP.out]; omega
            have h3 := Nat.mul_le_mul_right 80260 h2
            have h4 := HLO.out
            rw [HO.out, List.length_append, HLP.out] at h4
            omega
          rw [HM.out] at h16
          obtain ⟨o1, ho1⟩ : ∃ o1, o ++ (headB s ++ twoB (texts (pns L)) s ++ midB s m) = o1 := ⟨_, rfl⟩
          obtain ⟨n1, hn1⟩ : ∃ n1, o1.length = n1 := ⟨_, rfl⟩
          have hn1b : n1 ≤ 110000100 := by
            have h1 := head_len (texts (pns L)) s m
            rw [← hn1, ← ho1, List.length_append, HLO.out]
            omega
          have HO1 := Lib.hid ho1
          have HN1 := Lib.hid hn1
          clear ho1 hn1
          have hwC : w.heap.size ≤ wC.heap.size := Nat.le_trans bw7.size bo3.size
          go_wp2_with fail
          go_cut [10] from 125 to 164 (fun u10 wc => ∃ A' c', u10 = .slice A' n1 c' ∧ wc.ownsRow w.heap.size 5 1 (.slice A' n1 c') n1 (Lib.byteCells o1) ∧ Below wC.heap.size wC wc)
          case first =>
            refine reg27 _ (by kernel_rfl) _ w.heap.size wC _ _ _ _ _ _ _ _ _ _ _ _ _ _ _ _ _ _ _ _ _ _ _ _ _ _ _ _ _ _ _ _ _ _ _ _ _ _ _ _ _ _ _ _ _ _ _ _ _ _ _ _ _ _ _ _ _ _ _ _ _ _ _ _ _ _ _ _ _ _ _ _ _ _ _ _ _ _ _ _ _ _ _ _ _ _ _ _ _ _ _ _ _ _ _ _ _ _ _ _ _ _ _ _ _ _ _ _ _ _ _ _ _ _ _ _ _ _ _ _ _ _ _ _ _ _ _ _ _ _ _ _ _ _ _ _ _ _ _ _ _ _ _ _ _ _ _ _ _ _ _ _ _ _ _ _ _ _ _ _ _ _ _ _ _ _ _ _ _ _ _ _ _ _ _ _ _ _ _ _ _ _ _ _ _ _ _ _ _ _ _ _ _ _ _ _ _ _ _ _ _ _ _ n1 _ (texts (pns L)) _ o1 hokn hkd hst h16 (by rw [HLT.out]; exact ht) HQ3.out HQ4.out (by rw [HLT.out]; exact hlt3) (by rw [HLT.out]; exact hlt4) HLO.out HO1.out HN1.out (by omega) owno3 hKc hKt hwC ?_
            intro A' c' wc v125 v126 v127 v128 v129 v130 v131 v132 v133 v134 v135 v136 v137 v138 v139 v140 v141 v142 v143 v144 v145 v146 v147 v148 v149 v150 v151 v152 v153 v154 v155 v156 v157 v158 v159 v160 v161 v162 v163 v164 hown hbel
            go_wp2_with fail
            go_meet
            exact ⟨A', c', rfl, hown, hbel⟩
          case rest =>
            obtain ⟨A9, c9, rfl, own4, b4⟩ := hcut
            have hKw := hKc.below b4
            have hAw := hA3.below b4
            have hSw := hSt9.below b4
            have bo4 := bo3.trans (b4.mono bo3.size)
            have hwc : w.heap.size ≤ wc.heap.size := Nat.le_trans hwC b4.size
            have hoka := (hok _ hxm).2
            have HOA := Lib.hid hoka
            clear hKc hKt hA3 hSt9 owno3 bo3 b4 hoka hokn
            go_wp2_with fail
            go_loopw [10, 14] (fun v10 v14 wq => ∃ (j : Nat) (o2 : List UInt8) (l2 : Nat) (A2 : Option Addr) (c2 : Nat), v10 = .slice A2 l2 c2 ∧ v14 = .int .i64 (j : Nat) ∧ j ≤ m ∧ Hid (o2.length = l2) ∧ Hid (o2 = o1 ++ (l.take j).flatMap (atB (texts (pns L)))) ∧ wq.ownsRow w.heap.size 5 1 (.slice A2 l2 c2) l2 (Lib.byteCells o2) ∧ Below wc.heap.size wc wq) (fun _ v _ => m - (intOf v).toNat)
            case atStart => exact ⟨0, o1, n1, A9, c9, rfl, rfl, Nat.zero_le _, HN1, Lib.hid (by simp), own4, Below.refl _ _⟩
            case round =>
              clear own4
              obtain ⟨j, o2, l2, A2, c2, rfl, rfl, hj, HLE, HO2, own5, b5⟩ := hrel
              have x9 : wr.cell? ⟨g, 9, none⟩ = some (.slice A1 m c1) := (hKw.below b5).cell 9
              by_cases hjm : j < m
              · have hjz : (j : Int) < (m : Int) := by omega
                have hjl : j < l.length := by rw [un HM]; exact hjm
                obtain ⟨ad1, p1, rfl, hp1, F⟩ := (hAw.below b5).get hjl
                have hp1l := World.block_lt_of_cell? _ _ F.c0
                have hkm : l[j].key ∈ texts (pns L) := texts_mem hxm _ (by simp only [tex, List.mem_cons, List.mem_map]; exact .inr (.inr ⟨l[j], List.getElem_mem hjl, rfl⟩))
                have hlt5 := S05.ix_lt hkm
                have hoa := HOA.out _ (List.getElem_mem hjl)
                obtain ⟨q5, hq5⟩ : ∃ q, ix (texts (pns L)) l[j].key = q := ⟨_, rfl⟩
                obtain ⟨r2, hr2⟩ : ∃ r, vbs l[j].K l[j].N l[j].S = r := ⟨_, rfl⟩
                have hr2l := vbs_le l[j].K l[j].N l[j].S
                have hby : ∀ W, Calls Try.prog 32 #[.agg #[.int .i64 l[j].K, .int .i64 l[j].N, .string l[j].S]] W fun e w' => V04.Own W w' e r2 := fun W => by rw [← hr2]; exact rb_any _ _ _ W hoa.1 hoa.2
                have hSd : Ss wr.drew At ct (texts (pns L)) := (hSw.below b5).below ⟨rfl, rfl, rfl, Nat.le_refl _, fun _ _ => rfl⟩
                have hfd : Calls Try.prog 31 #[.slice At lt ct, .string l[j].key] wr.drew fun e w' => e = .returned (.int .i64 (q5 : Int)) ∧ wr.drew = w' :=
                  (find_any At ct lt _ l[j].key _ hSd HLT.out).mono (by rintro e w' ⟨z, rfl, rfl, z1, _⟩; exact ⟨by rw [z1 hkm, hq5], rfl⟩)
                rw [hq5, HLT.out] at hlt5
                rw [hr2] at hr2l
                have nm1 : Nm (q5 : Int) (vby q5) := ⟨_, rfl, by omega, rfl⟩
                have nml := nm1.len
                obtain ⟨r1, hr1⟩ : ∃ r, vby q5 = r := ⟨_, rfl⟩
                rw [hr1] at nm1 nml
                obtain ⟨o3, ho3⟩ : ∃ o3, o2 ++ (r1 ++ r2) = o3 := ⟨_, rfl⟩
                obtain ⟨n3, hn3⟩ : ∃ n3, o3.length = n3 := ⟨_, rfl⟩
                have hl2 : l2 ≤ 110100000 := by
                  have h1 := ats_len (texts (pns L)) (l.take j)
                  have h2 : (l.take j).length ≤ 16 := by rw [List.length_take, HM.out]; omega
                  have h3 := Nat.mul_le_mul_right 5010 h2
                  have h4 := HLE.out
                  rw [HO2.out, List.length_append, HN1.out] at h4
                  omega
                have hn3b : n3 ≤ 1000000000 := by
                  rw [← hn3, ← ho3, List.length_append, List.length_append, HLE.out]
                  omega
                have ho4 : o3 = o1 ++ (l.take (j + 1)).flatMap (atB (texts (pns L))) := by
                  rw [← ho3, HO2.out, ← List.take_append_getElem hjl, List.flatMap_append, ← hr1, ← hr2, ← hq5, List.append_assoc]
                  simp [atB]
                have f0 := F.c0
                have f1 := F.c1
                have f2 : wr.cell? ⟨p1.block, p1.off + 1 + 1, none⟩ = some (.int .i64 l[j].N) := F.c2
                have f3 : wr.cell? ⟨p1.block, p1.off + 1 + 2, none⟩ = some (.string l[j].S) := F.c3
                clear F hoa hkm hSd
                obtain ⟨z, hz⟩ : ∃ z, l[j] = z := ⟨_, rfl⟩
                rw [hz] at f0 f1 f2 f3 hfd
                simp only [hz] at hby
                have kf : ∀ w' : World, Below wr.heap.size wr w' → w'.cell? ⟨g, 9, none⟩ = some (.slice (some ad1) m c1) ∧ w'.cell? p1 = some (.string z.key) ∧ w'.cell? ⟨p1.block, p1.off + 1, none⟩ = some (.int .i64 z.K) ∧ w'.cell? ⟨p1.block, p1.off + 1 + 1, none⟩ = some (.int .i64 z.N) ∧ w'.cell? ⟨p1.block, p1.off + 1 + 2, none⟩ = some (.string z.S) := fun W hb =>
                  ⟨((hKw.below b5).below hb).cell 9, (hb.cell hp1l).trans f0, (hb.cell (p := ⟨p1.block, p1.off + 1, none⟩) hp1l).trans f1, (hb.cell (p := ⟨p1.block, p1.off + 1 + 1, none⟩) hp1l).trans f2, (hb.cell (p := ⟨p1.block, p1.off + 1 + 2, none⟩) hp1l).trans f3⟩
                have bb : Below wr.heap.size wr wr.drew := ⟨rfl, rfl, rfl, Nat.le_refl _, fun _ _ => rfl⟩
                have hq : Rows wr.drew [(A2, c2, o2)] := Rows.one ((Bs.own (by rw [HLE.out]; exact own5)).below bb)
                have hw5 : IntKind.u64.wrap (q5 : Int) = (q5 : Int) := IntWalk.u64_in _ (by omega)
                have hwr : w.heap.size ≤ wr.heap.size := Nat.le_trans hwc b5.size
                obtain ⟨y9, y0, y1, y2, y3⟩ := kf _ bb
                have HKF := Lib.hid kf
                have HR := Lib.hid ho3
                have HN3 := Lib.hid hn3
                have HO4 := Lib.hid ho4
                have HRB : Hid (o3.length ≤ 1000000000) := Lib.hid (by rw [hn3]; exact hn3b)
                have HQ5 := Lib.hid hq5
                have u0 : (0 : Int) ≤ (j : Int) := by omega
                have u1 : ((j : Int)).toNat = j := by omega
                clear kf ho3 hn3 ho4 hq5 hr1 hr2 hz own5 hr2l nml hl2
                go_wp2_with fail
                go_region_held3 (fun w' => w'.cell? ⟨g, 9, none⟩ = some (.slice (some ad1) m c1) ∧ w'.cell? p1 = some (.string z.key) ∧ w'.cell? ⟨p1.block, p1.off + 1, none⟩ = some (.int .i64 z.K) ∧ w'.cell? ⟨p1.block, p1.off + 1 + 1, none⟩ = some (.int .i64 z.N) ∧ w'.cell? ⟨p1.block, p1.off + 1 + 2, none⟩ = some (.string z.S))
                  (first | exact HKF.out _ bb | exact HKF.out _ (bb.alloc bb.size _) | go_keep)
                  (first
                    | (go_at_call 31; (with_reducible refine hfd.mono ?_); rintro e w8 ⟨rfl, rfl⟩)
                    | (go_at_call 30; (with_reducible refine (rnum_z (by assumption) _).mono ?_); rintro e wn ⟨An, cn, rfl, own, b⟩; replace hq := (hq.below b).add own; replace bb := bb.trans (b.mono bb.size); clear own b)
                    | (go_at_call 32; (with_reducible refine (hby _).mono ?_); rintro e wn ⟨An, cn, rfl, own, b⟩; replace hq := (hq.below b).add own; replace bb := bb.trans (b.mono bb.size); clear own b)
                    | (go_at_call 28; (with_reducible refine (join3 hq o3 HLE.out HR.out HRB.out).mono ?_); rintro e wj ⟨Aj, cj, rfl, ownj, bj⟩; rw [HN3.out] at ownj ⊢; have ownz := own_base ownj (Nat.le_trans hwr (bb.alloc bb.size _).size); replace bb := (bb.alloc bb.size _).trans (bj.mono (bb.alloc bb.size _).size); clear ownj bj))
                have b6 := b5.trans (bb.mono b5.size)
                clear hq hfd hby HKF y9 y0 y1 y2 y3 f0 f1 f2 f3 x9 bb
                go_wp2
                go_roundw
                case rel => exact ⟨j + 1, o3, n3, Aj, cj, rfl, by go_num, by omega, HN3, HO4, ownz, b6⟩
                case measure => first | go_num | (simp [intOf]; omega)
              · have hjz : ¬ ((j : Int) < (m : Int)) := by omega
                have hjm' : j = m := by omega
                have ho9 : o2 = pre ++ ((pns L).take (i + 1)).flatMap (spB (texts (pns L))) := by
                  have hip : i < (pns L).length := by rw [HP.out]; exact hlt
                  have e1 : (pns L)[i] = (s, l) := by rw [pns_get L hil, HLi.out]
                  have e2 : l.take j = l := List.take_of_length_le (by rw [HM.out]; omega)
                  rw [HO2.out, ← HO1.out, HO.out, ← List.take_append_getElem hip, List.flatMap_append, e1, e2]
                  simp only [spB, List.flatMap_cons, List.flatMap_nil, List.append_nil, List.append_assoc, HM.out]
                have HO9 := Lib.hid ho9
                have b6 := bo4.trans (b5.mono bo4.size)
                clear ho9
                go_wp2
                go_roundw
                case rel => exact ⟨i + 1, o2, l2, A2, c2, rfl, by go_num, by omega, HLE, HO9, own5, b6⟩
                case measure => first | go_num | (simp [intOf]; omega)
        · have hik' : i = k := by omega
          subst hik'
          have hltz : ¬ ((i : Int) < (i : Int)) := by omega
          have ho : o = okB (pns L) := by
            rw [HO.out, ← HPRE.out, ← HTB.out, List.take_of_length_le (by rw [HP.out]; exact Nat.le_refl _)]
            unfold okB
            rw [HP.out, List.append_assoc]
          have bz := bw7.trans (bo.mono bw7.size)
          by_cases h65 : 65536 < lo
          · have h65z : (65536 : Int) < (lo : Int) := by omega
            have hpf : putF (pns L) = ([], 2) := by
              unfold putF
              rw [if_neg (by rw [HP.out]; omega), if_neg (fun hc => hc (cks_zero.2 hcks)), if_pos (by rw [← ho, HLO.out]; exact h65)]
            have HPF := Lib.hid hpf
            clear hpf
            go_wp2
            go_ret2
            rw [HPF.out]
            exact ⟨.inl ⟨by decide, rfl⟩, bz⟩
          · have h65z : ¬ ((65536 : Int) < (lo : Int)) := by omega
            have hpf : putF (pns L) = (o, 0) := by
              unfold putF
              rw [if_neg (by rw [HP.out]; omega), if_neg (fun hc => hc (cks_zero.2 hcks)), if_neg (by rw [← ho, HLO.out]; exact h65), ← ho]
            have HPF := Lib.hid hpf
            clear hpf
            go_wp2
            go_ret2
            rw [HPF.out]
            refine ⟨.inr ⟨rfl, Ao, co, ?_, ?_⟩, bz⟩
            · dsimp only
              rw [HLO.out]
              rfl
            · dsimp only
              rw [HLO.out]
              exact owno
end Go.Proofs.Ytndcdidepdcmnaa.B07
end

section
namespace Go.Proofs.Ytndcdidepdcmnaa.B07
open Go.RowKit Go.Lib Go.Maps Go.Proofs.Ytndcdidepdcmnaa.Wd

theorem puts_law (A : Option Addr) (c : Nat) (L : List Spn) (w : World) (hS : Sps w A c L) (hok : ∀ x ∈ pns L, OkP x) :
    Calls Try.prog 3 #[.slice A L.length c] w fun e w' => e = .returned (.bool true) ∧ Below w.heap.size w w' :=
  puts_walk (fun w A c n L h1 h2 h3 h4 h5 h6 h7 => rput_any w A c n L h1 h2 h3 h4 h5 h6 h7) A c L w hS hok
end Go.Proofs.Ytndcdidepdcmnaa.B07
end
