/-
  The walk of BatchBack: what is put is got; what is got is put as the same bytes.
-/
import Derived.Test.YtndcdidepdcmnaaKB7Alive
set_option linter.unusedSimpArgs false
set_option linter.unusedVariables false
namespace Go.Proofs.Ytndcdidepdcmnaa.B07
open Go.RowKit Go.Lib Go.Maps Go.Proofs.Ytndcdidepdcmnaa.Wd Go.Proofs.Ytndcdidepdcmnaa.V01 Go.Proofs.Ytndcdidepdcmnaa.V04 Go.Proofs.Ytndcdidepdcmnaa.P06 Go.Proofs.Ytndcdidepdcmnaa.Q07

theorem sm_ck {x : Pn} (h : ck x = 0) : SmP x := by
  have hs := ck_size h
  exact ⟨by have := hs x.1.sv (by simp [tex]); omega, by have := hs x.1.nm (by simp [tex]); omega, fun a ha => by have := hs a.key (by simp only [tex, List.mem_cons, List.mem_map]; exact .inr (.inr ⟨a, ha, rfl⟩)); omega⟩
theorem sm_near {x : Pn} (h : far x.1 x.2 = false) : SmP x := by
  obtain ⟨h1, h2, h3, h4⟩ := far_sizes h
  exact ⟨by omega, by omega, fun a ha => by have := (h4 a ha).1; omega⟩
theorem near_texts {L : List Pn} (h : Near L) (hl : L.length ≤ 1024) : (texts L).length ≤ 4096 := by
  have h1 := texts_len L 40 fun x hx => (far_sizes (h.each x hx)).2.2.1
  have h2 : L.length ≤ 40 := by rcases h.len with h | h <;> omega
  have h3 : L.length * (40 + 2) ≤ 40 * (40 + 2) := Nat.mul_le_mul_right _ h2
  omega
/-- Put of spans that are not too far -/
theorem put_near (w : World) (A : Option Addr) (c n : Nat) (L : List Spn) (h : Sps w A c L) (hn : L.length = n) (hok : ∀ x ∈ pns L, OkP x) (hN : Near (pns L)) : Calls Try.prog 9 #[.slice A n c] w (PutOut w (putF (pns L))) := by
  by_cases hl : n ≤ 1024
  · exact put_any w A c n L h hn hok (fun x hx => sm_near (hN.each x hx)) (near_texts hN (by rw [pns_len]; omega)) hl
  · have : putF (pns L) = ([], 2) := by unfold putF; rw [if_pos (by rw [pns_len]; omega)]
    rw [this]
    exact put_many w A c n (by omega)
theorem near_len {L : List Spn} (h : Near (pns L)) : L.length ≤ 1100 ∧ ∀ x ∈ L, x.l.length ≤ 40 := by
  refine ⟨by have := h.len; rw [pns_len] at this; omega, fun x hx => ?_⟩
  exact (far_sizes (h.each x.pn (List.mem_map.2 ⟨x, hx, rfl⟩))).2.2.1

set_option maxRecDepth 20000 in
set_option maxHeartbeats 8000000 in
theorem back_law (A : Option Addr) (c : Nat) (L : List Spn) (B : Option Addr) (d : Nat) (b : List UInt8) (w : World) (hS : Sps w A c L) (hok : ∀ x ∈ pns L, OkP x) (hB : Bs w B d b) :
    Calls Try.prog 5 #[.slice A L.length c, .slice B b.length d] w fun e w' => e = .returned (.bool true) ∧ Below w.heap.size w w' := by
  obtain ⟨i0, hi, hz0, hz1, hz2⟩ := info_parts V01.byte_info
  have hmax : L.length ≤ 9223372036854775807 ∧ b.length ≤ 9223372036854775807 := by
    have h1 := hS.rd.max
    have h2 := hS.rd.cap
    have h3 := hB.max
    have h4 := hB.cap
    unfold maxLen at h1 h3
    omega
  obtain ⟨n, hn⟩ : ∃ n, L.length = n := ⟨_, rfl⟩
  obtain ⟨len, hlen⟩ : ∃ n, b.length = n := ⟨_, rfl⟩
  rw [hn, hlen] at hmax ⊢
  have HN := Lib.hid hn
  have HLen := Lib.hid hlen
  clear hn hlen
  go_enter Try.func5, Try.ntmps5
  go_wp2_with fail
  refine (alive_any _).mono ?_
  rintro e w1 ⟨rfl, b1⟩
  have hS1 := hS.below b1
  have hB1 := hB.below b1
  have hf := fars_any w1 A c n L hS1 HN.out hmax.1
  clear hS hB
  go_wp2_with fail
  refine hf.mono ?_
  rintro e w2 ⟨fb, rfl, hnear, b2⟩
  have bb2 := b1.trans (b2.mono b1.size)
  have hS2 := hS1.below b2
  have hB2 := hB1.below b2
  clear hf hS1 hB1 b1 b2
  cases fb with
  | true =>
    go_wp2
    go_ret
    exact ⟨rfl, bb2⟩
  | false =>
    have hNr := hnear rfl
    clear hnear
    by_cases h3 : 3000 < len
    · have hz3 : (3000 : Int) < (len : Int) := by omega
      go_wp2
      go_ret
      exact ⟨rfl, bb2⟩
    · have hz3 : ¬ ((3000 : Int) < (len : Int)) := by omega
      obtain ⟨hl1, hl2⟩ := near_len hNr
      have hof := ofs_any w2 A c n L hS2 HN.out (by rw [HN.out] at hl1; exact hl1) hl2
      go_wp2_with fail
      refine hof.mono ?_
      rintro e w3 ⟨A3, c3, M, rfl, hMl, hMp, own3, b3⟩
      have bb3 := bb2.trans (b3.mono bb2.size)
      have hS3 := hS2.below b3
      have hB3 := hB2.below b3
      have hput := put_near w3 A3 c3 n M own3.sps hMl (by rw [hMp]; exact hok) (by rw [hMp]; exact hNr)
      rw [hMp] at hput
      clear hof own3 hS2 hB2 bb2 b3 hMp hMl
      go_wp2_with fail
      refine hput.mono ?_
      rintro e w4 ⟨h4, b4⟩
      have bb4 := bb3.trans (b4.mono bb3.size)
      have hS4 := hS3.below b4
      have hB4 := hB3.below b4
      clear hput hS3 hB3 b4
      obtain ⟨⟨q, er⟩, hr⟩ : ∃ r, putF (pns L) = r := ⟨_, rfl⟩
      rw [hr] at h4
      dsimp only at h4
      rcases h4 with ⟨her, rfl⟩ | ⟨her, A4, c4, rfl, own4⟩
      · have hez : ¬ ((er : Int) = 0) := by omega
        clear hr
        -- the second half: any bytes
        have hgb := get_any B d len b w4 hB4 HLen.out (by omega)
        go_wp2_with fail
        refine hgb.mono ?_
        rintro e w10 ⟨h10, b10⟩
        have bb10 := bb4.trans (b10.mono bb4.size)
        have hB10 := hB4.below b10
        clear hgb
        cases hgr : getB b with
        | error f =>
          rw [hgr] at h10
          obtain ⟨hf0, rfl⟩ := h10
          have hfz : ¬ ((f : Int) = 0) := by omega
          clear hgr
          go_wp2
          go_ret
          exact ⟨rfl, bb10⟩
        | ok X =>
          rw [hgr] at h10
          obtain ⟨A10, c10, Xs, rfl, hXp, own10, hX16, hX1024⟩ := h10
          obtain ⟨i1, i2, i3, i4, i5, i6⟩ := get_inv hgr
          have hXl : Xs.length = X.length := by rw [← hXp, pns_len]
          have hpX := put_any w10 A10 c10 X.length Xs own10.sps hXl (by rw [hXp]; exact fun x hx => ⟨(i2 x hx).1.n.up, fun a ha => ((i2 x hx).1.at_ a ha).2⟩) (by rw [hXp]; exact fun x hx => sm_ck (i2 x hx).2) (by rw [hXp]; exact i4) i3
          rw [hXp, i6] at hpX
          obtain ⟨nx, hnx⟩ : ∃ nx, X.length = nx := ⟨_, rfl⟩
          rw [hnx] at hpX ⊢
          clear hgr own10 i1 i2 i4 i6 hXl
          go_wp2_with fail
          refine hpX.mono ?_
          rintro e w11 ⟨h11, b11⟩
          rcases h11 with ⟨hx, _⟩ | ⟨_, A11, c11, rfl, own11⟩
          · exact absurd rfl hx
          dsimp only at own11 ⊢
          have bb11 := bb10.trans (b11.mono bb10.size)
          have hby := bytes_at A11 B c11 d b.length len b b true w11 (Bs.own own11) (hB10.below b11) rfl HLen.out (by simp)
          rw [HLen.out] at hby ⊢
          clear hpX own11 b11
          go_wp2_with fail
          refine hby.mono ?_
          rintro e w12 ⟨rfl, rfl⟩
          clear hby
          go_wp2
          go_ret
          exact ⟨rfl, bb11⟩
      · subst her
        have hpl : (pns L).length ≤ 1024 := by
          unfold putF at hr
          split at hr
          · cases hr
          · omega
        obtain ⟨g1, g2, g3, g4, g5⟩ := get_put_b (fun x hx => (hok x hx).ok) (near_texts hNr hpl) hr
        have hQ4 := Bs.own own4
        have hgc := get_any A4 c4 q.length q w4 hQ4 rfl g5
        rw [g1] at hgc
        obtain ⟨e5, he5, he5'⟩ := get_more (L := pns L) (fun x hx => (hok x hx).ok) (near_texts hNr hpl) g4 g3 0
        rw [← g2] at he5
        have HE5 := Lib.hid he5
        clear hr g1 g2 g4 own4 he5
        obtain ⟨nq, hnq⟩ : ∃ nq, q.length = nq := ⟨_, rfl⟩
        rw [hnq] at hgc g5 ⊢
        have HQ := Lib.hid hnq
        go_wp2_with fail
        refine hgc.mono ?_
        rintro e w5 ⟨⟨A5, c5, Ls, rfl, hLs, own5, hL16, hL1024⟩, b5⟩
        have bb5 := bb4.trans (b5.mono bb4.size)
        have hS5 := hS4.below b5
        have hB5 := hB4.below b5
        have hQ5 := hQ4.below b5
        have hLsl : Ls.length = n := by rw [← pns_len, hLs, pns_len, HN.out]
        rw [pns_len, HN.out] at hL1024 ⊢
        have hto := tos_any w5 A5 c5 n Ls own5.sps hLsl (by omega) (fun x hx => by
          have h1 : x.pn ∈ pns Ls := List.mem_map.2 ⟨x, hx, rfl⟩
          rw [hLs] at h1
          have := hL16 _ h1
          have h2 : x.l.length ≤ 16 := this
          omega)
        clear hgc own5 hS4 hB4 hQ4 b5 bb4
        go_wp2_with fail
        refine hto.mono ?_
        rintro e w6 ⟨A6, c6, M6, rfl, hM6, hMp6, own6, b6⟩
        have bb6 := bb5.trans (b6.mono bb5.size)
        have hS6 := hS5.below b6
        have hB6 := hB5.below b6
        have hQ6 := hQ5.below b6
        have hsm := sames_any w6 A6 A c6 c n n M6 L true own6.sps hS6 hM6 HN.out (by omega) hmax.1 (fun x hx => by
          have h1 : x.pn ∈ pns M6 := List.mem_map.2 ⟨x, hx, rfl⟩
          rw [hMp6, hLs] at h1
          have := hL16 _ h1
          have h2 : x.l.length ≤ 16 := this
          omega) hl2 (by rw [hMp6, hLs]; simp)
        clear hto own6 hS5 hB5 hQ5 b6 bb5
        go_wp2_with fail
        refine hsm.mono ?_
        rintro e w7 ⟨rfl, b7⟩
        have bb7 := bb6.trans (b7.mono bb6.size)
        have hB7 := hB6.below b7
        have hQ7 := hQ6.below b7
        have be := below_box w7 (.cells #[] 5) (Nat.le_refl _)
        have hQ7' : Rd 1 (w7.alloc (.cells #[] 5)) A4 nq c4 (Lib.byteCells q) := by
          have := hQ7.below be
          unfold Bs at this
          rw [HQ.out] at this
          exact this
        have hown7 := own_empty w7 5
        have bb7' := bb7.trans (be.mono bb7.size)
        clear hsm hB6 hQ6 b7 bb6 hS6
        go_wp2_with (at_builtin; refine wpList_append_rd _ rfl (.tmp 47) (.tmp 48) 25 rfl w7.heap.size 5 i0 _ 1 1 Try.underlying25 hi hz0 hz1 hz2 rfl (by decide) _ 0 [] rfl hown7 A4 nq c4 (Lib.byteCells q) rfl hQ7' (bc_one q) ?d1 ?d2 ?d3 ?_)
        case d1 => unfold maxLen; omega
        case d2 => omega
        case d3 => simp
        intro A8 c8 w8 hown8 hg8
        have bb8 : Below w7.heap.size w7 w8 := be.grown hg8 (by simp) (fun k hk => (hown7.lt k hk).1)
        have hown8' : w8.ownsRow w7.heap.size 5 1 (.slice A8 nq c8) nq (Lib.byteCells q) := by simpa using hown8
        clear hown8 hg8 hown7 hQ7' bb7' be
        go_wp2_with (at_builtin; refine wpList_append_one w8 rfl (.tmp 49) (.tmp 50) 25 rfl w7.heap.size 5 i0 _ 1 Try.underlying25 hi hz0 hz1 hz2 rfl (.slice A8 nq c8) nq (Lib.byteCells q) rfl hown8' (.int .u8 0) rfl rfl ?d4 ?d5 ?d6 ?_)
        case d4 => unfold maxLen; omega
        case d5 => omega
        case d6 => exact bb8.size
        intro A9 c9 w9 hown9 b9
        have bb9 : Below w7.heap.size w7 w9 := bb8.trans b9
        have hq0 : (q ++ [0]).length = nq + 1 := by rw [List.length_append, HQ.out]; rfl
        have hBs9 : Bs w9 A9 c9 (q ++ [0]) := by
          have h1 : Lib.byteCells q ++ [.int .u8 0] = Lib.byteCells (q ++ [0]) := by rw [bc_app]; rfl
          rw [h1] at hown9
          unfold Bs
          rw [hq0]
          exact Rd.own hown9
        have hB9 := hB7.below bb9
        have bbw9 := bb7.trans (bb9.mono bb7.size)
        have hg9 : Calls Try.prog 13 #[.slice A9 (nq + 1) c9] w9 (GetOut w9 (getB (q ++ [0]))) := by
          by_cases h65 : nq + 1 ≤ 65536
          · exact get_any A9 c9 (nq + 1) (q ++ [0]) w9 hBs9 hq0 h65
          · exact get_long A9 c9 (nq + 1) (q ++ [0]) w9 hq0 (by omega)
        rw [HE5.out] at hg9
        clear hown9 b9 bb9 bb8 hown8' hB7 hQ7 hBs9
        go_wp2_with fail
        refine hg9.mono ?_
        rintro e w9b ⟨⟨_, rfl⟩, b9b⟩
        have bb9b := bbw9.trans (b9b.mono bbw9.size)
        have hB9b := hB9.below b9b
        have he5z : ¬ ((e5 : Int) = 0) := by omega
        clear hg9 hB9 b9b bbw9 HE5
        -- the second half: any bytes
        have hgb := get_any B d len b w9b hB9b HLen.out (by omega)
        go_wp2_with fail
        refine hgb.mono ?_
        rintro e w10 ⟨h10, b10⟩
        have bb10 := bb9b.trans (b10.mono bb9b.size)
        have hB10 := hB9b.below b10
        clear hgb
        cases hgr : getB b with
        | error f =>
          rw [hgr] at h10
          obtain ⟨hf0, rfl⟩ := h10
          have hfz : ¬ ((f : Int) = 0) := by omega
          clear hgr
          go_wp2
          go_ret
          exact ⟨rfl, bb10⟩
        | ok X =>
          rw [hgr] at h10
          obtain ⟨A10, c10, Xs, rfl, hXp, own10, hX16, hX1024⟩ := h10
          obtain ⟨i1, i2, i3, i4, i5, i6⟩ := get_inv hgr
          have hXl : Xs.length = X.length := by rw [← hXp, pns_len]
          have hpX := put_any w10 A10 c10 X.length Xs own10.sps hXl (by rw [hXp]; exact fun x hx => ⟨(i2 x hx).1.n.up, fun a ha => ((i2 x hx).1.at_ a ha).2⟩) (by rw [hXp]; exact fun x hx => sm_ck (i2 x hx).2) (by rw [hXp]; exact i4) i3
          rw [hXp, i6] at hpX
          obtain ⟨nx, hnx⟩ : ∃ nx, X.length = nx := ⟨_, rfl⟩
          rw [hnx] at hpX ⊢
          clear hgr own10 i1 i2 i4 i6 hXl
          go_wp2_with fail
          refine hpX.mono ?_
          rintro e w11 ⟨h11, b11⟩
          rcases h11 with ⟨hx, _⟩ | ⟨_, A11, c11, rfl, own11⟩
          · exact absurd rfl hx
          dsimp only at own11 ⊢
          have bb11 := bb10.trans (b11.mono bb10.size)
          have hby := bytes_at A11 B c11 d b.length len b b true w11 (Bs.own own11) (hB10.below b11) rfl HLen.out (by simp)
          rw [HLen.out] at hby ⊢
          clear hpX own11 b11
          go_wp2_with fail
          refine hby.mono ?_
          rintro e w12 ⟨rfl, rfl⟩
          clear hby
          go_wp2
          go_ret
          exact ⟨rfl, bb11⟩
end Go.Proofs.Ytndcdidepdcmnaa.B07
