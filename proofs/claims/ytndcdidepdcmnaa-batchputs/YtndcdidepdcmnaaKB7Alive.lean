/-
  alive: the chapter's example, and a span.
-/
import Derived.Test.YtndcdidepdcmnaaKB7Lists
import Derived.Test.YtndcdidepdcmnaaKB7Put
import Derived.Test.YtndcdidepdcmnaaKB7Back
import Derived.Test.YtndcdidepdcmnaaKSame
set_option linter.unusedSimpArgs false
set_option linter.unusedVariables false
namespace Go.Proofs.Ytndcdidepdcmnaa.B07
open Go.RowKit Go.Lib Go.Maps Go.Proofs.Ytndcdidepdcmnaa.Wd Go.Proofs.Ytndcdidepdcmnaa.V01 Go.Proofs.Ytndcdidepdcmnaa.V04 Go.Proofs.Ytndcdidepdcmnaa.P06 Go.Proofs.Ytndcdidepdcmnaa.Q07
open Go.Proofs.Ytndcdidepdcmnaa.S05 (tb tx)

theorem OkN.ok {s : Sp} (h : OkN s) : okN s := ⟨h.a0, h.a1, h.b0, h.b1, h.c0, h.c1, h.d0, h.d1, h.e0, h.e1⟩
theorem okN.up {s : Sp} (h : okN s) : OkN s := ⟨h.a0, h.a1, h.b0, h.b1, h.c0, h.c1, h.d0, h.d1, h.e0, h.e1⟩
theorem OkP.ok {x : Pn} (h : OkP x) : okN x.1 ∧ ∀ a ∈ x.2, okA a := ⟨h.1.ok, h.2⟩

def one1 : Spn := ⟨oneS, none, 0, []⟩
theorem put_none : putF [] = ([0, 0], 0) := by
  have h1 : texts [] = [] := rfl
  have h2 : okB [] = [0, 0] := by
    unfold okB
    rw [h1]
    rfl
  unfold putF
  rw [h2]
  rfl
theorem ck_one : ck (oneS, []) = 0 := by decide
theorem one_ok : OkP (oneS, []) := ⟨⟨by decide, by decide, by decide, by decide, by decide, by decide, by decide, by decide, by decide, by decide⟩, fun _ h => by cases h⟩
theorem put_one : ∃ b, putF [(oneS, [])] = (b, 0) ∧ b.length ≤ 65536 ∧ getB b = .ok [(oneS, [])] := by
  have ht : (texts [(oneS, [])]).length ≤ 2 := by
    have := texts_len [(oneS, [])] 0 (by simp)
    simpa using this
  have hz : ∀ s ∈ texts [(oneS, [])], s.size ≤ 4096 := fun s hs => by
    obtain ⟨x, hx, h⟩ := texts_of hs
    simp at hx
    subst hx
    exact ck_size ck_one s h
  have hl : (okB [(oneS, [])]).length ≤ 65536 := by
    have h1 := S05.tx_len 4096 _ hz
    have h2 := S05.vby_le (texts [(oneS, [])]).length
    have h3 : (texts [(oneS, [])]).length * (4096 + 10) ≤ 2 * (4096 + 10) := Nat.mul_le_mul_right _ ht
    have h4 := spB_len (texts [(oneS, [])]) (oneS, [])
    have h5 := S05.vby_le 1
    have e : okB [(oneS, [])] = tb (texts [(oneS, [])]) ++ (vby 1 ++ spB (texts [(oneS, [])]) (oneS, [])) := by
      unfold okB
      rw [List.flatMap_cons, List.flatMap_nil, List.append_nil]
      rfl
    rw [e]
    unfold tb
    generalize texts [(oneS, [])] = t at h1 h2 h3 h4 ⊢
    generalize spB t (oneS, []) = q at h4 ⊢
    have h6 : q.length ≤ 100 := h4
    rw [List.length_append, List.length_append, List.length_append]
    omega
  have hp : putF [(oneS, [])] = (okB [(oneS, [])], 0) := by
    unfold putF
    rw [if_neg (by simp), cks_zero.2 (by simp [ck_one]), if_neg (by simp), if_neg (by omega)]
  exact ⟨_, hp, hl, (get_put_b (by intro x hx; simp at hx; subst hx; exact one_ok.ok) (by omega) hp).1⟩
theorem one_sm : SmP (oneS, []) := ⟨by decide, by decide, fun _ h => by cases h⟩

set_option maxRecDepth 20000 in
set_option maxHeartbeats 2000000 in
theorem alive_any (w : World) : Calls Try.prog 7 #[] w fun e w' => e = .returned (.bool true) ∧ Below w.heap.size w w' := by
  have hp0 := put_any w none 0 0 [] (Sps.nil w) rfl (by simp [pns]) (by simp [pns]) (by simp [pns, texts, adds]) (by omega)
  rw [show pns [] = [] from rfl, put_none] at hp0
  obtain ⟨b, hb, hbl, hget⟩ := put_one
  go_enter Try.func7, Try.ntmps7
  go_wp2_with fail
  refine hp0.mono ?_
  rintro e w1 ⟨h1, b1⟩
  rcases h1 with ⟨hx, _⟩ | ⟨_, A1, c1, rfl, own1⟩
  · exact absurd rfl hx
  have hB1 : Bs w1 A1 c1 [0, 0] := Bs.own own1
  clear hp0 own1
  go_wp2_with fail
  refine (one_any _).mono ?_
  rintro e w2 ⟨rfl, b2⟩
  have bb2 := b1.trans (b2.mono b1.size)
  have hB2 := hB1.below b2
  have hlit := Rd.lit10 w2 53 one1
  have bx := below_box w2 (.cells (tenA one1) 53) (Nat.le_refl _)
  have bb3 := bb2.trans (bx.mono bb2.size)
  have hB3 := hB2.below bx
  have hS3 : Sps (w2.alloc (.cells (tenA one1) 53)) (some ⟨w2.heap.size, 0, none⟩) 1 [one1] := ⟨by simpa using hlit, fun x hx => by simp at hx; subst hx; exact Ats.nil _⟩
  have hof := ofs_any _ _ 1 1 [one1] hS3 rfl (by omega) (by intro x hx; simp at hx; subst hx; simp [one1])
  clear b1 b2 hB1 hB2 hlit bx bb2 hS3
  go_wp2_with fail
  change Calls _ _ _ (w2.alloc (.cells (tenA one1) 53)) _
  generalize w2.alloc (.cells (tenA one1) 53) = w3 at hof bb3 hB3 ⊢
  refine hof.mono ?_
  rintro e w4 ⟨A4, c4, M, rfl, hMl, hMp, own4, b4⟩
  have bb4 := bb3.trans (b4.mono bb3.size)
  have hB4 := hB3.below b4
  have hpm : pns M = [(oneS, [])] := by rw [hMp]; rfl
  have hput := put_any w4 A4 c4 1 M own4.sps hMl (by rw [hpm]; intro x hx; simp at hx; subst hx; exact one_ok) (by rw [hpm]; intro x hx; simp at hx; subst hx; exact one_sm) (by
    rw [hpm]
    have := texts_len [(oneS, [])] 0 (by simp)
    simp at this
    omega) (by omega)
  rw [hpm, hb] at hput
  clear hof own4 b4 hB3 bb3 hMp hpm
  go_wp2_with fail
  refine hput.mono ?_
  rintro e w5 ⟨h5, b5⟩
  rcases h5 with ⟨hx, _⟩ | ⟨_, A5, c5, rfl, own5⟩
  · exact absurd rfl hx
  dsimp only at own5 ⊢
  have bb5 := bb4.trans (b5.mono bb4.size)
  have hB5 := hB4.below b5
  have hg := get_any A5 c5 b.length b w5 (Bs.own own5) rfl hbl
  rw [hget] at hg
  clear hput own5 b5 hB4 bb4
  obtain ⟨nb, hnb⟩ : ∃ nb, b.length = nb := ⟨_, rfl⟩
  rw [hnb] at hg ⊢
  go_wp2_with fail
  refine hg.mono ?_
  rintro e w6 ⟨⟨A6, c6, Ls, rfl, hLs, own6, _, _⟩, b6⟩
  have bb6 := bb5.trans (b6.mono bb5.size)
  have hB6 := hB5.below b6
  have hLl : 0 < Ls.length := by
    have := congrArg List.length hLs
    rw [pns_len] at this
    simp at this
    omega
  obtain ⟨ad, p, rfl, hp, F⟩ := own6.sps.get hLl
  have hsv : Ls[0].s.sv = ⟨#[119, 101, 98]⟩ := by
    have h0 := pns_get Ls hLl
    have h1 : (pns Ls)[0]'(by rw [pns_len]; exact hLl) = (oneS, []) := by simp only [hLs]; rfl
    rw [h1] at h0
    exact congrArg (fun z : Pn => z.1.sv) h0.symm
  have e0 : ad.add (0 * 10) = ad := by unfold Addr.add; simp
  rw [e0] at hp
  subst hp
  have f3 : w6.cell? ⟨ad.block, ad.off + 3, none⟩ = some (.string ⟨#[119, 101, 98]⟩) := by rw [← hsv]; exact F.c3
  have f0 := F.c0
  have hlit := Bs.lit w6 5 #[.int .u8 0, .int .u8 0] [0, 0] rfl (by simp)
  have bx := below_box w6 (.cells #[.int .u8 0, .int .u8 0] 5) (Nat.le_refl _)
  have hby := bytes_at A1 (some ⟨w6.heap.size, 0, none⟩) c1 2 2 2 [0, 0] [0, 0] true _ (hB6.below bx) hlit rfl rfl rfl
  have bb7 := bb6.trans (bx.mono bb6.size)
  have g3 : (w6.alloc (.cells #[.int .u8 0, .int .u8 0] 5)).cell? ⟨ad.block, ad.off + 3, none⟩ = some (.string ⟨#[119, 101, 98]⟩) := (bx.cell (p := ⟨ad.block, ad.off + 3, none⟩) (World.block_lt_of_cell? w6 ⟨ad.block, ad.off + 3, none⟩ f3)).trans f3
  clear hg own6 b6 hB5 bb5 F hlit hB6 bx
  go_wp2_with fail
  refine hby.mono ?_
  rintro e w7 ⟨rfl, rfl⟩
  clear hby f3 f0
  generalize w6.alloc (.cells #[.int .u8 0, .int .u8 0] 5) = w7 at g3 bb7 ⊢
  go_wp2
  go_ret
  exact ⟨rfl, bb7⟩
end Go.Proofs.Ytndcdidepdcmnaa.B07
