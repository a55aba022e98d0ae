/-
  The walk of BatchGets, the document's Get being given.
  BatchGets.
-/
import Derived.Test.YtndcdidepdcmnaaKB7Alive
import Derived.Test.YtndcdidepdcmnaaKB7GetR
import Derived.Test.YtndcdidepdcmnaaKB7RefG
section
set_option linter.unusedSimpArgs false
set_option linter.unusedVariables false
namespace Go.Proofs.Ytndcdidepdcmnaa.B07
open Go.RowKit Go.Lib Go.Maps Go.Proofs.Ytndcdidepdcmnaa.Wd Go.Proofs.Ytndcdidepdcmnaa.V01 Go.Proofs.Ytndcdidepdcmnaa.V04 Go.Proofs.Ytndcdidepdcmnaa.P06 Go.Proofs.Ytndcdidepdcmnaa.Q07

set_option maxRecDepth 20000 in
set_option maxHeartbeats 8000000 in
theorem gets_walk (hrg : ∀ (A : Option Addr) (c len : Nat) (b : List UInt8) (w : World), Bs w A c b → b.length = len → len ≤ 3000 → Calls Try.prog 14 #[.slice A len c] w (RGetOut w (getB b)))
    (B : Option Addr) (d : Nat) (b : List UInt8) (w : World) (hB : Bs w B d b) :
    Calls Try.prog 4 #[.slice B b.length d] w fun e w' => e = .returned (.bool true) ∧ Below w.heap.size w w' := by
  have hmax : b.length ≤ 9223372036854775807 := by
    have h3 := hB.max
    have h4 := hB.cap
    unfold maxLen at h3
    omega
  obtain ⟨len, hlen⟩ : ∃ n, b.length = n := ⟨_, rfl⟩
  rw [hlen] at hmax ⊢
  have HLen := Lib.hid hlen
  have HRG := Lib.hid hrg
  clear hlen hrg
  go_enter Try.func4, Try.ntmps4
  go_wp2_with fail
  refine (alive_any _).mono ?_
  rintro e w1 ⟨rfl, b1⟩
  have hB1 := hB.below b1
  clear hB
  by_cases h3 : 3000 < len
  · have hz3 : (3000 : Int) < (len : Int) := by omega
    go_wp2
    go_ret
    exact ⟨rfl, b1⟩
  · have hz3 : ¬ ((3000 : Int) < (len : Int)) := by omega
    have hgb := get_any B d len b w1 hB1 HLen.out (by omega)
    go_wp2_with fail
    refine hgb.mono ?_
    rintro e w2 ⟨h2, b2⟩
    have bb2 := b1.trans (b2.mono b1.size)
    have hB2 := hB1.below b2
    have hg2 := HRG.out B d len b w2 hB2 HLen.out (by omega)
    clear hgb hB1 b1
    cases hgr : getB b with
    | error f =>
      rw [hgr] at h2 hg2
      obtain ⟨hf0, rfl⟩ := h2
      clear hgr
      go_wp2_with fail
      refine hg2.mono ?_
      rintro e w3 ⟨⟨hf1, rfl⟩, b3⟩
      have bb3 := bb2.trans (b3.mono bb2.size)
      have hto := tos_any w3 none 0 0 [] (Sps.nil _) rfl (by omega) (fun x hx => (by cases hx))
      clear hg2
      go_wp2_with fail
      refine hto.mono ?_
      rintro e w6 ⟨A6, c6, M6, rfl, hM6, hMp6, own6, b6⟩
      have bb6 := bb3.trans (b6.mono bb3.size)
      have hM0 : M6 = [] := List.eq_nil_of_length_eq_zero hM6
      have hsm := sames_any w6 A6 none c6 0 0 0 M6 [] true own6.sps (Sps.nil _) hM6 rfl (by omega) (by omega) (fun x hx => by rw [hM0] at hx; cases hx) (fun x hx => (by cases hx)) (by rw [hM0]; simp)
      clear hto own6
      go_wp2_with fail
      refine hsm.mono ?_
      rintro e w7 ⟨rfl, b7⟩
      have bb7 := bb6.trans (b7.mono bb6.size)
      go_wp2
      go_ret
      exact ⟨rfl, bb7⟩
    | ok X =>
      rw [hgr] at h2 hg2
      obtain ⟨A5, c5, Ls, rfl, hLs, own5, hL16, hL1024⟩ := h2
      clear hgr
      obtain ⟨nx, hnx⟩ : ∃ nx, X.length = nx := ⟨_, rfl⟩
      have HNX := Lib.hid hnx
      rw [hnx] at hL1024
      go_wp2_with fail
      refine hg2.mono ?_
      rintro e w3 ⟨⟨A8, c8, Ms, rfl, hMs, own8, -, -⟩, b3⟩
      have bb3 := bb2.trans (b3.mono bb2.size)
      have hS3 := own5.sps.below b3
      have hLsl : Ls.length = nx := by rw [← pns_len, hLs, HNX.out]
      have hMsl : Ms.length = nx := by rw [← pns_len, hMs, HNX.out]
      have h16 : ∀ (Q : List Spn), pns Q = X → ∀ x ∈ Q, x.l.length ≤ 40 := fun Q hQ x hx => by
        have h1 : x.pn ∈ pns Q := List.mem_map.2 ⟨x, hx, rfl⟩
        rw [hQ] at h1
        have := hL16 _ h1
        have h2 : x.l.length ≤ 16 := this
        omega
      have hto := tos_any w3 A5 c5 nx Ls hS3 hLsl (by omega) (h16 Ls hLs)
      clear hg2 own5
      rw [hnx]
      clear hnx
      go_wp2_with fail
      refine hto.mono ?_
      rintro e w6 ⟨A6, c6, M6, rfl, hM6, hMp6, own6, b6⟩
      have bb6 := bb3.trans (b6.mono bb3.size)
      have hS6 := own8.sps.below b6
      have hsm := sames_any w6 A6 A8 c6 c8 nx nx M6 Ms true own6.sps hS6 hM6 hMsl (by omega) (by omega) (h16 M6 (by rw [hMp6, hLs])) (h16 Ms hMs) (by rw [hMp6, hLs, hMs]; simp)
      clear hto own6 hS3 own8
      go_wp2_with fail
      refine hsm.mono ?_
      rintro e w7 ⟨rfl, b7⟩
      have bb7 := bb6.trans (b7.mono bb6.size)
      go_wp2
      go_ret
      exact ⟨rfl, bb7⟩
end Go.Proofs.Ytndcdidepdcmnaa.B07
end

section
namespace Go.Proofs.Ytndcdidepdcmnaa.B07
open Go.RowKit Go.Lib Go.Maps Go.Proofs.Ytndcdidepdcmnaa.Wd

theorem gets_law (B : Option Addr) (d : Nat) (b : List UInt8) (w : World) (hB : Bs w B d b) :
    Calls Try.prog 4 #[.slice B b.length d] w fun e w' => e = .returned (.bool true) ∧ Below w.heap.size w w' :=
  gets_walk (fun A c len b w h1 h2 h3 => rgetb_any A c len b w h1 h2 h3) B d b w hB
end Go.Proofs.Ytndcdidepdcmnaa.B07
end
