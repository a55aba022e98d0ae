/-
  The reader's methods: take, number, count, octet, meet, text, value.
-/
import Derived.Test.YtndcdidepdcmnaaKB7Rd
set_option linter.unusedSimpArgs false
set_option linter.unusedVariables false
namespace Go.Proofs.Ytndcdidepdcmnaa.B07
open Go.RowKit Go.Lib Go.Maps Go.Proofs.Ytndcdidepdcmnaa.Wd Go.Proofs.Ytndcdidepdcmnaa.V01 Go.Proofs.Ytndcdidepdcmnaa.V04 Go.Proofs.Ytndcdidepdcmnaa.P06
open Go.Proofs.Ytndcdidepdcmnaa.S05 (Fr Sub Tab)
variable {t : List ByteArray} {w w' : World} {g : Nat} {Q : List Nat} {σ : Except Nat S7}

set_option maxRecDepth 20000 in
theorem take_err (k : Int) (e : Nat) (h : Rs t w g Q σ) (he : e ≠ 0) (hm : e ≤ 1000) :
    Calls Try.prog 50 #[.pointer (some ⟨g, 0, none⟩), .int .i64 k, .int .i64 (e : Int)] w fun x w' => x = .returned (.tuple #[]) ∧ Rs t w' g Q (failS e σ) ∧ Fr [g] w w' := by
  have hne : ¬ ((e : Int) = 0) := by omega
  have hf := fail_any e h he hm
  go_enter Try.func50, Try.ntmps50
  go_wp2_with fail
  refine hf.mono ?_
  rintro x w2 ⟨rfl, h2, f2⟩
  go_wp2
  refine bodyPost_ret (results_none rfl _ _ _) rfl ?_
  exact ⟨rfl, h2, f2⟩

set_option maxRecDepth 20000 in
set_option maxHeartbeats 1000000 in
theorem take_ok (k : Nat) (l : List UInt8) (m : Nat) (sk : Bool) (h : Rs t w g Q (.ok (l, m, sk))) (hk : k ≤ l.length) :
    Calls Try.prog 50 #[.pointer (some ⟨g, 0, none⟩), .int .i64 (k : Int), .int .i64 0] w fun x w' => x = .returned (.tuple #[]) ∧ Rs t w' g Q (.ok (l.drop k, m, sk)) ∧ Fr [g] w w' := by
  obtain ⟨A, c, p, o, h⟩ := h
  have hB := h.box
  have hlen := h.len
  have hcap := h.bs.cap
  have hmax := h.bs.max
  have hd := h.bs.drop k hk
  unfold maxLen at hmax
  dsimp only at hB hlen hcap hd
  have hdl : (l.drop k).length = l.length - k := List.length_drop ..
  obtain ⟨n, hn⟩ : ∃ n, l.length = n := ⟨_, rfl⟩
  rw [hn] at hB hlen hcap hk hdl
  have c0 : w.cell? ⟨g, 0, none⟩ = some (.slice A n c) := hB.cell 0
  have f0 := hB.frozen 0
  have hc1 : (0 : Int) ≤ (k : Int) := by omega
  have hc2 : (k : Int) ≤ (n : Int) := by omega
  have hc3 : (n : Int) ≤ (c : Int) := by omega
  have hc4 : ((k : Int)).toNat = k := by omega
  have HN := Lib.hid hn
  clear hn
  by_cases hck : c = k
  · have hn0 : n = k := by omega
    have e0 : cutA A c k = A := by unfold cutA; rw [if_pos hck]
    rw [e0] at hd
    have hB2 := hB.set 0 (.slice A 0 0)
    have hF := fr_set w g 0 (.slice A 0 0)
    have hR : Rs t (w.setCell ⟨g, 0, none⟩ (.slice A 0 0)) g Q (.ok (l.drop k, m, sk)) :=
      ⟨A, 0, p, o, h.put (by show Bk _ _ _ (rdc (.slice A (l.drop k).length 0) 0 (some ⟨p, 0, none⟩) m sk); rw [hdl, hn0, Nat.sub_self]; simpa [rdc] using hB2) hF (by have := hd; rw [hck, Nat.sub_self] at this; exact this) (fun a e => ⟨a, e, rfl⟩) (by show (l.drop k).length ≤ 65536; omega) h.met⟩
    have HR := Lib.hid hR
    have HF := Lib.hid hF
    subst hn0
    subst hck
    clear hR hF hB hB2 h hd
    go_enter Try.func50, Try.ntmps50
    go_wp2
    refine bodyPost_end (results_none rfl _ _ _) rfl ?_
    exact ⟨rfl, HR.out, HF.out⟩
  · have hckz : ¬ ((c : Int) = (k : Int)) := by omega
    have e0 : cutA A c k = A.map (·.add k) := by unfold cutA; rw [if_neg hck]
    rw [e0] at hd
    have hB2 := hB.set 0 (.slice (A.map (·.add k)) (n - k) (c - k))
    have hF := fr_set w g 0 (.slice (A.map (·.add k)) (n - k) (c - k))
    have hR : Rs t (w.setCell ⟨g, 0, none⟩ (.slice (A.map (·.add k)) (n - k) (c - k))) g Q (.ok (l.drop k, m, sk)) :=
      ⟨A.map (·.add k), c - k, p, o, h.put (by show Bk _ _ _ (rdc (.slice (A.map (·.add k)) (l.drop k).length (c - k)) 0 (some ⟨p, 0, none⟩) m sk); rw [hdl]; simpa [rdc] using hB2) hF hd (fun a e => by
        cases A with
        | none => cases e
        | some a0 =>
          injection e with e
          exact ⟨a0, rfl, by rw [← e, add_block]⟩) (by show (l.drop k).length ≤ 65536; omega) h.met⟩
    have HR := Lib.hid hR
    have HF := Lib.hid hF
    clear hR hF hB hB2 h hd
    go_enter Try.func50, Try.ntmps50
    go_wp2
    refine bodyPost_end (results_none rfl _ _ _) rfl ?_
    exact ⟨rfl, HR.out, HF.out⟩

/-- what a method leaves: the reader, with what it has read or its error, and an answer -/
def MOut {α : Type} (t : List ByteArray) (w : World) (g : Nat) (Q : List Nat) (σ : Except Nat S7) (p : R7 α) (enc : α → World → Ending → Prop) (x : Ending) (w' : World) : Prop :=
  ∃ σ' a, enc a w' x ∧ Rs t w' g Q σ' ∧ Fr [g] w w' ∧ step σ p = step σ' (ret a)
def encN (n : Nat) (_ : World) (x : Ending) : Prop := x = .returned (.int .u64 (n : Int)) ∧ n ≤ 18446744073709551615
def encI (most : Nat) (n : Nat) (_ : World) (x : Ending) : Prop := x = .returned (.int .i64 (n : Int)) ∧ n ≤ most

set_option maxRecDepth 20000 in
set_option maxHeartbeats 1000000 in
theorem rnum_any (h : Rs t w g Q σ) : Calls Try.prog 62 #[.pointer (some ⟨g, 0, none⟩)] w (MOut t w g Q σ num encN) := by
  cases σ with
  | ok s =>
    obtain ⟨l, m, sk⟩ := s
    have h0 := h
    obtain ⟨A, c, p, o, h⟩ := h
    have hB := h.box
    have hbs := h.bs
    have hlen := h.len
    dsimp only at hB hbs hlen
    have hle := getF_le l
    have hern := getF_err (nat8 l) 0 0
    obtain ⟨⟨n, k, e⟩, hg⟩ : ∃ r, getF 0 0 (nat8 l) = r := ⟨_, rfl⟩
    rw [hg] at hle hern
    dsimp only at hle hern
    obtain ⟨len, hl⟩ : ∃ len, l.length = len := ⟨_, rfl⟩
    have c0 : w.cell? ⟨g, 0, none⟩ = some (.slice A len c) := by rw [← hl]; exact hB.cell 0
    have hget := V01.get_at A c len l n k e w hbs hl (by omega) hg
    have HG := Lib.hid hg
    have HE := Lib.hid hern
    have HL := Lib.hid hle
    by_cases he : e = 0
    · have htake := take_ok k l m sk h0 hle.2.1
      subst he
      clear hB hbs h hg hl hern hlen hle h0
      go_enter Try.func62, Try.ntmps62
      go_wp2_with fail
      refine hget.mono ?_
      rintro x w2 ⟨rfl, rfl⟩
      clear hget
      go_wp2_with fail
      refine htake.mono ?_
      rintro x w2 ⟨rfl, h2, f2⟩
      clear htake c0
      go_wp2
      go_ret
      refine ⟨_, n, ⟨rfl, HL.out.1⟩, h2, f2, ?_⟩
      simp [step, num, ret, HG.out]
    · have htake := take_err (k : Int) e h0 he (by omega)
      clear hB hbs h hg hl hern hlen hle h0
      go_enter Try.func62, Try.ntmps62
      go_wp2_with fail
      refine hget.mono ?_
      rintro x w2 ⟨rfl, rfl⟩
      clear hget
      go_wp2_with fail
      refine htake.mono ?_
      rintro x w2 ⟨rfl, h2, f2⟩
      clear htake c0
      go_wp2
      go_ret
      refine ⟨_, n, ⟨rfl, HL.out.1⟩, h2, f2, ?_⟩
      simp [step, num, ret, failS, HG.out, he]
  | error f =>
    have h0 := h
    obtain ⟨m, sk, hB⟩ := h.box
    have c0 : w.cell? ⟨g, 0, none⟩ = some (.slice none 0 0) := hB.cell 0
    have hget := V01.get_at none 0 0 [] 0 0 10 w (Bs.nil w) rfl (by omega) rfl
    have htake := take_err 0 10 h0 (by omega) (by omega)
    clear hB h h0
    go_enter Try.func62, Try.ntmps62
    go_wp2_with fail
    refine hget.mono ?_
    rintro x w2 ⟨rfl, rfl⟩
    clear hget
    go_wp2_with fail
    refine htake.mono ?_
    rintro x w2 ⟨rfl, h2, f2⟩
    clear htake c0
    go_wp2
    go_ret
    exact ⟨_, 0, ⟨rfl, by omega⟩, h2, f2, rfl⟩

set_option maxRecDepth 20000 in
set_option maxHeartbeats 1000000 in
theorem rcnt_any (most : Nat) (hm : most ≤ 1000000) (h : Rs t w g Q σ) : Calls Try.prog 51 #[.pointer (some ⟨g, 0, none⟩), .int .u64 (most : Int)] w (MOut t w g Q σ (cnt most) (encI most)) := by
  have hn := rnum_any h
  go_enter Try.func51, Try.ntmps51
  go_wp2_with fail
  refine hn.mono ?_
  rintro x w2 ⟨σ2, n, ⟨rfl, hle⟩, h2, f2, e2⟩
  clear hn
  have E2 := Lib.hid (step_bnd e2 fun n => if most < n then err 11 else ret n)
  have F2 := Lib.hid f2
  clear e2 f2
  by_cases hgt : most < n
  · have hz : (most : Int) < (n : Int) := by omega
    have hf := fail_any 11 h2 (by omega) (by omega)
    go_wp2_with fail
    refine hf.mono ?_
    rintro x w3 ⟨rfl, h3, f3⟩
    clear hf h2
    go_wp2
    go_ret
    refine ⟨_, 0, ⟨rfl, Nat.zero_le _⟩, h3, B07.Fr.again F2.out f3, ?_⟩
    show step σ (bnd num _) = _
    rw [E2.out, if_pos hgt]
    cases σ2 <;> rfl
  · have hz : ¬ ((most : Int) < (n : Int)) := by omega
    have hw : n ≤ 1000000 := by omega
    go_wp2
    go_ret
    refine ⟨_, n, ⟨rfl, by omega⟩, h2, F2.out, ?_⟩
    show step σ (bnd num _) = _
    rw [E2.out, if_neg hgt]

set_option maxRecDepth 20000 in
set_option maxHeartbeats 1000000 in
theorem roct_any (h : Rs t w g Q σ) : Calls Try.prog 64 #[.pointer (some ⟨g, 0, none⟩)] w (MOut t w g Q σ oct (encI 255)) := by
  cases σ with
  | ok s =>
    obtain ⟨l, m, sk⟩ := s
    have h0 := h
    obtain ⟨A, c, p, o, h⟩ := h
    have hB := h.box
    have hbs := h.bs
    have hlen := h.len
    dsimp only at hB hbs hlen
    cases l with
    | nil =>
      have c0 : w.cell? ⟨g, 0, none⟩ = some (.slice A 0 c) := hB.cell 0
      have hf := fail_any 10 h0 (by omega) (by omega)
      clear hB hbs hlen h h0
      go_enter Try.func64, Try.ntmps64
      go_wp2_with fail
      refine hf.mono ?_
      rintro x w3 ⟨rfl, h3, f3⟩
      clear hf c0
      go_wp2
      go_ret
      exact ⟨_, 0, ⟨rfl, Nat.zero_le _⟩, h3, f3, rfl⟩
    | cons y r =>
      obtain ⟨ad, hA, hc⟩ := hbs.get (k := 0) (by simp)
      have e0 : ad.add 0 = ad := by unfold Addr.add; simp
      rw [e0, List.getElem_cons_zero] at hc
      subst hA
      have c0 : w.cell? ⟨g, 0, none⟩ = some (.slice (some ad) (r.length + 1) c) := hB.cell 0
      have hlr : r.length ≤ 65536 := by simp at hlen; omega
      have htake := take_ok 1 (y :: r) m sk h0 (by simp)
      rw [List.drop_succ_cons, List.drop_zero] at htake
      have hy : y.toNat ≤ 255 := by have := y.toNat_lt; omega
      obtain ⟨Y, hY⟩ : ∃ Y, y.toNat = Y := ⟨_, rfl⟩
      rw [hY] at hc hy
      have HY := Lib.hid hY
      obtain ⟨len, hl⟩ : ∃ len, r.length = len := ⟨_, rfl⟩
      rw [hl] at c0 hlr
      clear hB hbs hlen h h0 hY hl
      go_enter Try.func64, Try.ntmps64
      go_wp2_with fail
      refine htake.mono ?_
      rintro x w3 ⟨rfl, h3, f3⟩
      clear htake c0 hc
      go_wp2
      go_ret
      refine ⟨_, Y, ⟨rfl, hy⟩, h3, f3, ?_⟩
      simp [step, oct, ret, HY.out]
  | error f =>
    have h0 := h
    obtain ⟨m, sk, hB⟩ := h.box
    have c0 : w.cell? ⟨g, 0, none⟩ = some (.slice none 0 0) := hB.cell 0
    have hf := fail_any 10 h0 (by omega) (by omega)
    clear hB h h0
    go_enter Try.func64, Try.ntmps64
    go_wp2_with fail
    refine hf.mono ?_
    rintro x w3 ⟨rfl, h3, f3⟩
    clear hf c0
    go_wp2
    go_ret
    exact ⟨_, 0, ⟨rfl, Nat.zero_le _⟩, h3, f3, rfl⟩
end Go.Proofs.Ytndcdidepdcmnaa.B07
