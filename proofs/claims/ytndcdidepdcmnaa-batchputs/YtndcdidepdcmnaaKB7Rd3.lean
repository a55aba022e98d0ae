/-
  The reader's methods: meet, text, value.
-/
import Derived.Test.YtndcdidepdcmnaaKB7Rd2
import Derived.Handy
set_option linter.unusedSimpArgs false
set_option linter.unusedVariables false
namespace Go.Proofs.Ytndcdidepdcmnaa.B07
open Go.RowKit Go.Lib Go.Maps Go.Proofs.Ytndcdidepdcmnaa.Wd Go.Proofs.Ytndcdidepdcmnaa.V01 Go.Proofs.Ytndcdidepdcmnaa.V04 Go.Proofs.Ytndcdidepdcmnaa.P06
open Go.Proofs.Ytndcdidepdcmnaa.S05 (Fr Sub Tab len_any len_nil at_in)
variable {t : List ByteArray} {w w' : World} {g : Nat} {Q : List Nat} {σ : Except Nat S7}

theorem meet_eq {m n : Nat} {sk : Bool} (h : n = m) : meet (m, sk) n = (m + 1, sk) := by unfold meet; rw [if_pos h]
theorem meet_gt {m n : Nat} {sk : Bool} (h : m < n) : meet (m, sk) n = (m, true) := by unfold meet; rw [if_neg (by show ¬ n = m; omega), if_pos h]
theorem meet_lt {m n : Nat} {sk : Bool} (h : n < m) : meet (m, sk) n = (m, sk) := by unfold meet; rw [if_neg (by show ¬ n = m; omega), if_neg (by show ¬ m < n; omega)]

set_option maxRecDepth 20000 in
set_option maxHeartbeats 1000000 in
theorem meet_any (n : Nat) (l : List UInt8) (m : Nat) (sk : Bool) (h : Rs t w g Q (.ok (l, m, sk))) (hn : n < t.length) :
    Calls Try.prog 71 #[.pointer (some ⟨g, 0, none⟩), .int .i64 (n : Int)] w fun x w' => x = .returned (.tuple #[]) ∧ Rs t w' g Q (.ok (l, meet (m, sk) n)) ∧ Fr [g] w w' := by
  obtain ⟨A, c, p, o, h⟩ := h
  have hB := h.box
  have htl := h.tab.len
  have hmm := h.met
  dsimp only at hB hmm
  have c3 : w.cell? ⟨g, 3, none⟩ = some (.int .i64 (m : Int)) := hB.cell 3
  have c4 : w.cell? ⟨g, 4, none⟩ = some (.bool sk) := hB.cell 4
  have f3 := hB.frozen 3
  have f4 := hB.frozen 4
  have keep : ∀ (s' : Nat × Bool) (w2 : World), Fr [g] w w2 → Bk w2 g 82 (rdc (.slice A l.length c) 0 (some ⟨p, 0, none⟩) s'.1 s'.2) → s'.1 ≤ t.length → Rs t w2 g Q (.ok (l, s')) := fun s' w2 hF hB2 hle =>
    ⟨A, c, p, o, h.put (s' := (l, s')) hB2 hF h.bs (fun a e => ⟨a, e, rfl⟩) h.len hle⟩
  rcases Nat.lt_trichotomy n m with hlt | heq | hgt
  · have h1 : ¬ ((n : Int) = (m : Int)) := by omega
    have h2 : ¬ ((m : Int) < (n : Int)) := by omega
    have hR := keep (m, sk) w (Fr.refl _ _) hB hmm
    rw [← meet_lt (sk := sk) hlt] at hR
    have HR := Lib.hid hR
    clear hR keep hB h
    go_enter Try.func71, Try.ntmps71
    go_wp2
    refine bodyPost_end (results_none rfl _ _ _) rfl ?_
    exact ⟨rfl, HR.out, Fr.refl _ _⟩
  · subst heq
    have hB2 := hB.set 3 (.int .i64 ((n : Int) + 1))
    have hF := fr_set w g 3 (.int .i64 ((n : Int) + 1))
    have hR := keep (n + 1, sk) _ hF (by simpa [rdc] using hB2) (by show n + 1 ≤ t.length; omega)
    rw [← meet_eq (sk := sk) rfl] at hR
    have HR := Lib.hid hR
    have HF := Lib.hid hF
    clear hR keep hB hB2 h hF
    go_enter Try.func71, Try.ntmps71
    go_wp2
    refine bodyPost_end (results_none rfl _ _ _) rfl ?_
    exact ⟨rfl, HR.out, HF.out⟩
  · have h1 : ¬ ((n : Int) = (m : Int)) := by omega
    have h2 : (m : Int) < (n : Int) := by omega
    have hB2 := hB.set 4 (.bool true)
    have hF := fr_set w g 4 (.bool true)
    have hR := keep (m, true) _ hF (by simpa [rdc] using hB2) hmm
    rw [← meet_gt (sk := sk) hgt] at hR
    have HR := Lib.hid hR
    have HF := Lib.hid hF
    clear hR keep hB hB2 h hF
    go_enter Try.func71, Try.ntmps71
    go_wp2
    refine bodyPost_end (results_none rfl _ _ _) rfl ?_
    exact ⟨rfl, HR.out, HF.out⟩

def encT (s : ByteArray) (_ : World) (x : Ending) : Prop := x = .returned (.string s)
set_option maxRecDepth 20000 in
set_option maxHeartbeats 1000000 in
theorem rtxt_any (h : Rs t w g Q σ) : Calls Try.prog 63 #[.pointer (some ⟨g, 0, none⟩)] w (MOut t w g Q σ (txt t) encT) := by
  have hn := rnum_any h
  clear h
  go_enter Try.func63, Try.ntmps63
  go_wp2_with fail
  refine hn.mono ?_
  rintro x w2 ⟨σ2, n, ⟨rfl, hle⟩, h2, f2, e2⟩
  clear hn
  have E2 := Lib.hid (step_bnd e2 (txtK t))
  have F2 := Lib.hid f2
  clear e2 f2
  cases σ2 with
  | ok s =>
    obtain ⟨l, m, sk⟩ := s
    have h0 := h2
    obtain ⟨A, c, p, o, h2⟩ := h2
    have hB := h2.box
    have htl := h2.tab.len
    have c2 : w2.cell? ⟨g, 2, none⟩ = some (.pointer (some ⟨p, 0, none⟩)) := hB.cell 2
    obtain ⟨q, hq⟩ : ∃ q, t.length = q := ⟨_, rfl⟩
    have hlen := len_any w2 p t o q h2.tab hq
    rw [hq] at htl
    by_cases hnq : n < q
    · have hz : ¬ ((q : Int) ≤ (n : Int)) := by omega
      have hz2 : (n : Int) < (q : Int) := by omega
      have hmt := meet_any n l m sk h0 (by omega)
      obtain ⟨s, hs⟩ : ∃ s, t[n]? = some s := ⟨_, List.getElem?_eq_getElem (by omega)⟩
      have HS := Lib.hid hs
      have HQ := Lib.hid hq
      clear hB h2 h0 hs hq
      go_wp2_with fail
      refine hlen.mono ?_
      rintro x w3 ⟨rfl, rfl⟩
      clear hlen
      go_wp2_with fail
      refine hmt.mono ?_
      rintro x w3 ⟨rfl, h3, f3⟩
      have h30 := Lib.hid h3
      obtain ⟨A3, c3, p3, o3, h3⟩ := h3
      have d2 : w3.cell? ⟨g, 2, none⟩ = some (.pointer (some ⟨p3, 0, none⟩)) := h3.box.cell 2
      have hat := at_in w3 p3 t o3 n s h3.tab HS.out
      have F3 := Lib.hid f3
      clear hmt c2 h3 f3
      go_wp2_with fail
      refine hat.mono ?_
      rintro x w4 ⟨rfl, rfl⟩
      clear hat d2
      go_wp2
      go_ret
      refine ⟨_, s, rfl, h30.out, B07.Fr.again F2.out F3.out, ?_⟩
      show step σ (bnd num _) = _
      rw [E2.out, txtK_some HS.out]
      rfl
    · have hz : (q : Int) ≤ (n : Int) := by omega
      have hf := fail_any 11 h0 (by omega) (by omega)
      have hs : t[n]? = none := List.getElem?_eq_none (by omega)
      have HS := Lib.hid hs
      clear hB h2 h0 hs hq
      go_wp2_with fail
      refine hlen.mono ?_
      rintro x w3 ⟨rfl, rfl⟩
      clear hlen
      go_wp2_with fail
      refine hf.mono ?_
      rintro x w3 ⟨rfl, h3, f3⟩
      clear hf c2
      go_wp2
      go_ret
      refine ⟨_, ⟨#[]⟩, rfl, h3, B07.Fr.again F2.out f3, ?_⟩
      show step σ (bnd num _) = _
      rw [E2.out, txtK_none HS.out]
      rfl
  | error f =>
    have h0 := h2
    obtain ⟨m, sk, hB⟩ := h2.box
    have c2 : w2.cell? ⟨g, 2, none⟩ = some (.pointer none) := hB.cell 2
    have hlen := len_nil w2
    have hf := fail_any 11 h0 (by omega) (by omega)
    have hz : (0 : Int) ≤ (n : Int) := by omega
    clear hB h2 h0
    go_wp2_with fail
    refine hlen.mono ?_
    rintro x w3 ⟨rfl, rfl⟩
    clear hlen
    go_wp2_with fail
    refine hf.mono ?_
    rintro x w3 ⟨rfl, h3, f3⟩
    clear hf c2
    go_wp2
    go_ret
    refine ⟨_, ⟨#[]⟩, rfl, h3, B07.Fr.again F2.out f3, ?_⟩
    show step σ (bnd num _) = _
    rw [E2.out]
    rfl

def encV (v : V3) (_ : World) (x : Ending) : Prop := x = .returned (vl v.K v.N v.S)
theorem intR_bd (r : List UInt8) : (intR r).e ≤ 11 ∧ ((intR r).e = 0 → (intR r).k ≤ r.length) := ⟨(getF_le r).2.2, fun _ => (getF_le r).2.1⟩
theorem boolR_bd (r : List UInt8) : (boolR r).e ≤ 11 ∧ ((boolR r).e = 0 → (boolR r).k ≤ r.length) := by
  cases r with
  | nil => exact ⟨by show 10 ≤ 11; omega, fun _ => Nat.zero_le _⟩
  | cons y r =>
    by_cases h : 1 < y.toNat
    · have e : boolR (y :: r) = none_ 11 := if_pos h
      rw [e]
      exact ⟨Nat.le_refl _, fun _ => Nat.zero_le _⟩
    · have e : boolR (y :: r) = ⟨2, y.toNat, emp, 1, 0⟩ := if_neg h
      rw [e]
      exact ⟨Nat.zero_le _, fun _ => by simp⟩
theorem textR_bd (r : List UInt8) : (textR r).e ≤ 11 ∧ ((textR r).e = 0 → (textR r).k ≤ r.length) := by
  unfold textR
  split
  · exact ⟨(getF_le r).2.2, fun _ => Nat.zero_le _⟩
  · split
    · exact ⟨Nat.le_refl _, fun _ => Nat.zero_le _⟩
    · split
      · exact ⟨by show 10 ≤ 11; omega, fun _ => Nat.zero_le _⟩
      · refine ⟨Nat.zero_le _, fun _ => ?_⟩
        show (getF 0 0 (nat8 r)).2.1 + (getF 0 0 (nat8 r)).1 ≤ r.length
        omega
theorem readR_bd (X : Nat) (r : List UInt8) : (readR X r).e ≤ 11 ∧ ((readR X r).e = 0 → (readR X r).k ≤ r.length) := by
  unfold readR
  split
  · exact intR_bd r
  · split
    · exact boolR_bd r
    · split
      · exact textR_bd r
      · exact ⟨Nat.le_refl _, fun _ => Nat.zero_le _⟩
theorem finV_err {R : Rdv} (h : R.e ≠ 0) : finV R = none_ R.e := if_pos h
theorem finV_ok {R : Rdv} (h : R.e = 0) : finV R = ⟨R.K, R.N, R.S, 1 + R.k, 0⟩ := if_neg (by simpa using h)
theorem getV_cons (x : UInt8) (r : List UInt8) : getV (x :: r) = finV (readR x.toNat r) := rfl
theorem getV_bd (l : List UInt8) : (getV l).e ≤ 11 ∧ ((getV l).e = 0 → (getV l).k ≤ l.length) := by
  cases l with
  | nil => exact ⟨by show 10 ≤ 11; omega, fun _ => Nat.zero_le _⟩
  | cons x r =>
    have h := readR_bd x.toNat r
    rw [getV_cons]
    by_cases he : (readR x.toNat r).e = 0
    · rw [finV_ok he]
      refine ⟨Nat.zero_le _, fun _ => ?_⟩
      have := h.2 he
      show 1 + (readR x.toNat r).k ≤ r.length + 1
      omega
    · rw [finV_err he]
      exact ⟨h.1, fun _ => Nat.zero_le _⟩

theorem Rs.set (h : Rs t w g Q σ) (b j : Nat) (v : Value) (hb : b ∉ Q) : Rs t (w.setCell ⟨b, j, none⟩ v) g Q σ :=
  h.same (by simp) fun x hx => heap_set _ _ _ _ _ fun e => hb (by rw [e]; exact hx)
theorem fr_new {w1 : World} (f : Fr [g] w w1) (b j : Nat) (v : Value) (hb : w.heap.size ≤ b) : Fr [g] w (w1.setCell ⟨b, j, none⟩ v) :=
  ⟨f.os, f.tape, f.output, by simpa using f.size, fun k hk hn => by rw [heap_set _ _ _ _ _ (by omega)]; exact f.block k hk hn⟩
set_option maxRecDepth 20000 in
set_option maxHeartbeats 1000000 in
theorem rval_walk {σ' : Except Nat S7} (K N : Int) (S : ByteArray) (k e : Nat) (A : Option Addr) (c len : Nat) (l : List UInt8) (h : Rs t w g Q σ) (hbs : Bs w A c l) (hc0 : ∀ W, Rs t W g Q σ → Below w.heap.size w W → W.cell? ⟨g, 0, none⟩ = some (.slice A len c)) (hlen : l.length = len) (hl : len ≤ 65536) (hr : getV l = ⟨K, N, S, k, e⟩)
    (htake : ∀ W, Rs t W g Q σ → Calls Try.prog 50 #[.pointer (some ⟨g, 0, none⟩), .int .i64 (k : Int), .int .i64 (e : Int)] W fun x w' => x = .returned (.tuple #[]) ∧ Rs t w' g Q σ' ∧ Fr [g] W w') :
    Calls Try.prog 73 #[.pointer (some ⟨g, 0, none⟩)] w fun x w' => x = .returned (vl K N S) ∧ Rs t w' g Q σ' ∧ Fr [g] w w' := by
  have b1 := below_box w (.cells #[.int .i64 0, .int .i64 0, .string ⟨#[]⟩] 47) (Nat.le_refl _)
  have h1 := h.below b1
  have hlt := h.lt
  have hgQ := h.gQ
  have hG : Bk (w.alloc (.cells #[.int .i64 0, .int .i64 0, .string ⟨#[]⟩] 47)) w.heap.size 47 #[.int .i64 0, .int .i64 0, .string ⟨#[]⟩] := Bk.new w _ _
  have hget := vget_any A c len l _ (hbs.below b1) hlen hl
  rw [hr] at hget
  have d0 := hc0 _ h1 b1
  have hne : w.heap.size ∉ Q := fun hm => by have := hlt _ hm; omega
  clear hbs hr
  go_enter Try.func73, Try.ntmps73
  go_wp2_with fail
  change Calls _ _ _ (w.alloc (.cells #[.int .i64 0, .int .i64 0, .string ⟨#[]⟩] 47)) _
  generalize w.alloc (.cells #[.int .i64 0, .int .i64 0, .string ⟨#[]⟩] 47) = w1 at b1 h1 hG hget ⊢
  refine hget.mono ?_
  rintro x w2 ⟨rfl, b2⟩
  have h2 := h1.below b2
  have hG2 := hG.below b2
  have bb2 := b1.trans (b2.mono b1.size)
  clear hget d0 hG h1 b1 b2
  have b3 := below_box w2 (.cells #[.int .i64 K, .int .i64 N, .string S] 47) (Nat.le_refl _)
  have h3 := h2.below b3
  have hG3 := hG2.below b3
  have hV3 : Bk (w2.alloc (.cells #[.int .i64 K, .int .i64 N, .string S] 47)) w2.heap.size 47 #[.int .i64 K, .int .i64 N, .string S] := Bk.new w2 _ _
  have bb3 := bb2.trans (b3.mono bb2.size)
  have hne2 : w2.heap.size ∉ Q := fun hm => by have := h2.lt _ hm; omega
  have hvv := hG2.lt
  have hsz := bb2.size
  unfold Rdv.v
  dsimp only
  go_wp2_with fail
  change Calls _ _ _ (w2.alloc (.cells #[.int .i64 K, .int .i64 N, .string S] 47)) _
  generalize w2.alloc (.cells #[.int .i64 K, .int .i64 N, .string S] 47) = w3 at h3 hG3 hV3 bb3 ⊢
  generalize hv : w2.heap.size = v at hV3 hne2 hvv ⊢
  clear b3 hG2 h2
  refine (htake w3 h3).mono ?_
  rintro x w4 ⟨rfl, h4, f4⟩
  have hG4 := Fr.bk hG3 f4 (fun hm => hne (by simp at hm; rw [hm]; exact hgQ))
  have hV4 := Fr.bk hV3 f4 (fun hm => hne2 (by simp at hm; rw [hm]; exact hgQ))
  have x0 : w4.cell? ⟨v, 0, none⟩ = some (.int .i64 K) := hV4.cell 0
  have x1 : w4.cell? ⟨v, 1, none⟩ = some (.int .i64 N) := hV4.cell 1
  have x2 : w4.cell? ⟨v, 2, none⟩ = some (.string S) := hV4.cell 2
  have y0 : w4.cell? ⟨w.heap.size, 0, none⟩ = some (.int .i64 0) := hG4.cell 0
  have y1 : w4.cell? ⟨w.heap.size, 1, none⟩ = some (.int .i64 0) := hG4.cell 1
  have y2 : w4.cell? ⟨w.heap.size, 2, none⟩ = some (.string ⟨#[]⟩) := hG4.cell 2
  have g0 := hG4.frozen 0
  have g1 := hG4.frozen 1
  have g2 := hG4.frozen 2
  have hF4 : Fr [g] w w4 := (Fr.of_below [g] bb3).trans f4 (Sub.refl _ _)
  clear f4 h3 hG3 hV3 bb3 bb2 htake
  have hR := ((h4.set w.heap.size 0 (.int .i64 K) hne).set w.heap.size 1 (.int .i64 N) hne).set w.heap.size 2 (.string S) hne
  have hF := fr_new (fr_new (fr_new hF4 w.heap.size 0 (.int .i64 K) (Nat.le_refl _)) w.heap.size 1 (.int .i64 N) (Nat.le_refl _)) w.heap.size 2 (.string S) (Nat.le_refl _)
  have hB5 := ((hG4.set 0 (.int .i64 K)).set 1 (.int .i64 N)).set 2 (.string S)
  have HR := Lib.hid hR
  have HF := Lib.hid hF
  have HB := Lib.hid hB5
  clear hR hF hF4 h4 hc0 hG4 hV4 hB5
  go_wp2
  generalize ((w4.setCell ⟨w.heap.size, 0, none⟩ (.int .i64 K)).setCell ⟨w.heap.size, 1, none⟩ (.int .i64 N)).setCell ⟨w.heap.size, 2, none⟩ (.string S) = W at HR HF HB ⊢
  have z0 : W.cell? ⟨w.heap.size, 0, none⟩ = some (.int .i64 K) := HB.out.cell 0
  have z1 : W.cell? ⟨w.heap.size, 1, none⟩ = some (.int .i64 N) := HB.out.cell 1
  have z2 : W.cell? ⟨w.heap.size, 2, none⟩ = some (.string S) := HB.out.cell 2
  (try simp only [Exit.inBlock, Exit.then])
  refine bodyPost_ret (by simp [results, Try.results73, go_sem, z0, z1, z2]; try rfl) rfl ?_
  exact ⟨rfl, HR.out, HF.out⟩
theorem rval_any (h : Rs t w g Q σ) : Calls Try.prog 73 #[.pointer (some ⟨g, 0, none⟩)] w (MOut t w g Q σ val encV) := by
  cases σ with
  | ok s =>
    obtain ⟨l, m, sk⟩ := s
    have hbd := getV_bd l
    have h0 := h
    obtain ⟨A, c, p, o, hk⟩ := h
    have hcell : ∀ W, Rs t W g Q (.ok (l, m, sk)) → Below w.heap.size w W → W.cell? ⟨g, 0, none⟩ = some (.slice A l.length c) := fun W _ hb => (hk.box.below hb).cell 0
    obtain ⟨⟨K, N, S, k, e⟩, hr⟩ : ∃ r, getV l = r := ⟨_, rfl⟩
    rw [hr] at hbd
    by_cases he : e = 0
    · subst he
      refine (rval_walk (σ' := .ok (l.drop k, m, sk)) K N S k 0 A c l.length l h0 hk.bs hcell rfl hk.len hr (fun W hW => take_ok k l m sk hW (hbd.2 rfl))).mono ?_
      rintro x w2 ⟨rfl, h2, f2⟩
      refine ⟨_, ⟨K, N, S⟩, rfl, h2, f2, ?_⟩
      simp [step, val, ret, hr]
    · refine (rval_walk (σ' := .error e) K N S k e A c l.length l h0 hk.bs hcell rfl hk.len hr (fun W hW => take_err (k : Int) e hW he (by have := hbd.1; dsimp only at this; omega))).mono ?_
      rintro x w2 ⟨rfl, h2, f2⟩
      refine ⟨_, ⟨K, N, S⟩, rfl, h2, f2, ?_⟩
      simp [step, val, ret, hr, he]
  | error f =>
    have hcell : ∀ W, Rs t W g Q (.error f) → Below w.heap.size w W → W.cell? ⟨g, 0, none⟩ = some (.slice none 0 0) := fun W hW _ => by
      obtain ⟨m, sk, hB⟩ := hW.box
      exact hB.cell 0
    refine (rval_walk (σ' := .error f) 0 0 emp 0 10 none 0 0 [] h (Bs.nil w) hcell rfl (by omega) rfl (fun W hW => take_err 0 10 hW (by omega) (by omega))).mono ?_
    rintro x w2 ⟨rfl, h2, f2⟩
    exact ⟨_, ⟨0, 0, emp⟩, rfl, h2, f2, rfl⟩
end Go.Proofs.Ytndcdidepdcmnaa.B07
