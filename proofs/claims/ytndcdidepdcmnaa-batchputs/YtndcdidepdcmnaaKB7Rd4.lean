/-
  The reader's methods: attrs, span, spans.
-/
import Derived.Test.YtndcdidepdcmnaaKB7Rd3
import Derived.Test.YtndcdidepdcmnaaKB7Sps
set_option linter.unusedSimpArgs false
set_option linter.unusedVariables false
namespace Go.Proofs.Ytndcdidepdcmnaa.B07
open Go.RowKit Go.Lib Go.Maps Go.Proofs.Ytndcdidepdcmnaa.Wd Go.Proofs.Ytndcdidepdcmnaa.V01 Go.Proofs.Ytndcdidepdcmnaa.V04 Go.Proofs.Ytndcdidepdcmnaa.P06
open Go.Proofs.Ytndcdidepdcmnaa.S05 (Fr Sub Tab)
variable {t : List ByteArray} {w w' : World} {g : Nat} {Q : List Nat} {σ : Except Nat S7}

theorem Rs.grown {row : Option Nat} (h : Rs t w g Q σ) (hg : w.grownBy w' row) (hne : ∀ k, row = some k → k ∉ Q) : Rs t w' g Q σ :=
  h.same hg.size fun x hx => hg.block x (h.lt x hx) fun e => hne x e.symm hx
theorem fr_grown {w1 w2 : World} {row : Option Nat} (f : Fr [g] w w1) (hg : w1.grownBy w2 row) (hne : ∀ k, row = some k → w.heap.size ≤ k) : Fr [g] w w2 :=
  ⟨hg.os.trans f.os, hg.tape.trans f.tape, hg.output.trans f.output, Nat.le_trans f.size hg.size, fun k hk hn => (hg.block k (Nat.lt_of_lt_of_le hk f.size) (fun e => by have := hne k e.symm; omega)).trans (f.block k hk hn)⟩
theorem fr_below {w1 w2 : World} (f : Fr [g] w w1) (hb : Below w1.heap.size w1 w2) : Fr [g] w w2 := f.trans (Fr.of_below [] hb) (fun _ h => by cases h)

def encA (B : Nat) (l : List At) (w' : World) (x : Ending) : Prop := ∃ A c, x = .returned (.slice A l.length c) ∧ Hd B w' A c l ∧ l.length ≤ 16
/-- where the loop over attributes is -/
structure AR (t : List ByteArray) (w : World) (g : Nat) (Q : List Nat) (σ : Except Nat S7) (n k : Nat) (A : Option Addr) (c : Nat) (l : List At) (σk : Except Nat S7) (wr : World) : Prop where
  row : wr.ownsRow w.heap.size 49 4 (.slice A k c) k (l.flatMap enc)
  len : l.length = k
  rs : Rs t wr g Q σk
  fr : Fr [g] w wr
  eq : step σ (ats t) = step σk (atsK t (n - k) l)

set_option maxRecDepth 20000 in
set_option maxHeartbeats 2000000 in
theorem rats_any (h : Rs t w g Q σ) : Calls Try.prog 65 #[.pointer (some ⟨g, 0, none⟩)] w (MOut t w g Q σ (ats t) (encA w.heap.size)) := by
  obtain ⟨i0, hi, hz0, hz1, hz2⟩ := info_parts attr_info
  have hcn := rcnt_any 16 (by omega) h
  have hQ := h.lt
  have hgQ := h.gQ
  clear h
  go_enter Try.func65, Try.ntmps65
  go_wp2_with fail
  refine hcn.mono ?_
  rintro x w2 ⟨σ2, n, ⟨rfl, hn⟩, h2, f2, e2⟩
  have hR0 : AR t w g Q σ n 0 none 0 [] σ2 w2 := ⟨World.ownsRow_nil _ _ _ _, rfl, h2, f2, step_bnd e2 fun n => atsK t n []⟩
  clear hcn h2 f2 e2
  go_wp2_with fail
  go_loopw [3, 7] (fun v i wr => ∃ (k : Nat) (A : Option Addr) (c : Nat) (l : List At) (σk : Except Nat S7), v = .slice A k c ∧ i = .int .i64 (k : Nat) ∧ k ≤ n ∧ AR t w g Q σ n k A c l σk wr) (fun _ i _ => n - (intOf i).toNat)
  case atStart => exact ⟨0, none, 0, [], σ2, rfl, rfl, Nat.zero_le _, hR0⟩
  case round =>
    clear hR0
    obtain ⟨k, A, c, l, σk, rfl, rfl, hk, R⟩ := hrel
    by_cases hlt : k < n
    · have hltz : (k : Int) < (n : Int) := by omega
      have htx := rtxt_any R.rs
      have HR := Lib.hid R
      clear R
      go_wp2_with fail
      refine htx.mono ?_
      rintro x w3 ⟨σ3, key, rfl, h3, f3, e3⟩
      have hvl := rval_any h3
      have F3 := Lib.hid f3
      have E3 := Lib.hid e3
      clear htx h3 f3 e3
      go_wp2_with fail
      refine hvl.mono ?_
      rintro x w4 ⟨σ4, ⟨K, N, S⟩, rfl, h4, f4, e4⟩
      have hrow : w4.ownsRow w.heap.size 49 4 (.slice A k c) k (l.flatMap enc) := by
        have h1 := HR.out.row
        have hb : ∀ q, (Value.slice A k c).ownBlock = some q → q ∉ [g] := fun q hq hm => by
          have := (h1.lt q hq).1
          have := hQ g hgQ
          simp at hm
          omega
        exact own_fr (own_fr h1 F3.out hb) f4 hb
      have bx := below_box w4 (.cells #[.string key, .int .i64 K, .int .i64 N, .string S] 49) (Nat.le_refl _)
      have hrow5 := own_below hrow bx
      have h5 := h4.below bx
      have hfr4 : Fr [g] w w4 := B07.Fr.again (B07.Fr.again HR.out.fr F3.out) f4
      have hfr5 := fr_below hfr4 bx
      have hlit := Rd.lit4 w4 49 ⟨key, K, N, S⟩
      dsimp only at hlit
      have E4 := Lib.hid e4
      have F5 := Lib.hid hfr5
      have H5 := Lib.hid h5
      have hsz := hfr5.size
      clear hvl h4 f4 e4 hrow bx hfr4 hfr5 h5 F3
      unfold encV at *
      go_wp2_with (at_builtin; refine wpList_append_rd _ rfl (.tmp 11) (.tmp 16) 43 rfl w.heap.size 49 i0 _ 4 48 Try.underlying43 hi hz0 hz1 hz2 rfl (by decide) _ k (l.flatMap enc) rfl hrow5 _ 1 1 (enc ⟨key, K, N, S⟩) rfl hlit (enc_one _) ?d1 ?d2 ?d3 ?_)
      case d1 => unfold maxLen; omega
      case d2 => omega
      case d3 => exact hsz
      intro A6 c6 w6 hrow6 hg6
      have hR6 : AR t w g Q σ n (k + 1) A6 c6 (l ++ [⟨key, K, N, S⟩]) σ4 w6 := by
        have hne : ∀ q, (Value.slice A k c).ownBlock = some q → w.heap.size ≤ q := fun q hq => (hrow5.lt q hq).1
        refine ⟨by rw [fm_app]; simpa using hrow6, by simp [HR.out.len], H5.out.grown hg6 (fun q hq hm => by have := hne q hq; have := hQ q hm; omega), fr_grown F5.out hg6 hne, ?_⟩
        rw [HR.out.eq, show n - k = n - (k + 1) + 1 by omega]
        show step σk (bnd (txt t) _) = _
        rw [step_bnd E3.out, step_bnd E4.out]
      clear hrow6 hg6 H5 F5 HR E3 E4 hrow5 hlit
      go_wp2
      go_roundw
      case rel => exact ⟨k + 1, A6, c6, _, σ4, rfl, by go_num, by omega, hR6⟩
      case measure => first | go_num | (simp [intOf]; omega)
    · have hltz : ¬ ((k : Int) < (n : Int)) := by omega
      have hkn : k = n := by omega
      subst hkn
      have HR := Lib.hid R
      clear R
      go_wp2
      go_ret
      refine ⟨σk, l, ⟨A, c, by rw [HR.out.len]; rfl, Hd.own (by rw [HR.out.len]; exact HR.out.row), by rw [HR.out.len]; omega⟩, HR.out.rs, HR.out.fr, ?_⟩
      rw [HR.out.eq, Nat.sub_self]
      rfl
def encS (B : Nat) (y : Pn) (w' : World) (x : Ending) : Prop := ∃ A c, x = .returned (spv y.1 (.slice A y.2.length c)) ∧ Hd B w' A c y.2 ∧ y.2.length ≤ 16
/-- where span is: its own block G has the cells cs, the result's block the zero span -/
structure SR (t : List ByteArray) (w : World) (g : Nat) (Q : List Nat) (cs : Array Value) (σk : Except Nat S7) (wr : World) : Prop where
  rs : Rs t wr g Q σk
  fr : Fr [g] w wr
  own : Bk wr (w.heap.size + 1) 45 cs
  res : Bk wr w.heap.size 45 zsp
theorem SR.next {cs : Array Value} {σk σ2 : Except Nat S7} {wr w2 : World} (h : SR t w g Q cs σk wr) (hg : g < w.heap.size) (h2 : Rs t w2 g Q σ2) (f : Fr [g] wr w2) : SR t w g Q cs σ2 w2 :=
  ⟨h2, B07.Fr.again h.fr f, Fr.bk h.own f (by simp; omega), Fr.bk h.res f (by simp; omega)⟩
theorem SR.put {cs : Array Value} {σk : Except Nat S7} {wr : World} (h : SR t w g Q cs σk wr) (hQ : ∀ x ∈ Q, x < w.heap.size) (j : Nat) (v : Value) : SR t w g Q (cs.setIfInBounds j v) σk (wr.setCell ⟨w.heap.size + 1, j, none⟩ v) :=
  ⟨h.rs.set _ _ _ (fun hm => by have := hQ _ hm; omega), fr_new h.fr _ _ _ (by omega), h.own.set j v, h.res.other _ _ _ (by omega)⟩

set_option maxRecDepth 20000 in
set_option maxHeartbeats 4000000 in
theorem rspan_any (h : Rs t w g Q σ) : Calls Try.prog 52 #[.pointer (some ⟨g, 0, none⟩)] w (MOut t w g Q σ (spn t) (encS w.heap.size)) := by
  have hQ := h.lt
  have hgl := h.lt g h.gQ
  have b1 : Below w.heap.size w ((w.alloc (.cells zsp 45)).alloc (.cells zsp 45)) := by go_grown
  have h1 : Bk (w.alloc (.cells zsp 45)) w.heap.size 45 zsp := Bk.new w _ _
  have h2 := Bk.new (w.alloc (.cells zsp 45)) 45 zsp
  have R : SR t w g Q zsp σ ((w.alloc (.cells zsp 45)).alloc (.cells zsp 45)) := ⟨h.below b1, Fr.of_below _ b1, by simpa using h2, h1.below (below_box _ _ (Nat.le_refl _))⟩
  clear h b1 h1 h2
  go_enter Try.func52, Try.ntmps52
  go_wp2_with fail
  change Calls _ _ _ ((w.alloc (.cells zsp 45)).alloc (.cells zsp 45)) _
  generalize (w.alloc (.cells zsp 45)).alloc (.cells zsp 45) = W at R ⊢
  refine (rnum_any R.rs).mono ?_
  rintro x W0 ⟨σ0, T, ⟨rfl, b0⟩, hr, hf, e0⟩
  replace R := R.next hgl hr hf
  have y0 : W0.cell? ⟨w.heap.size + 1, 0, none⟩ = some (.int .u64 0) := R.own.cell 0
  have f0 := R.own.frozen 0
  replace R := R.put hQ 0 (.int .u64 (T : Int))
  have E0 := Lib.hid e0
  clear hr hf e0
  go_wp2_with fail
  replace R : SR t w g Q #[.int .u64 (T : Int), .int .u64 0, .int .u64 0, .string ⟨#[]⟩, .string ⟨#[]⟩, .int .i64 0, .int .i64 0, .int .u64 0, .int .u64 0, .slice none 0 0] σ0 (W0.setCell ⟨w.heap.size + 1, 0, none⟩ (.int .u64 (T : Int))) := by simpa using R
  generalize W0.setCell ⟨w.heap.size + 1, 0, none⟩ (.int .u64 (T : Int)) = V0 at R ⊢
  clear y0 f0
  refine (rnum_any R.rs).mono ?_
  rintro x W1 ⟨σ1, I, ⟨rfl, b1⟩, hr, hf, e1⟩
  replace R := R.next hgl hr hf
  have y1 : W1.cell? ⟨w.heap.size + 1, 1, none⟩ = some (.int .u64 0) := R.own.cell 1
  have f1 := R.own.frozen 1
  replace R := R.put hQ 1 (.int .u64 (I : Int))
  have E1 := Lib.hid e1
  clear hr hf e1
  go_wp2_with fail
  replace R : SR t w g Q #[.int .u64 (T : Int), .int .u64 (I : Int), .int .u64 0, .string ⟨#[]⟩, .string ⟨#[]⟩, .int .i64 0, .int .i64 0, .int .u64 0, .int .u64 0, .slice none 0 0] σ1 (W1.setCell ⟨w.heap.size + 1, 1, none⟩ (.int .u64 (I : Int))) := by simpa using R
  generalize W1.setCell ⟨w.heap.size + 1, 1, none⟩ (.int .u64 (I : Int)) = V1 at R ⊢
  clear y1 f1
  refine (rnum_any R.rs).mono ?_
  rintro x W2 ⟨σ2, P, ⟨rfl, b2⟩, hr, hf, e2⟩
  replace R := R.next hgl hr hf
  have y2 : W2.cell? ⟨w.heap.size + 1, 2, none⟩ = some (.int .u64 0) := R.own.cell 2
  have f2 := R.own.frozen 2
  replace R := R.put hQ 2 (.int .u64 (P : Int))
  have E2 := Lib.hid e2
  clear hr hf e2
  go_wp2_with fail
  replace R : SR t w g Q #[.int .u64 (T : Int), .int .u64 (I : Int), .int .u64 (P : Int), .string ⟨#[]⟩, .string ⟨#[]⟩, .int .i64 0, .int .i64 0, .int .u64 0, .int .u64 0, .slice none 0 0] σ2 (W2.setCell ⟨w.heap.size + 1, 2, none⟩ (.int .u64 (P : Int))) := by simpa using R
  generalize W2.setCell ⟨w.heap.size + 1, 2, none⟩ (.int .u64 (P : Int)) = V2 at R ⊢
  clear y2 f2
  refine (rtxt_any R.rs).mono ?_
  rintro x W3 ⟨σ3, sv, rfl, hr, hf, e3⟩
  replace R := R.next hgl hr hf
  have y3 : W3.cell? ⟨w.heap.size + 1, 3, none⟩ = some (.string ⟨#[]⟩) := R.own.cell 3
  have f3 := R.own.frozen 3
  replace R := R.put hQ 3 (.string sv)
  have E3 := Lib.hid e3
  clear hr hf e3
  go_wp2_with fail
  replace R : SR t w g Q #[.int .u64 (T : Int), .int .u64 (I : Int), .int .u64 (P : Int), .string sv, .string ⟨#[]⟩, .int .i64 0, .int .i64 0, .int .u64 0, .int .u64 0, .slice none 0 0] σ3 (W3.setCell ⟨w.heap.size + 1, 3, none⟩ (.string sv)) := by simpa using R
  generalize W3.setCell ⟨w.heap.size + 1, 3, none⟩ (.string sv) = V3 at R ⊢
  clear y3 f3
  refine (rtxt_any R.rs).mono ?_
  rintro x W4 ⟨σ4, nm, rfl, hr, hf, e4⟩
  replace R := R.next hgl hr hf
  have y4 : W4.cell? ⟨w.heap.size + 1, 4, none⟩ = some (.string ⟨#[]⟩) := R.own.cell 4
  have f4 := R.own.frozen 4
  replace R := R.put hQ 4 (.string nm)
  have E4 := Lib.hid e4
  clear hr hf e4
  go_wp2_with fail
  replace R : SR t w g Q #[.int .u64 (T : Int), .int .u64 (I : Int), .int .u64 (P : Int), .string sv, .string nm, .int .i64 0, .int .i64 0, .int .u64 0, .int .u64 0, .slice none 0 0] σ4 (W4.setCell ⟨w.heap.size + 1, 4, none⟩ (.string nm)) := by simpa using R
  generalize W4.setCell ⟨w.heap.size + 1, 4, none⟩ (.string nm) = V4 at R ⊢
  clear y4 f4
  refine (roct_any R.rs).mono ?_
  rintro x W5 ⟨σ5, kd, ⟨rfl, b5⟩, hr, hf, e5⟩
  replace R := R.next hgl hr hf
  have y5 : W5.cell? ⟨w.heap.size + 1, 5, none⟩ = some (.int .i64 0) := R.own.cell 5
  have f5 := R.own.frozen 5
  replace R := R.put hQ 5 (.int .i64 (kd : Int))
  have E5 := Lib.hid e5
  clear hr hf e5
  go_wp2_with fail
  replace R : SR t w g Q #[.int .u64 (T : Int), .int .u64 (I : Int), .int .u64 (P : Int), .string sv, .string nm, .int .i64 (kd : Int), .int .i64 0, .int .u64 0, .int .u64 0, .slice none 0 0] σ5 (W5.setCell ⟨w.heap.size + 1, 5, none⟩ (.int .i64 (kd : Int))) := by simpa using R
  generalize W5.setCell ⟨w.heap.size + 1, 5, none⟩ (.int .i64 (kd : Int)) = V5 at R ⊢
  clear y5 f5
  refine (roct_any R.rs).mono ?_
  rintro x W6 ⟨σ6, st, ⟨rfl, b6⟩, hr, hf, e6⟩
  replace R := R.next hgl hr hf
  have y6 : W6.cell? ⟨w.heap.size + 1, 6, none⟩ = some (.int .i64 0) := R.own.cell 6
  have f6 := R.own.frozen 6
  replace R := R.put hQ 6 (.int .i64 (st : Int))
  have E6 := Lib.hid e6
  clear hr hf e6
  go_wp2_with fail
  replace R : SR t w g Q #[.int .u64 (T : Int), .int .u64 (I : Int), .int .u64 (P : Int), .string sv, .string nm, .int .i64 (kd : Int), .int .i64 (st : Int), .int .u64 0, .int .u64 0, .slice none 0 0] σ6 (W6.setCell ⟨w.heap.size + 1, 6, none⟩ (.int .i64 (st : Int))) := by simpa using R
  generalize W6.setCell ⟨w.heap.size + 1, 6, none⟩ (.int .i64 (st : Int)) = V6 at R ⊢
  clear y6 f6
  refine (rnum_any R.rs).mono ?_
  rintro x W7 ⟨σ7, t0, ⟨rfl, b7⟩, hr, hf, e7⟩
  replace R := R.next hgl hr hf
  have y7 : W7.cell? ⟨w.heap.size + 1, 7, none⟩ = some (.int .u64 0) := R.own.cell 7
  have f7 := R.own.frozen 7
  replace R := R.put hQ 7 (.int .u64 (t0 : Int))
  have E7 := Lib.hid e7
  clear hr hf e7
  go_wp2_with fail
  replace R : SR t w g Q #[.int .u64 (T : Int), .int .u64 (I : Int), .int .u64 (P : Int), .string sv, .string nm, .int .i64 (kd : Int), .int .i64 (st : Int), .int .u64 (t0 : Int), .int .u64 0, .slice none 0 0] σ7 (W7.setCell ⟨w.heap.size + 1, 7, none⟩ (.int .u64 (t0 : Int))) := by simpa using R
  generalize W7.setCell ⟨w.heap.size + 1, 7, none⟩ (.int .u64 (t0 : Int)) = V7 at R ⊢
  clear y7 f7
  refine (rnum_any R.rs).mono ?_
  rintro x W8 ⟨σ8, t1, ⟨rfl, b8⟩, hr, hf, e8⟩
  replace R := R.next hgl hr hf
  have y8 : W8.cell? ⟨w.heap.size + 1, 8, none⟩ = some (.int .u64 0) := R.own.cell 8
  have f8 := R.own.frozen 8
  replace R := R.put hQ 8 (.int .u64 (t1 : Int))
  have E8 := Lib.hid e8
  clear hr hf e8
  go_wp2_with fail
  replace R : SR t w g Q #[.int .u64 (T : Int), .int .u64 (I : Int), .int .u64 (P : Int), .string sv, .string nm, .int .i64 (kd : Int), .int .i64 (st : Int), .int .u64 (t0 : Int), .int .u64 (t1 : Int), .slice none 0 0] σ8 (W8.setCell ⟨w.heap.size + 1, 8, none⟩ (.int .u64 (t1 : Int))) := by simpa using R
  generalize W8.setCell ⟨w.heap.size + 1, 8, none⟩ (.int .u64 (t1 : Int)) = V8 at R ⊢
  clear y8 f8
  have hsz : w.heap.size + 1 < V8.heap.size := R.own.lt
  refine (rats_any R.rs).mono ?_
  rintro x W9 ⟨σ9, l, ⟨A, c, rfl, hd, hl16⟩, hr, hf, e9⟩
  replace R := R.next hgl hr hf
  have y9 : W9.cell? ⟨w.heap.size + 1, 9, none⟩ = some (.slice none 0 0) := R.own.cell 9
  have f9 := R.own.frozen 9
  have x0 : W9.cell? ⟨w.heap.size + 1, 0, none⟩ = some (.int .u64 (T : Int)) := R.own.cell 0
  have x1 : W9.cell? ⟨w.heap.size + 1, 1, none⟩ = some (.int .u64 (I : Int)) := R.own.cell 1
  have x2 : W9.cell? ⟨w.heap.size + 1, 2, none⟩ = some (.int .u64 (P : Int)) := R.own.cell 2
  have x3 : W9.cell? ⟨w.heap.size + 1, 3, none⟩ = some (.string sv) := R.own.cell 3
  have x4 : W9.cell? ⟨w.heap.size + 1, 4, none⟩ = some (.string nm) := R.own.cell 4
  have x5 : W9.cell? ⟨w.heap.size + 1, 5, none⟩ = some (.int .i64 (kd : Int)) := R.own.cell 5
  have x6 : W9.cell? ⟨w.heap.size + 1, 6, none⟩ = some (.int .i64 (st : Int)) := R.own.cell 6
  have x7 : W9.cell? ⟨w.heap.size + 1, 7, none⟩ = some (.int .u64 (t0 : Int)) := R.own.cell 7
  have x8 : W9.cell? ⟨w.heap.size + 1, 8, none⟩ = some (.int .u64 (t1 : Int)) := R.own.cell 8
  have z0 : W9.cell? ⟨w.heap.size, 0, none⟩ = some (.int .u64 0) := R.res.cell 0
  have z1 : W9.cell? ⟨w.heap.size, 1, none⟩ = some (.int .u64 0) := R.res.cell 1
  have z2 : W9.cell? ⟨w.heap.size, 2, none⟩ = some (.int .u64 0) := R.res.cell 2
  have z3 : W9.cell? ⟨w.heap.size, 3, none⟩ = some (.string ⟨#[]⟩) := R.res.cell 3
  have z4 : W9.cell? ⟨w.heap.size, 4, none⟩ = some (.string ⟨#[]⟩) := R.res.cell 4
  have z5 : W9.cell? ⟨w.heap.size, 5, none⟩ = some (.int .i64 0) := R.res.cell 5
  have z6 : W9.cell? ⟨w.heap.size, 6, none⟩ = some (.int .i64 0) := R.res.cell 6
  have z7 : W9.cell? ⟨w.heap.size, 7, none⟩ = some (.int .u64 0) := R.res.cell 7
  have z8 : W9.cell? ⟨w.heap.size, 8, none⟩ = some (.int .u64 0) := R.res.cell 8
  have z9 : W9.cell? ⟨w.heap.size, 9, none⟩ = some (.slice none 0 0) := R.res.cell 9
  have g0 := R.res.frozen 0
  have g1 := R.res.frozen 1
  have g2 := R.res.frozen 2
  have g3 := R.res.frozen 3
  have g4 := R.res.frozen 4
  have g5 := R.res.frozen 5
  have g6 := R.res.frozen 6
  have g7 := R.res.frozen 7
  have g8 := R.res.frozen 8
  have g9 := R.res.frozen 9
  have hrl := R.own.lt
  have hdk : Hd w.heap.size (W9.setCell ⟨w.heap.size + 1, 9, none⟩ (.slice A l.length c)) A c l := B07.Hd.fr (hd.low (by have := hsz; omega)) (fr_set W9 (w.heap.size + 1) 9 (.slice A l.length c)) (fun a e hm => by have := (B07.Hd.lt hd a e).1; simp at hm; have := hsz; omega)
  have hdn : ∀ a, A = some a → w.heap.size + 1 < a.block := fun a e => by have := (B07.Hd.lt hd a e).1; have := hsz; omega
  clear hd
  replace R := R.put hQ 9 (.slice A l.length c)
  have E9 := Lib.hid e9
  clear hr hf e9
  have R9 : SR t w g Q #[.int .u64 (T : Int), .int .u64 (I : Int), .int .u64 (P : Int), .string sv, .string nm, .int .i64 (kd : Int), .int .i64 (st : Int), .int .u64 (t0 : Int), .int .u64 (t1 : Int), .slice A l.length c] σ9 (W9.setCell ⟨w.heap.size + 1, 9, none⟩ (.slice A l.length c)) := by simpa using R
  clear R
  have hs10 := Sp.mk (T : Int) (I : Int) (P : Int) sv nm (kd : Int) (st : Int) (t0 : Int) (t1 : Int)
  clear hs10
  obtain ⟨V9, hV9⟩ : ∃ V, W9.setCell ⟨w.heap.size + 1, 9, none⟩ (.slice A l.length c) = V := ⟨_, rfl⟩
  have hfin : Rs t (P06.put10 V9 w.heap.size ⟨T, I, P, sv, nm, kd, st, t0, t1⟩ (.slice A l.length c)) g Q σ9 ∧ Fr [g] w (P06.put10 V9 w.heap.size ⟨T, I, P, sv, nm, kd, st, t0, t1⟩ (.slice A l.length c)) ∧ Bk (P06.put10 V9 w.heap.size ⟨T, I, P, sv, nm, kd, st, t0, t1⟩ (.slice A l.length c)) w.heap.size 45 (spc ⟨T, I, P, sv, nm, kd, st, t0, t1⟩ (.slice A l.length c)) ∧ Hd w.heap.size (P06.put10 V9 w.heap.size ⟨T, I, P, sv, nm, kd, st, t0, t1⟩ (.slice A l.length c)) A c l := by
    rw [hV9] at R9 hdk
    have hh : ∀ b, w.heap.size ≠ b → (P06.put10 V9 w.heap.size ⟨T, I, P, sv, nm, kd, st, t0, t1⟩ (.slice A l.length c)).heap[b]? = V9.heap[b]? := fun b hb => heap_put10 V9 w.heap.size _ _ b hb
    have hsz2 := size_put10 V9 w.heap.size ⟨T, I, P, sv, nm, kd, st, t0, t1⟩ (.slice A l.length c)
    have hos := put10_os V9 w.heap.size ⟨T, I, P, sv, nm, kd, st, t0, t1⟩ (.slice A l.length c)
    refine ⟨R9.rs.same (by rw [hsz2]; exact Nat.le_refl _) (fun b hb => hh b (by have := hQ b hb; omega)), ⟨hos.1.trans R9.fr.os, hos.2.1.trans R9.fr.tape, hos.2.2.trans R9.fr.output, by rw [hsz2]; exact R9.fr.size, fun b hb hn => (hh b (by omega)).trans (R9.fr.block b hb hn)⟩, R9.res.put10 _ _, ?_⟩
    have hne := hdn
    rcases hdk with hd | ⟨q, hA, hB, hq, hH, r⟩
    · exact .inl hd
    · have e := hh q (by have := hne _ hA; dsimp only at this; omega)
      refine .inr ⟨q, hA, hB, by rw [hsz2]; exact hq, fun j hj => ?_, r⟩
      have h1 := hH j hj
      refine ⟨?_, ?_⟩
      · rw [World.cell?_of_block (by exact e)]; exact h1.1
      · have := h1.2
        unfold World.frozen? at this ⊢
        rw [e]
        exact this
  have HF := Lib.hid hfin
  have HV := Lib.hid hV9
  clear hfin hV9 R9 hdk hdn
  go_wp2
  change bodyPost _ _ _ _ _ (P06.put10 (W9.setCell ⟨w.heap.size + 1, 9, none⟩ (.slice A l.length c)) w.heap.size ⟨T, I, P, sv, nm, kd, st, t0, t1⟩ (.slice A l.length c))
  rw [HV.out]
  clear x0 x1 x2 x3 x4 x5 x6 x7 x8 z0 z1 z2 z3 z4 z5 z6 z7 z8 z9 g0 g1 g2 g3 g4 g5 g6 g7 g8 g9 y9 f9 HV
  generalize P06.put10 V9 w.heap.size ⟨T, I, P, sv, nm, kd, st, t0, t1⟩ (.slice A l.length c) = X at HF ⊢
  obtain ⟨hr, hf, hB, hd⟩ := HF.out
  have x0 : X.cell? ⟨w.heap.size, 0, none⟩ = some (.int .u64 (T : Int)) := hB.cell 0
  have x1 : X.cell? ⟨w.heap.size, 1, none⟩ = some (.int .u64 (I : Int)) := hB.cell 1
  have x2 : X.cell? ⟨w.heap.size, 2, none⟩ = some (.int .u64 (P : Int)) := hB.cell 2
  have x3 : X.cell? ⟨w.heap.size, 3, none⟩ = some (.string sv) := hB.cell 3
  have x4 : X.cell? ⟨w.heap.size, 4, none⟩ = some (.string nm) := hB.cell 4
  have x5 : X.cell? ⟨w.heap.size, 5, none⟩ = some (.int .i64 (kd : Int)) := hB.cell 5
  have x6 : X.cell? ⟨w.heap.size, 6, none⟩ = some (.int .i64 (st : Int)) := hB.cell 6
  have x7 : X.cell? ⟨w.heap.size, 7, none⟩ = some (.int .u64 (t0 : Int)) := hB.cell 7
  have x8 : X.cell? ⟨w.heap.size, 8, none⟩ = some (.int .u64 (t1 : Int)) := hB.cell 8
  have x9 : X.cell? ⟨w.heap.size, 9, none⟩ = some (.slice A l.length c) := hB.cell 9
  clear HF hB
  (try simp only [Exit.inBlock, Exit.then])
  refine bodyPost_ret (by simp [results, Try.results52, go_sem, x0, x1, x2, x3, x4, x5, x6, x7, x8, x9]; try rfl) rfl ?_
  refine ⟨σ9, (⟨T, I, P, sv, nm, kd, st, t0, t1⟩, l), ⟨A, c, rfl, hd, hl16⟩, hr, hf, ?_⟩
  unfold spn
  rw [step_bnd E0.out, step_bnd E1.out, step_bnd E2.out, step_bnd E3.out, step_bnd E4.out, step_bnd E5.out, step_bnd E6.out, step_bnd E7.out, step_bnd E8.out, step_bnd E9.out]
end Go.Proofs.Ytndcdidepdcmnaa.B07
