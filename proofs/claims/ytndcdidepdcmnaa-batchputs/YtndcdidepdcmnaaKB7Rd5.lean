/-
  The reader's spans, and its end; batch.Get.
-/
import Derived.Test.YtndcdidepdcmnaaKB7Rd4
import Derived.Deep.QuietTactic
import Derived.BigQuiet
set_option linter.unusedSimpArgs false
set_option linter.unusedVariables false
namespace Go.Proofs.Ytndcdidepdcmnaa.B07
open Go.RowKit Go.Lib Go.Maps Go.Proofs.Ytndcdidepdcmnaa.Wd Go.Proofs.Ytndcdidepdcmnaa.V01 Go.Proofs.Ytndcdidepdcmnaa.V04 Go.Proofs.Ytndcdidepdcmnaa.P06
open Go.Proofs.Ytndcdidepdcmnaa.S05 (Fr Sub Tab len_any len_nil read_any Told readF)
variable {t : List ByteArray} {w w' : World} {g : Nat} {Q : List Nat} {σ : Except Nat S7}

theorem span_info : (Try.prog.info? 45).map (fun i => (i.zero, i.size, i.bytes)) = some (some (.agg zsp), 10, 112) := by kernel_rfl
/-- one span's cells, laid in a block of their own -/
theorem Rd.lit10 (w : World) (e : TypeId) (x : Spn) : Rd 10 (w.alloc (.cells (tenA x) e)) (some ⟨w.heap.size, 0, none⟩) 1 1 (ten x) := by
  refine ⟨rfl, fun e => (by cases e), Nat.le_refl _, by unfold maxLen; omega, fun ad ha i u hu => ?_⟩
  injection ha with ha
  subst ha
  rw [Addr.add_lit, (Bk.new w e _).cell]
  simpa [ten, tenA] using hu
/-- 'append(own, x)' of a span, with where the new row lies -/
theorem wpList_append_ten {P : Program} (w : World) {ops : Array Oper} {rest : List Oper} {o : Oper} {a : Act} {Qq : Exit → Act → World → Prop} (hgd : o.guard = none) (s x : Operand) (tt : TypeId)
    (ho : o.op = .call { callee := .builtin .append, args := #[s, x], argTypes := #[tt, tt] })
    (base : Nat) (e : TypeId) (i : TypeInfo) (z : Value) (bytes : Nat) (ht : P.underlying tt = some (.slice e)) (hi : P.info? e = some i) (hz : i.zero = some z)
    (hsize : i.size = 10) (hby : i.bytes = bytes) (hzs : z.cells.size = 10)
    (v : Value) (n : Nat) (xs : List Value) (hs : a.eval s = v) (hown : w.ownsRow base e 10 v n xs)
    (b : Nat) (y : Spn) (hx : a.eval x = .slice (some ⟨b, 0, none⟩) 1 1) (hr : Rd 10 w (some ⟨b, 0, none⟩) 1 1 (ten y))
    (h63 : n + 1 ≤ maxLen) (hbytes : (n + 1) * bytes ≤ 140737488355328) (hbase : base ≤ w.heap.size)
    (h : ∀ A' c' w', w'.ownsRow base e 10 (.slice A' (n + 1) c') (n + 1) (xs ++ ten y) → w.grownBy w' v.ownBlock →
      ((Value.slice A' (n + 1) c').ownBlock = v.ownBlock ∨ (Value.slice A' (n + 1) c').ownBlock = some w.heap.size) → wpList P ops Qq rest (a.put o.dst (.slice A' (n + 1) c')) w') :
    wpList P ops Qq (o :: rest) a w := by
  refine wpList_append_own_at w hgd s x tt ho base e i z 10 bytes ht hi hz hsize hby hzs (by decide) v n xs hs hown ⟨b, 0, none⟩ 1 1 (ten y) hx hr.len (hr.at_ _ rfl) (ten_one y) h63 hbytes hbase fun v' w' h2 h3 _ h5 => ?_
  obtain ⟨A1, c1, hv⟩ := own_form h2
  subst hv
  exact h A1 c1 w' h2 h3 h5

def encL (B : Nat) (L : List Pn) (w' : World) (x : Ending) : Prop := ∃ A c Ls, x = .returned (.slice A L.length c) ∧ pns Ls = L ∧ OwnS B 45 w' A c Ls ∧ (∀ y ∈ L, y.2.length ≤ 16) ∧ L.length ≤ 1024
/-- where the loop over spans is -/
structure LR (t : List ByteArray) (w : World) (g : Nat) (Q : List Nat) (σ : Except Nat S7) (n k : Nat) (A : Option Addr) (c : Nat) (L : List Spn) (σk : Except Nat S7) (wr : World) : Prop where
  own : OwnS w.heap.size 45 wr A c L
  len : L.length = k
  sm : ∀ x ∈ L, x.l.length ≤ 16
  rs : Rs t wr g Q σk
  fr : Fr [g] w wr
  eq : step σ (sps t) = step σk (spsK t (n - k) (pns L))
theorem OwnS.fr {B : Nat} {tt : TypeId} {A : Option Addr} {c : Nat} {L : List Spn} (h : OwnS B tt w A c L) (f : Fr [g] w w') (hg : g < B) : OwnS B tt w' A c L :=
  ⟨own_fr h.row f (fun k hk hm => by have := (h.row.lt k hk).1; simp at hm; omega), fun x hx => B07.Hd.fr (h.ats x hx) f (fun a e hm => by have := (B07.Hd.lt (h.ats x hx) a e).1; simp at hm; omega), h.apart⟩

set_option maxRecDepth 20000 in
set_option maxHeartbeats 2000000 in
theorem rspans_any (h : Rs t w g Q σ) : Calls Try.prog 34 #[.pointer (some ⟨g, 0, none⟩)] w (MOut t w g Q σ (sps t) (encL w.heap.size)) := by
  obtain ⟨i0, hi, hz0, hz1, hz2⟩ := info_parts span_info
  have hcn := rcnt_any 1024 (by omega) h
  have hQ := h.lt
  have hgl := h.lt g h.gQ
  clear h
  go_enter Try.func34, Try.ntmps34
  go_wp2_with fail
  refine hcn.mono ?_
  rintro x w2 ⟨σ2, n, ⟨rfl, hn⟩, h2, f2, e2⟩
  have hR0 : LR t w g Q σ n 0 none 0 [] σ2 w2 := ⟨OwnS.nil _ _ _, rfl, fun _ h => (by cases h), h2, f2, step_bnd e2 fun n => spsK t n []⟩
  clear hcn h2 f2 e2
  go_wp2_with fail
  go_loopw [3, 6] (fun v i wr => ∃ (k : Nat) (A : Option Addr) (c : Nat) (L : List Spn) (σk : Except Nat S7), v = .slice A k c ∧ i = .int .i64 (k : Nat) ∧ k ≤ n ∧ LR t w g Q σ n k A c L σk wr) (fun _ i _ => n - (intOf i).toNat)
  case atStart => exact ⟨0, none, 0, [], σ2, rfl, rfl, Nat.zero_le _, hR0⟩
  case round =>
    clear hR0
    obtain ⟨k, A, c, L, σk, rfl, rfl, hk, R⟩ := hrel
    by_cases hlt : k < n
    · have hltz : (k : Int) < (n : Int) := by omega
      have hsp := rspan_any R.rs
      have HR := Lib.hid R
      have hwr := R.fr.size
      clear R
      go_wp2_with fail
      refine hsp.mono ?_
      rintro x w3 ⟨σ3, ⟨s, l⟩, ⟨A1, c1, rfl, hd, hl⟩, h3, f3, e3⟩
      dsimp only at hd hl ⊢
      have own3 := OwnS.fr HR.out.own f3 hgl
      have hrow3 : w3.ownsRow w.heap.size 45 10 (.slice A k c) k (L.flatMap ten) := by have := own3.row; rw [HR.out.len] at this; exact this
      have bx := below_box w3 (.cells (tenA ⟨s, A1, c1, l⟩) 45) (Nat.le_refl _)
      have hrow4 := own_below hrow3 bx
      have h4 := h3.below bx
      have hfr3 : Fr [g] w w3 := B07.Fr.again HR.out.fr f3
      have hfr4 := fr_below hfr3 bx
      have hlit := Rd.lit10 w3 45 ⟨s, A1, c1, l⟩
      have hxa : ∀ a, A = some a → ∀ a', A1 = some a' → a'.block ≠ a.block := fun a e a' e' hc => by
        have h1 := (B07.Hd.lt hd a' e').1
        have h2 := (HR.out.own.row.lt a.block (by rw [e]; rfl)).2
        omega
      have hd' := hd.low (B' := w.heap.size) hwr
      have hsz := hfr4.size
      have E3 := Lib.hid e3
      have F4 := Lib.hid hfr4
      have H4 := Lib.hid h4
      have O3 := Lib.hid own3
      have BX := Lib.hid bx
      have HD := Lib.hid hd'
      have HX := Lib.hid hxa
      clear hsp h3 f3 e3 own3 hrow3 bx hfr3 hfr4 h4 hd hd' hxa
      go_wp2_with (at_builtin; refine wpList_append_ten _ rfl (.tmp 8) (.tmp 11) 29 rfl w.heap.size 45 i0 _ 112 Try.underlying29 hi hz0 hz1 hz2 rfl _ k (L.flatMap ten) rfl hrow4 _ ⟨s, A1, c1, l⟩ rfl hlit ?d1 ?d2 ?d3 ?_)
      case d1 => unfold maxLen; omega
      case d2 => omega
      case d3 => exact hsz
      intro A6 c6 w6 hrow6 hg6 hat6
      have hR6 : LR t w g Q σ n (k + 1) A6 c6 (L ++ [⟨s, A1, c1, l⟩]) σ3 w6 := by
        have hne : ∀ q, (Value.slice A k c).ownBlock = some q → w.heap.size ≤ q := fun q hq => (hrow4.lt q hq).1
        refine ⟨?_, by simp [HR.out.len], fun x hx => ?_, H4.out.grown hg6 (fun q hq hm => by have := hne q hq; have := hQ q hm; omega), fr_grown F4.out hg6 hne, ?_⟩
        · exact O3.out.app (x := ⟨s, A1, c1, l⟩) HD.out HX.out BX.out (by rw [HR.out.len]; exact hrow6) (by rw [HR.out.len]; exact hg6) (by rw [HR.out.len]; simpa using hat6)
        · rcases List.mem_append.1 hx with hx | hx
          · exact HR.out.sm x hx
          · simp at hx; subst hx; exact hl
        · rw [HR.out.eq, show n - k = n - (k + 1) + 1 by omega]
          show step σk (bnd (spn t) _) = _
          rw [step_bnd E3.out]
          simp [pns, Spn.pn]
      clear hrow6 hg6 hat6 H4 F4 HR E3 hrow4 hlit O3 BX HD HX
      go_wp2
      go_roundw
      case rel => exact ⟨k + 1, A6, c6, _, σ3, rfl, by go_num, by omega, hR6⟩
      case measure => first | go_num | (simp [intOf]; omega)
    · have hltz : ¬ ((k : Int) < (n : Int)) := by omega
      have hkn : k = n := by omega
      subst hkn
      have HR := Lib.hid R
      clear R
      go_wp2
      go_ret
      refine ⟨σk, pns L, ⟨A, c, L, by rw [pns_len, HR.out.len]; rfl, rfl, HR.out.own, fun y hy => ?_, by rw [pns_len, HR.out.len]; omega⟩, HR.out.rs, HR.out.fr, ?_⟩
      · obtain ⟨x, hx, rfl⟩ := List.mem_map.1 hy
        exact HR.out.sm x hx
      · rw [HR.out.eq, Nat.sub_self]
        rfl

/-- what end leaves -/
def endS (t : List ByteArray) : Except Nat S7 → Except Nat S7
  | .error f => .error f
  | .ok (l, m, sk) => if l ≠ [] ∨ sk = true ∨ m < t.length then .error 11 else .ok (l, m, sk)

set_option maxRecDepth 20000 in
set_option maxHeartbeats 2000000 in
theorem rend_any (h : Rs t w g Q σ) : Calls Try.prog 35 #[.pointer (some ⟨g, 0, none⟩)] w fun x w' => x = .returned (.tuple #[]) ∧ Rs t w' g Q (endS t σ) ∧ Fr [g] w w' := by
  have hfd : ∀ n, Fr [g] w (w.drewN n) := fun n => Fr.of_below _ ⟨rfl, rfl, rfl, Nat.le_refl _, fun _ _ => rfl⟩
  cases σ with
  | ok s =>
    obtain ⟨l, m, sk⟩ := s
    have h0 := h
    obtain ⟨A, c, p, o, h⟩ := h
    have hB := h.box
    have htl := h.tab.len
    dsimp only at hB
    obtain ⟨q, hq⟩ : ∃ q, t.length = q := ⟨_, rfl⟩
    obtain ⟨len, hl⟩ : ∃ len, l.length = len := ⟨_, rfl⟩
    have hlen := h.len
    dsimp only at hlen
    rw [hl] at hB hlen
    have x0 : w.cell? ⟨g, 0, none⟩ = some (.slice A len c) := hB.cell 0
    have x2 : w.cell? ⟨g, 2, none⟩ = some (.pointer (some ⟨p, 0, none⟩)) := hB.cell 2
    have x3 : w.cell? ⟨g, 3, none⟩ = some (.int .i64 (m : Int)) := hB.cell 3
    have x4 : w.cell? ⟨g, 4, none⟩ = some (.bool sk) := hB.cell 4
    have c1 := fun n => (len_any (w.drewN n) p t o q (h.tab.below ⟨rfl, rfl, rfl, Nat.le_refl _, fun _ _ => rfl⟩) hq).mono (fun _ _ x => ⟨x.1, x.2.symm⟩ : ∀ e w', _ → e = .returned (.int .i64 q) ∧ w' = w.drewN n)
    have hf := fun n => fail_any 11 (h0.drewN n) (by omega) (by omega)
    rw [hq] at htl
    by_cases hz : len = 0
    · subst hz
      have hnil : l = [] := List.eq_nil_of_length_eq_zero hl
      have p1 : (decide ((0 : Int) < ((0 : Nat) : Int))) = false := by decide
      have p2 : decide (0 < 0) = false := by decide
      clear hl hlen
      cases sk with
      | true =>
        have hE : endS t (.ok (l, m, true)) = failS 11 (.ok (l, m, true)) := by simp [endS, failS]
        have HE := Lib.hid hE
        clear hB h h0 c1 hE
        go_enter Try.func35, Try.ntmps35
        go_wp2_with fail
        go_quiet (fail)
        go_wp2_with fail
        refine (hf _).mono ?_
        rintro x w3 ⟨rfl, h3, f3⟩
        go_wp2
        refine bodyPost_end (results_none rfl _ _ _) rfl ?_
        exact ⟨rfl, by rw [HE.out]; exact h3, B07.Fr.again (hfd _) f3⟩
      | false =>
        by_cases hmq : m < q
        · have p3 : (m : Int) < (q : Int) := by omega
          have hE : endS t (.ok (l, m, false)) = failS 11 (.ok (l, m, false)) := by simp [endS, failS, hq, hmq]
          have HE := Lib.hid hE
          clear hB h h0 hE hq
          go_enter Try.func35, Try.ntmps35
          go_wp2_with fail
          go_quiet (first | (go_at_call 53; with_reducible exact Calls.quiet_of_same (c1 _)))
          go_wp2_with fail
          refine (hf _).mono ?_
          rintro x w3 ⟨rfl, h3, f3⟩
          go_wp2
          refine bodyPost_end (results_none rfl _ _ _) rfl ?_
          exact ⟨rfl, by rw [HE.out]; exact h3, B07.Fr.again (hfd _) f3⟩
        · have p3 : ¬ ((m : Int) < (q : Int)) := by omega
          have hE : endS t (.ok (l, m, false)) = .ok (l, m, false) := by simp [endS, hq, hnil]; omega
          have HE := Lib.hid hE
          have H0 := Lib.hid h0
          clear hB h h0 hE hq hf
          go_enter Try.func35, Try.ntmps35
          go_wp2_with fail
          go_quiet (first | (go_at_call 53; with_reducible exact Calls.quiet_of_same (c1 _)))
          go_wp2
          refine bodyPost_end (results_none rfl _ _ _) rfl ?_
          exact ⟨rfl, by rw [HE.out]; exact H0.out.drewN _, hfd _⟩
    · have hne : l ≠ [] := fun e => hz (by rw [← hl, e]; rfl)
      have p1 : (decide ((0 : Int) < (len : Int))) = true := by simp; omega
      have p2 : decide (0 < len) = true := by simp; omega
      have p3 : (0 : Int) < (len : Int) := by omega
      have hE : endS t (.ok (l, m, sk)) = failS 11 (.ok (l, m, sk)) := by simp [endS, failS, hne]
      have HE := Lib.hid hE
      clear hB h h0 c1 hE hl
      go_enter Try.func35, Try.ntmps35
      go_wp2_with fail
      go_quiet (fail)
      go_wp2_with fail
      refine (hf _).mono ?_
      rintro x w3 ⟨rfl, h3, f3⟩
      go_wp2
      refine bodyPost_end (results_none rfl _ _ _) rfl ?_
      exact ⟨rfl, by rw [HE.out]; exact h3, B07.Fr.again (hfd _) f3⟩
  | error f =>
    have h0 := h
    obtain ⟨m, sk, hB⟩ := h.box
    have x0 : w.cell? ⟨g, 0, none⟩ = some (.slice none 0 0) := hB.cell 0
    have x2 : w.cell? ⟨g, 2, none⟩ = some (.pointer none) := hB.cell 2
    have x3 : w.cell? ⟨g, 3, none⟩ = some (.int .i64 (m : Int)) := hB.cell 3
    have x4 : w.cell? ⟨g, 4, none⟩ = some (.bool sk) := hB.cell 4
    have p1 : (decide ((0 : Int) < ((0 : Nat) : Int))) = false := by decide
    have p2 : decide (0 < 0) = false := by decide
    have p3 : ¬ ((m : Int) < 0) := by omega
    have c1 := fun n => (len_nil (w.drewN n)).mono (fun _ _ x => ⟨x.1, x.2.symm⟩ : ∀ e w', _ → e = .returned (.int .i64 0) ∧ w' = w.drewN n)
    have hf := fun n => fail_any 11 (h0.drewN n) (by omega) (by omega)
    have H0 := Lib.hid h0
    clear hB h h0
    cases sk with
    | true =>
      clear c1
      go_enter Try.func35, Try.ntmps35
      go_wp2_with fail
      go_quiet (fail)
      go_wp2_with fail
      refine (hf _).mono ?_
      rintro x w3 ⟨rfl, h3, f3⟩
      go_wp2
      refine bodyPost_end (results_none rfl _ _ _) rfl ?_
      exact ⟨rfl, h3, B07.Fr.again (hfd _) f3⟩
    | false =>
      clear hf
      go_enter Try.func35, Try.ntmps35
      go_wp2_with fail
      go_quiet (first | (go_at_call 53; with_reducible exact Calls.quiet_of_same (c1 _)))
      go_wp2
      refine bodyPost_end (results_none rfl _ _ _) rfl ?_
      exact ⟨rfl, H0.out.drewN _, hfd _⟩

/-! ### a new reader, and Get -/
def start (b : List UInt8) (r : List ByteArray × Nat × Nat) : Except Nat S7 := if r.2.2 ≠ 0 then .error r.2.2 else .ok (b.drop r.2.1, 0, false)
set_option maxRecDepth 20000 in
theorem fail_raw (e : Nat) (v : Value) (p : Option Addr) (m : Nat) (sk : Bool) (hB : Bk w g 82 (rdc v 0 p m sk)) (he : e ≠ 0) (hm : e ≤ 1000) :
    Calls Try.prog 54 #[.pointer (some ⟨g, 0, none⟩), .int .i64 (e : Int)] w fun x w' => x = .returned (.tuple #[]) ∧ Rer w' g [g] e ∧ Fr [g] w w' := by
  have c1 : w.cell? ⟨g, 1, none⟩ = some (.int .i64 0) := hB.cell 1
  have c0 : w.cell? ⟨g, 0, none⟩ = some v := hB.cell 0
  have c2 : w.cell? ⟨g, 2, none⟩ = some (.pointer p) := hB.cell 2
  have f0 := hB.frozen 0
  have f1 := hB.frozen 1
  have f2 := hB.frozen 2
  have hB2 := ((hB.set 1 (.int .i64 (e : Int))).set 0 (.slice none 0 0)).set 2 (.pointer none)
  have hF := Fr.again (Fr.again (fr_set w g 1 (.int .i64 (e : Int))) (fr_set (w.setCell ⟨g, 1, none⟩ (.int .i64 (e : Int))) g 0 (.slice none 0 0))) (fr_set ((w.setCell ⟨g, 1, none⟩ (.int .i64 (e : Int))).setCell ⟨g, 0, none⟩ (.slice none 0 0)) g 2 (.pointer none))
  have hR : Rer (((w.setCell ⟨g, 1, none⟩ (.int .i64 (e : Int))).setCell ⟨g, 0, none⟩ (.slice none 0 0)).setCell ⟨g, 2, none⟩ (.pointer none)) g [g] e :=
    ⟨he, ⟨m, sk, by simpa using hB2⟩, by simp, fun x hx => by simp at hx; subst hx; exact Nat.lt_of_lt_of_le hB.lt hF.size⟩
  have HR := Lib.hid hR
  have HF := Lib.hid hF
  clear hB hB2 hR hF
  go_enter Try.func54, Try.ntmps54
  go_wp2
  refine bodyPost_end (results_none rfl _ _ _) rfl ?_
  exact ⟨rfl, HR.out, HF.out⟩
set_option maxRecDepth 20000 in
theorem take_raw (k : Int) (e : Nat) (v : Value) (p : Option Addr) (m : Nat) (sk : Bool) (hB : Bk w g 82 (rdc v 0 p m sk)) (he : e ≠ 0) (hm : e ≤ 1000) :
    Calls Try.prog 50 #[.pointer (some ⟨g, 0, none⟩), .int .i64 k, .int .i64 (e : Int)] w fun x w' => x = .returned (.tuple #[]) ∧ Rer w' g [g] e ∧ Fr [g] w w' := by
  have hne : ¬ ((e : Int) = 0) := by omega
  have hf := fail_raw e v p m sk hB he hm
  clear hB
  go_enter Try.func50, Try.ntmps50
  go_wp2_with fail
  refine hf.mono ?_
  rintro x w2 ⟨rfl, h2, f2⟩
  go_wp2
  refine bodyPost_ret (results_none rfl _ _ _) rfl ?_
  exact ⟨rfl, h2, f2⟩

set_option maxRecDepth 20000 in
set_option maxHeartbeats 2000000 in
theorem new_any (A : Option Addr) (c len : Nat) (b : List UInt8) (w : World) (hb : Bs w A c b) (hlen : b.length = len) (hl : len ≤ 65536) :
    Calls Try.prog 33 #[.slice A len c] w fun x w' => ∃ g Q, x = .returned (.pointer (some ⟨g, 0, none⟩)) ∧ Rs (readF b).1 w' g Q (start b (readF b)) ∧ w.heap.size ≤ g ∧ Below w.heap.size w w' := by
  have hrd := readF_le b
  have b1 := below_box w (.cells (rdc (.slice A len c) 0 none 0 false) 82) (Nat.le_refl _)
  have hB : Bk (w.alloc (.cells (rdc (.slice A len c) 0 none 0 false) 82)) w.heap.size 82 (rdc (.slice A len c) 0 none 0 false) := Bk.new w _ _
  have hread := read_any A c len b _ (hb.below b1) hlen hl
  have hAlt : ∀ a, A = some a → b ≠ [] → a.block < w.heap.size := fun a e hne => by
    obtain ⟨ad, e2, hc⟩ := hb.get (k := 0) (List.length_pos_iff.2 hne)
    rw [e] at e2
    injection e2 with e2
    subst e2
    have := World.block_lt_of_cell? _ _ hc
    rw [add_block] at this
    exact this
  go_enter Try.func33, Try.ntmps33
  go_wp2_with fail
  change Calls _ _ _ (w.alloc (.cells (rdc (.slice A len c) 0 none 0 false) 82)) _
  have hb1 := hb.below b1
  have hsz1 : (w.alloc (.cells (rdc (.slice A len c) 0 none 0 false) 82)).heap.size = w.heap.size + 1 := by simp
  generalize w.alloc (.cells (rdc (.slice A len c) 0 none 0 false) 82) = w1 at b1 hB hread hb1 hsz1 ⊢
  refine hread.mono ?_
  rintro x w2 ⟨hT, b2⟩
  have hB2 := hB.below b2
  have hb2 := hb1.below b2
  have bb2 := b1.trans (b2.mono b1.size)
  clear hread
  rcases hT with ⟨he, rfl⟩ | ⟨he, p, o, rfl, hTab, hnew⟩
  · obtain ⟨e, hee⟩ : ∃ e, (readF b).2.2 = e := ⟨_, rfl⟩
    have hst : start b (readF b) = .error e := by unfold start; rw [hee, if_pos (by rw [← hee]; exact he)]
    rw [hee] at he hrd ⊢
    have c2 : w2.cell? ⟨w.heap.size, 2, none⟩ = some (.pointer none) := hB2.cell 2
    have f2 := hB2.frozen 2
    have hB3 := hB2.set 2 (.pointer none)
    have hB3' : Bk (w2.setCell ⟨w.heap.size, 2, none⟩ (.pointer none)) w.heap.size 82 (rdc (.slice A len c) 0 none 0 false) := by simpa [rdc] using hB3
    have htk := take_raw 0 e _ _ _ _ hB3' he (by omega)
    have b3 : Below w.heap.size w (w2.setCell ⟨w.heap.size, 2, none⟩ (.pointer none)) := ⟨bb2.os, bb2.tape, bb2.output, by simpa using bb2.size, fun k hk => by rw [heap_set _ _ _ _ _ (by omega)]; exact bb2.block k hk⟩
    have HS := Lib.hid hst
    clear hB hB2 hB3 hB3' hee hst hb1 hb2 hb b1 b2 hAlt
    go_wp2_with fail
    refine htk.mono ?_
    rintro x w4 ⟨rfl, h4, f4⟩
    clear htk
    go_wp2
    go_ret
    exact ⟨w.heap.size, [w.heap.size], rfl, by rw [HS.out]; exact h4, Nat.le_refl _, b3.trans (f4.below b3.size (fun x hx => by simp at hx; omega))⟩
  · obtain ⟨⟨t, k, e⟩, hr⟩ : ∃ r, readF b = r := ⟨_, rfl⟩
    rw [hr] at he hrd hTab ⊢
    dsimp only at he hrd hTab ⊢
    subst he
    have hst : start b (t, k, 0) = .ok (b.drop k, 0, false) := by simp [start]
    have hne : b ≠ [] := fun e => by
      rw [e] at hr
      have : readF [] = ([], 0, 10) := by unfold readF; rfl
      rw [this] at hr
      simp at hr
    have c2 : w2.cell? ⟨w.heap.size, 2, none⟩ = some (.pointer none) := hB2.cell 2
    have f2 := hB2.frozen 2
    have hB3 := hB2.set 2 (.pointer (some ⟨p, 0, none⟩))
    have hoN : w.heap.size ∉ o := fun hm => by have := hnew _ hm; omega
    have b3 : Below w.heap.size w (w2.setCell ⟨w.heap.size, 2, none⟩ (.pointer (some ⟨p, 0, none⟩))) := ⟨bb2.os, bb2.tape, bb2.output, by simpa using bb2.size, fun k hk => by rw [heap_set _ _ _ _ _ (by omega)]; exact bb2.block k hk⟩
    have hlt2 := bb2.size
    have hgl := hB2.lt
    have hRok : Rs t (w2.setCell ⟨w.heap.size, 2, none⟩ (.pointer (some ⟨p, 0, none⟩))) w.heap.size (w.heap.size :: (o ++ (A.map (·.block)).toList)) (.ok (b, 0, false)) := by
      refine ⟨A, c, p, o, ⟨?_, ?_, ?_, hoN, fun a e => ?_, by simp, fun x hx => by simp [hx], fun a e => by subst e; simp, fun x hx => ?_, by show b.length ≤ 65536; omega, Nat.zero_le _⟩⟩
      · show Bk _ _ _ (rdc (.slice A b.length c) 0 (some ⟨p, 0, none⟩) 0 false)
        rw [hlen]
        simpa [rdc] using hB3
      · exact B07.Bs.same hb2 fun a e => heap_set _ _ _ _ _ (by have := hAlt a e hne; omega)
      · exact hTab.fr (fr_set w2 w.heap.size 2 _) (fun x hx hm => by simp at hm; subst hm; exact hoN hx)
      · have := hAlt a e hne; omega
      · simp only [World.setCell]
        have : x < w2.heap.size := by
          simp only [List.mem_cons, List.mem_append, Option.mem_toList, Option.map_eq_some_iff] at hx
          rcases hx with rfl | hx | ⟨a, e, rfl⟩
          · exact hgl
          · exact hTab.lt x hx
          · have := hAlt a e hne; omega
        simpa using this
    have htk := take_ok k b 0 false hRok (hrd.2 rfl)
    have HS := Lib.hid hst
    have HRd := Lib.hid hr
    have hQ : ∀ x, x ∈ [w.heap.size] → w.heap.size ≤ x := fun x hx => by simp at hx; omega
    clear hB hB2 hB3 hr hst hb1 hb2 hb b1 b2 hAlt hRok hTab
    go_wp2_with fail
    refine htk.mono ?_
    rintro x w4 ⟨rfl, h4, f4⟩
    clear htk
    go_wp2
    go_ret
    exact ⟨w.heap.size, _, rfl, by rw [HRd.out, HS.out]; exact h4, Nat.le_refl _, b3.trans (f4.below b3.size hQ)⟩
theorem OwnS.low {B B' : Nat} {tt : TypeId} {A : Option Addr} {c : Nat} {L : List Spn} (h : OwnS B tt w A c L) (hb : B' ≤ B) : OwnS B' tt w A c L := ⟨own_base h.row hb, fun x hx => (h.ats x hx).low hb, h.apart⟩
theorem getB_of {b : List UInt8} {σ2 : Except Nat S7} {L : List Pn} (hl : b.length ≤ 65536) (h : step (start b (readF b)) (sps (readF b).1) = step σ2 (ret L)) : getB b = match endS (readF b).1 σ2 with
    | .error f => .error f
    | .ok _ => .ok L := by
  unfold getB
  rw [if_neg (by omega)]
  unfold start at h
  by_cases he : (readF b).2.2 ≠ 0
  · rw [if_pos he] at h ⊢
    cases σ2 with
    | error f => simp only [step, Except.error.injEq] at h; rw [h]; rfl
    | ok s => simp [step, ret] at h
  · rw [if_neg he] at h ⊢
    cases σ2 with
    | error f =>
      simp only [step] at h
      rw [h]
      rfl
    | ok s =>
      obtain ⟨l, m, sk⟩ := s
      simp only [step, ret] at h
      rw [h]
      simp only [fin, endS]
      split <;> rfl
/-- what Get answers, in memory -/
def GetOut (w : World) (r : Except Nat (List Pn)) (x : Ending) (w' : World) : Prop :=
  (match r with
   | .error e => e ≠ 0 ∧ x = .returned (.tuple #[.slice none 0 0, .int .i64 (e : Int)])
   | .ok L => ∃ A c Ls, x = .returned (.tuple #[.slice A L.length c, .int .i64 0]) ∧ pns Ls = L ∧ OwnS w.heap.size 45 w' A c Ls ∧ (∀ y ∈ L, y.2.length ≤ 16) ∧ L.length ≤ 1024) ∧ Below w.heap.size w w'

set_option maxRecDepth 20000 in
theorem get_long (A : Option Addr) (c len : Nat) (b : List UInt8) (w : World) (hlen : b.length = len) (hl : 65536 < len) : Calls Try.prog 13 #[.slice A len c] w (GetOut w (getB b)) := by
  have hz : (65536 : Int) < (len : Int) := by omega
  have hg : getB b = .error 2 := by unfold getB; rw [if_pos (by omega)]
  have HG := Lib.hid hg
  clear hg
  go_enter Try.func13, Try.ntmps13
  go_wp2
  go_ret2
  rw [HG.out]
  exact ⟨⟨by omega, rfl⟩, Below.refl _ _⟩

set_option maxRecDepth 20000 in
set_option maxHeartbeats 2000000 in
theorem get_any (A : Option Addr) (c len : Nat) (b : List UInt8) (w : World) (hb : Bs w A c b) (hlen : b.length = len) (hl : len ≤ 65536) : Calls Try.prog 13 #[.slice A len c] w (GetOut w (getB b)) := by
  have hz : ¬ ((65536 : Int) < (len : Int)) := by omega
  have hnew := B07.new_any A c len b w hb hlen hl
  obtain ⟨t, ht⟩ : ∃ t, (readF b).1 = t := ⟨_, rfl⟩
  rw [ht] at hnew
  have hgo := fun (σ2 : Except Nat S7) (L : List Pn) (h : step (start b (readF b)) (sps (readF b).1) = step σ2 (ret L)) => getB_of (by omega) h
  rw [ht] at hgo
  have HG := Lib.hid hgo
  clear hgo ht hb
  go_enter Try.func13, Try.ntmps13
  go_wp2_with fail
  refine hnew.mono ?_
  rintro x w2 ⟨g, Q, rfl, h2, hg, b2⟩
  have hsp := rspans_any h2
  have hg2 := h2.lt g h2.gQ
  clear hnew h2
  go_wp2_with fail
  refine hsp.mono ?_
  rintro x w3 ⟨σ3, L, ⟨A3, c3, Ls, rfl, hpn, own3, hy, hLl⟩, h3, f3, e3⟩
  have hed := rend_any h3
  have hput := HG.out σ3 L e3
  have b3 := b2.trans (f3.below b2.size (fun x hx => by simp at hx; omega))
  have HP := Lib.hid hput
  have HPn := Lib.hid hpn
  have HY := Lib.hid hy
  clear hsp h3 e3 hput HG hpn hy
  go_wp2_with fail
  refine hed.mono ?_
  rintro x w4 ⟨rfl, h4, f4⟩
  have own4 := (OwnS.fr own3 f4 hg2).low b2.size
  have b4 := b3.trans (f4.below b3.size (fun x hx => by simp at hx; omega))
  have HO := Lib.hid own4
  clear hed own3 own4 f3 f4 b2 b3
  obtain ⟨σ4, hσ⟩ : ∃ σ4, endS t σ3 = σ4 := ⟨_, rfl⟩
  rw [hσ] at h4 HP
  clear hσ
  cases σ4 with
  | error f =>
    obtain ⟨m, sk, hB⟩ := h4.box
    have c1 : w4.cell? ⟨g, 1, none⟩ = some (.int .i64 (f : Int)) := hB.cell 1
    have hne := h4.ne
    have hnz : ¬ ((f : Int) = 0) := by omega
    clear hB h4
    go_wp2_with fail
    go_quiet (fail)
    go_wp2
    go_ret2
    rw [HP.out]
    exact ⟨⟨hne, rfl⟩, below_dn b4 _⟩
  | ok s =>
    obtain ⟨A5, c5, p5, o5, hk⟩ := h4
    have c1 : w4.cell? ⟨g, 1, none⟩ = some (.int .i64 0) := hk.box.cell 1
    clear hk
    go_wp2
    go_ret2
    rw [HP.out]
    exact ⟨⟨A3, c3, Ls, rfl, HPn.out, HO.out, HY.out, hLl⟩, b4⟩
end Go.Proofs.Ytndcdidepdcmnaa.B07
