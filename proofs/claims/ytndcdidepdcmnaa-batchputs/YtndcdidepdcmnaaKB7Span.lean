/-
  writer.span: the bytes of a span that was checked.
-/
import Derived.Test.YtndcdidepdcmnaaKB7Txt
import Derived.Test.YtndcdidepdcmnaaKB7Chk
set_option linter.unusedSimpArgs false
set_option linter.unusedVariables false
namespace Go.Proofs.Ytndcdidepdcmnaa.B07
open Go.RowKit Go.Lib Go.Maps Go.Proofs.Ytndcdidepdcmnaa.Wd Go.Proofs.Ytndcdidepdcmnaa.V01 Go.Proofs.Ytndcdidepdcmnaa.V04 Go.Proofs.Ytndcdidepdcmnaa.P06
open Go.Proofs.Ytndcdidepdcmnaa.S05 (Fr Sub Tab ix)

/-- what lies beside a writer: the span's box, its attributes -/
structure Side (w : World) (O : List Nat) (h : Nat) (s : Sp) (A : Option Addr) (n c : Nat) (l : List At) : Prop where
  box : Bk w h 45 (spc s (.slice A n c))
  out : h ∉ O
  ats : Ats w A c l
  apart : ∀ a, A = some a → l ≠ [] → a.block ∉ O
theorem Ats.fr {w w' : World} {O : List Nat} {A : Option Addr} {c : Nat} {l : List At} (h : Ats w A c l) (f : Fr O w w') (hd : ∀ a, A = some a → l ≠ [] → a.block ∉ O) : Ats w' A c l :=
  ⟨h.len, h.none_, h.cap, h.max, fun ad ha i u hu => by
    have hc := h.at_ ad ha i u hu
    have hb := World.block_lt_of_cell? _ _ hc
    rw [add_block] at hb
    rw [World.cell?_of_block (w := w) (w' := w') (by rw [add_block]; exact f.block _ hb (hd ad ha (fun e => by subst e; simp at hu)))]
    exact hc⟩
theorem Ats.lt {w : World} {A : Option Addr} {c : Nat} {l : List At} (h : Ats w A c l) : ∀ a, A = some a → l ≠ [] → a.block < w.heap.size := fun a e hl => by
  have h0 : 0 < l.length := List.length_pos_iff.2 hl
  obtain ⟨ad, p, e2, hp, F⟩ := h.get h0
  rw [e] at e2
  injection e2 with e2
  subst e2
  have := World.block_lt_of_cell? _ _ F.c0
  rw [← hp, add_block] at this
  exact this
theorem Side.fr {w w' : World} {O O' : List Nat} {h : Nat} {s : Sp} {A : Option Addr} {n c : Nat} {l : List At} (S : Side w O h s A n c l) (f : Fr O w w') (sb : Sub w O' O) : Side w' O' h s A n c l :=
  ⟨Fr.bk S.box f S.out, Sub.out sb S.box.lt S.out, Ats.fr S.ats f S.apart, fun a e hl => Sub.out sb (B07.Ats.lt S.ats a e hl) (S.apart a e hl)⟩
theorem Side.below {w w' : World} {O : List Nat} {h : Nat} {s : Sp} {A : Option Addr} {n c : Nat} {l : List At} (S : Side w O h s A n c l) (hb : Below w.heap.size w w') : Side w' O h s A n c l :=
  ⟨S.box.below hb, S.out, S.ats.below hb, S.apart⟩

theorem byte_cell {z : Int} (h : inB z = true) : ((byte z).toNat : Int) = z ∧ z % 256 = z := by
  have hz : 0 ≤ z ∧ z ≤ 255 := by simpa [inB] using h
  refine ⟨?_, by omega⟩
  unfold byte
  rw [UInt8.toNat_ofNat_of_lt' (by show _ < 256; omega)]
  omega
theorem two_bytes {z1 z2 : Int} (h1 : inB z1 = true) (h2 : inB z2 = true) : Lib.byteCells [byte z1, byte z2] = [.int .u8 z1, .int .u8 z2] := by
  have e1 := (byte_cell h1).1
  have e2 := (byte_cell h2).1
  simp [Lib.byteCells, e1, e2]

/-- the numbers of a span, of an attribute are within their types -/
structure OkN (s : Sp) : Prop where
  a0 : 0 ≤ s.T
  a1 : s.T ≤ 18446744073709551615
  b0 : 0 ≤ s.I
  b1 : s.I ≤ 18446744073709551615
  c0 : 0 ≤ s.P
  c1 : s.P ≤ 18446744073709551615
  d0 : 0 ≤ s.t0
  d1 : s.t0 ≤ 18446744073709551615
  e0 : 0 ≤ s.t1
  e1 : s.t1 ≤ 18446744073709551615
def OkA (a : At) : Prop := -9223372036854775808 ≤ a.N ∧ a.N ≤ 9223372036854775807

/-- where the walk is: the writer, and what lies beside it -/
structure Am (w1 wr : World) (O : List Nat) (g h : Nat) (s : Sp) (A : Option Addr) (n c : Nat) (l : List At) (T : List ByteArray) (b : List UInt8) (O' : List Nat) : Prop where
  W : Wx wr g T b O'
  S : Side wr O' h s A n c l
  f : Fr O w1 wr
  sb : Sub w1 O' O
theorem Am.next {w1 wr w2 : World} {O : List Nat} {g h : Nat} {s : Sp} {A : Option Addr} {n c : Nat} {l : List At} {T T2 : List ByteArray} {b b2 : List UInt8} {O' : List Nat} (m : Am w1 wr O g h s A n c l T b O') (k : Out wr w2 g T2 b2 O') : ∃ O2, Am w1 w2 O g h s A n c l T2 b2 O2 := by
  obtain ⟨O2, W2, f2, s2⟩ := k
  exact ⟨O2, W2, m.S.fr f2 s2, m.f.trans f2 m.sb, m.sb.trans s2 m.f.size⟩
theorem Fr.thenBelow {w1 wr w2 : World} {O : List Nat} (f : Fr O w1 wr) (hb : Below wr.heap.size wr w2) : Fr O w1 w2 := f.trans (Fr.of_below [] hb) (fun _ h => by cases h)
theorem Am.below {w1 wr w2 : World} {O : List Nat} {g h : Nat} {s : Sp} {A : Option Addr} {n c : Nat} {l : List At} {T : List ByteArray} {b : List UInt8} {O' : List Nat} (m : Am w1 wr O g h s A n c l T b O') (hb : Below wr.heap.size wr w2) : Am w1 w2 O g h s A n c l T b O' :=
  ⟨m.W.below hb, m.S.below hb, Fr.thenBelow m.f hb, m.sb⟩
theorem Am.out {w1 wr : World} {O : List Nat} {g h : Nat} {s : Sp} {A : Option Addr} {n c : Nat} {l : List At} {T : List ByteArray} {b : List UInt8} {O' : List Nat} (m : Am w1 wr O g h s A n c l T b O') : Out w1 wr g T b O := ⟨O', m.W, m.f, m.sb⟩

/-- what span leaves -/
def SpOut (w : World) (g : Nat) (T : List ByteArray) (b : List UInt8) (O : List Nat) (x : Pn) (code : Nat) (e : Ending) (w' : World) : Prop :=
  e = .returned (.int .i64 code) ∧ Fr O w w' ∧ (code = 0 → Out w w' g (adds T (tex x)) (b ++ spB (adds T (tex x)) x) O)

/-! ### the loop over attributes -/
noncomputable def keyT (T : List ByteArray) (l : List At) (k : Nat) : List ByteArray := adds T ((l.take k).map At.key)
noncomputable def keyB (T : List ByteArray) (l : List At) (k : Nat) : List UInt8 := (l.take k).flatMap (atB (keyT T l k))
theorem keyT_step {l : List At} (T : List ByteArray) {k : Nat} (h : k < l.length) : keyT T l (k + 1) = adds (keyT T l k) [l[k].key] := by
  unfold keyT
  rw [← List.take_append_getElem h, List.map_append, adds_app]
  rfl
theorem keyB_step {l : List At} (T : List ByteArray) {k : Nat} (h : k < l.length) : keyB T l (k + 1) = keyB T l k ++ atB (keyT T l (k + 1)) l[k] := by
  unfold keyB
  rw [keyT_step T h]
  conv => lhs; rw [← List.take_append_getElem h, List.flatMap_append]
  rw [ats_adds]
  · simp
  · intro a ha
    exact adds_mem _ _ _ (List.mem_map.2 ⟨a, ha, rfl⟩)
theorem keyT_le (T : List ByteArray) (l : List At) (k : Nat) : (keyT T l k).length ≤ (adds T (l.map At.key)).length := by
  unfold keyT
  have := adds_take_le T (l.map At.key) k
  rwa [← List.map_take] at this
theorem keyB_len (T : List ByteArray) (l : List At) (k : Nat) : (keyB T l k).length ≤ k * 5010 := by
  unfold keyB
  refine Nat.le_trans (ats_len _ _) (Nat.mul_le_mul_right _ ?_)
  simp
  omega
theorem numB_one (T : List ByteArray) (s : ByteArray) : numB T [s] 1 = vby (ix (adds T [s]) s) := by simp [numB]
theorem numB_two (T : List ByteArray) (s : Sp) : numB T [s.sv, s.nm] 2 = twoB (adds T [s.sv, s.nm]) s := by simp [numB, twoB]

theorem Ss.lit (w : World) (e : TypeId) (cs : Array Value) (L : List ByteArray) (n : Nat) (h : cs.toList = sc L) (hn : L.length = n) (hm : n ≤ 65536) : Ss (w.alloc (.cells cs e)) (some ⟨w.heap.size, 0, none⟩) n L := by
  subst hn
  refine ⟨by simp [sc], fun e => (by cases e), Nat.le_refl _, by unfold maxLen; omega, fun ad ha i u hu => ?_⟩
  injection ha with ha
  subst ha
  rw [Addr.add_lit, (Bk.new w e _).cell, ← h] at *
  simpa using hu
theorem Bk.grown {w w' : World} {g : Nat} {t : TypeId} {cs : Array Value} {row : Option Nat} (h : Bk w g t cs) (hg : w.grownBy w' row) (hne : ∀ k, row = some k → k ≠ g) : Bk w' g t cs := by
  unfold Bk at h ⊢
  rw [hg.block g (Array.getElem?_eq_some_iff.1 h).1 (fun e => hne g e.symm rfl)]
  exact h
theorem Wrt.rowne {w : World} {g p : Nat} {T : List ByteArray} {o : List Nat} {A : Option Addr} {c : Nat} {b : List UInt8} (h : Wrt w g p T o A c b) {m : Nat} : ∀ k, (Value.slice A m c).ownBlock = some k → k ∈ owns g o A ∧ k ≠ g := fun k hk => by
  cases A with
  | none => cases hk
  | some a =>
    injection hk with e
    subst e
    exact ⟨owns_a, (h.ra a rfl).2⟩
theorem bd {w w' : World} (hb : Below w.drew.heap.size w.drew w') : Below w.heap.size w w' := ⟨hb.os, hb.tape, hb.output, hb.size, hb.block⟩
theorem Wrt.cells {w : World} {g p : Nat} {T : List ByteArray} {o : List Nat} {A : Option Addr} {c : Nat} {b : List UInt8} (h : Wrt w g p T o A c b) {m : Nat} (hm : b.length = m) : Bk w g 62 #[.pointer (some ⟨p, 0, none⟩), .slice A m c] := by rw [← hm]; exact h.box

set_option maxRecDepth 20000 in
set_option maxHeartbeats 4000000 in
theorem span_any (w : World) (g : Nat) (T : List ByteArray) (b : List UInt8) (O : List Nat) (s : Sp) (A : Option Addr) (c n : Nat) (l : List At) (code : Nat) (hW : Wx w g T b O) (hA : Ats w A c l) (hn : l.length = n) (hd : ∀ a, A = some a → l ≠ [] → a.block ∉ O)
    (hT : (adds T (tex (s, l))).length ≤ 4096) (hok : OkN s) (hka : ∀ a ∈ l, OkA a) (hb : b.length ≤ 500000000) (hm : n ≤ 16) (hbad : bad (s, l) = false) (hz1 : s.sv.size ≤ 65536) (hz2 : s.nm.size ≤ 65536) (hz3 : ∀ a ∈ l, a.key.size ≤ 65536)
    (hc : code = if lng (s, l) then 2 else 0) :
    Calls Try.prog 22 #[.pointer (some ⟨g, 0, none⟩), spv s (.slice A n c)] w (SpOut w g T b O (s, l) code) := by
  have mixed : Try.prog.follows .mixedOrders = true := by kernel_rfl
  obtain ⟨i0, hi, hq0, hq1, hq2⟩ := info_parts V01.byte_info
  have hkd : inB s.kd = true := by cases h : inB s.kd <;> simp [bad, h] at hbad ⊢
  have hst : inB s.st = true := by cases h : inB s.st <;> simp [bad, h] at hbad ⊢
  have m1 : IntKind.u8.wrap s.kd = s.kd := by rw [IntKind.wrap_u8]; exact (byte_cell hkd).2
  have m2 : IntKind.u8.wrap s.st = s.st := by rw [IntKind.wrap_u8]; exact (byte_cell hst).2
  have m12 := two_bytes hkd hst
  have hwl := hW.lt
  have b1 := below_box w (.cells (spc s (.slice A n c)) 45) (Nat.le_refl _)
  have M1 : Am (w.alloc (.cells (spc s (.slice A n c)) 45)) (w.alloc (.cells (spc s (.slice A n c)) 45)) O g w.heap.size s A n c l T b O :=
    ⟨hW.below b1, ⟨Bk.new w _ _, fun hm => by have := hwl _ hm; omega, hA.below b1, hd⟩, Fr.refl _ _, Sub.refl _ _⟩
  have HB1 := Lib.hid b1
  have HN := Lib.hid hn
  have HC := Lib.hid hc
  have v1 := vby_le s.T.toNat
  have v2 := vby_le s.I.toNat
  have v3 := vby_le s.P.toNat
  have v4 := vby_le s.t0.toNat
  have v5 := vby_le s.t1.toNat
  have v6 := vby_le l.length
  have tT := Lib.hid (Int.toNat_of_nonneg hok.a0)
  have tI := Lib.hid (Int.toNat_of_nonneg hok.b0)
  have tP := Lib.hid (Int.toNat_of_nonneg hok.c0)
  have t0 := Lib.hid (Int.toNat_of_nonneg hok.d0)
  have t1 := Lib.hid (Int.toNat_of_nonneg hok.e0)
  have hOk := Lib.hid hok
  clear hW hA hn hc b1 hok hbad hd
  go_enter Try.func22, Try.ntmps22
  go_wp2_with fail
  change Calls _ _ _ (w.alloc (.cells (spc s (.slice A n c)) 45)) _
  generalize hw1 : w.alloc (.cells (spc s (.slice A n c)) 45) = w1 at M1 HB1 ⊢
  clear hw1
  generalize hh : w.heap.size = h at M1 ⊢
  -- Trace, ID, Parent
  refine (number_any w1 g T b (b ++ vby s.T.toNat) O s.T s.T.toNat M1.W tT.out.symm (by have := hOk.out.a1; have := hOk.out.a0; omega) (by omega) rfl).mono ?_
  rintro e w2 ⟨rfl, k2⟩
  obtain ⟨O2, M2⟩ := M1.next k2
  have x1 : w2.cell? ⟨h, 1, none⟩ = some (.int .u64 s.I) := M2.S.box.cell 1
  clear k2
  go_wp2_with fail
  clear x1
  refine (number_any w2 g T _ (b ++ vby s.T.toNat ++ vby s.I.toNat) O2 s.I s.I.toNat M2.W tI.out.symm (by have := hOk.out.b1; have := hOk.out.b0; omega) (by simp only [List.length_append]; omega) rfl).mono ?_
  rintro e w3 ⟨rfl, k3⟩
  obtain ⟨O3, M3⟩ := M2.next k3
  have x2 : w3.cell? ⟨h, 2, none⟩ = some (.int .u64 s.P) := M3.S.box.cell 2
  clear k3 M2
  go_wp2_with fail
  clear x2
  refine (number_any w3 g T _ (b ++ headB s) O3 s.P s.P.toNat M3.W tP.out.symm (by have := hOk.out.c1; have := hOk.out.c0; omega) (by simp only [List.length_append]; omega) (by simp [headB])).mono ?_
  rintro e w4 ⟨rfl, k4⟩
  obtain ⟨O4, M4⟩ := M3.next k4
  have x3 : w4.cell? ⟨h, 3, none⟩ = some (.string s.sv) := M4.S.box.cell 3
  have x4 : w4.cell? ⟨h, 4, none⟩ = some (.string s.nm) := M4.S.box.cell 4
  clear k4 M3
  have lh : (headB s).length ≤ 30 := by simp only [headB, List.length_append]; omega
  go_wp2_with fail
  clear x3 x4
  have bt := below_box w4 (.cells #[.string s.sv, .string s.nm] 9) (Nat.le_refl _)
  have M5 := M4.below bt
  have hO4 := M4.W.lt
  obtain ⟨T2, hT2⟩ : ∃ T2, adds T [s.sv, s.nm] = T2 := ⟨_, rfl⟩
  have hTk : adds T (tex (s, l)) = adds T2 (l.map At.key) := by rw [← hT2, ← adds_app]; rfl
  have hT2l : (adds T [s.sv, s.nm]).length ≤ 4096 := by rw [hT2]; exact Nat.le_trans (adds_le (l.map At.key) T2) (by rw [← hTk]; exact hT)
  obtain ⟨cd, hcd⟩ : ∃ cd, cd = if tooLong [s.sv, s.nm] then 2 else 0 := ⟨_, rfl⟩
  refine (texts_any _ g T [s.sv, s.nm] (b ++ headB s) O4 (some ⟨w4.heap.size, 0, none⟩) 2 2 cd M5.W (Ss.lit w4 _ _ _ 2 rfl rfl (by omega)) rfl (fun a e => by injection e with e; subst e; exact fun hm => by have := hO4 _ hm; simp at this) hT2l (fun t ht => by rcases List.mem_cons.1 ht with rfl | ht; exact hz1; simp at ht; subst ht; exact hz2) (by simp only [List.length_append]; omega) (by omega) hcd).mono ?_
  rintro e w5 ⟨rfl, f5, k5⟩
  by_cases hlong : tooLong [s.sv, s.nm] = true
  · have hcd2 : cd = 2 := by rw [hcd, if_pos hlong]
    have hcode : code = 2 := by
      rw [HC.out, if_pos]
      simp only [tooLong, List.any_cons, List.any_nil, Bool.or_false, Bool.or_eq_true, decide_eq_true_eq] at hlong
      simp only [lng, Bool.or_eq_true, decide_eq_true_eq]
      rcases hlong with h1 | h1
      · exact .inl (.inl (.inr h1))
      · exact .inl (.inr h1)
    have HF := Lib.hid ((M5.f.trans f5 M5.sb))
    have HCo := Lib.hid hcode
    clear k5 f5 M5 M4 M1 hcd hcode hTk hT2 hT2l
    subst hcd2
    go_wp2
    go_ret
    exact ⟨by rw [HCo.out]; rfl, (Fr.of_below O HB1.out).trans HF.out (Sub.refl _ _), fun h0 => by rw [HCo.out] at h0; cases h0⟩
  · have hcd2 : cd = 0 := by rw [hcd, if_neg hlong]
    obtain ⟨O5, M6⟩ := M5.next (k5 hcd2)
    rw [hT2, List.length_cons, List.length_cons, List.length_nil, numB_two, hT2] at M6
    clear k5 f5 M5 M4 M1 hcd
    subst hcd2
    have x5 : w5.cell? ⟨h, 5, none⟩ = some (.int .i64 s.kd) := M6.S.box.cell 5
    have x6 : w5.cell? ⟨h, 6, none⟩ = some (.int .i64 s.st) := M6.S.box.cell 6
    have v7 := vby_le (ix T2 s.sv)
    have v8 := vby_le (ix T2 s.nm)
    have l2 : (twoB T2 s).length ≤ 20 := by simp only [twoB, List.length_append]; omega
    go_wp2_with fail
    -- Kind, Status
    obtain ⟨B2, hB2⟩ : ∃ B2, b ++ headB s ++ twoB T2 s = B2 := ⟨_, rfl⟩
    have hB2l : B2.length ≤ 500000050 := by rw [← hB2]; simp only [List.length_append]; omega
    rw [hB2] at M6
    obtain ⟨p, o, A1, c1, W6, hO5⟩ := M6.W
    obtain ⟨m, hm2⟩ : ∃ m, B2.length = m := ⟨_, rfl⟩
    have K6 := W6.cells hm2
    have hrow : w5.ownsRow 0 5 1 (.slice A1 m c1) m (Lib.byteCells B2) := by rw [← hm2]; exact W6.row
    have ne6 := W6.rowne (m := m)
    have y1 : w5.drew.cell? ⟨g, 1, none⟩ = some (.slice A1 m c1) := K6.cell 1
    have y5 : w5.drew.cell? ⟨h, 5, none⟩ = some (.int .i64 s.kd) := x5
    have y6 : w5.drew.cell? ⟨h, 6, none⟩ = some (.int .i64 s.st) := x6
    have H6 := M6.S.box
    have ho6 := M6.S.out
    rw [hO5] at ho6
    rw [hm2] at hB2l
    have HM2 := Lib.hid hm2
    clear x5 x6 hm2
    refine wp_zed (S := fun w' => w'.cell? ⟨g, 1, none⟩ = some (.slice A1 m c1) ∧ w'.cell? ⟨h, 5, none⟩ = some (.int .i64 s.kd) ∧ w'.cell? ⟨h, 6, none⟩ = some (.int .i64 s.st)) (z := 15) mixed ?_
    refine Zed.take (i := 0) (v := .pointer (some ⟨g, 0, none⟩)) rfl (by kernel_rfl) rfl (by kernel_rfl) (by kernel_rfl) (by kernel_rfl) (fun _ _ _ h => h) ?_ ⟨y1, y5, y6⟩ ?_
    · refine .inl ⟨rfl, fun W hW => ?_⟩
      obtain ⟨q1, q2, q3⟩ := hW
      go_simp
    (try simp only [Act.put, List.setIfInBounds_toArray, List.set_cons_zero, List.set_cons_succ])
    refine Zed.take (i := 1) (v := .pointer (some ⟨g, 0, none⟩)) rfl (by kernel_rfl) rfl (by kernel_rfl) (by kernel_rfl) (by kernel_rfl) (fun _ _ _ h => h) ?_ ⟨y1, y5, y6⟩ ?_
    · refine .inl ⟨rfl, fun W hW => ?_⟩
      obtain ⟨q1, q2, q3⟩ := hW
      go_simp
    (try simp only [Act.put, List.setIfInBounds_toArray, List.set_cons_zero, List.set_cons_succ])
    refine Zed.take (i := 2) (v := .pointer (some ⟨g, 0, none⟩)) rfl (by kernel_rfl) rfl (by kernel_rfl) (by kernel_rfl) (by kernel_rfl) (fun _ _ _ h => h) ?_ ⟨y1, y5, y6⟩ ?_
    · refine .inl ⟨rfl, fun W hW => ?_⟩
      obtain ⟨q1, q2, q3⟩ := hW
      go_simp
    (try simp only [Act.put, List.setIfInBounds_toArray, List.set_cons_zero, List.set_cons_succ])
    refine Zed.take (i := 3) (v := .pointer (some ⟨g, 1, none⟩)) rfl (by kernel_rfl) rfl (by kernel_rfl) (by kernel_rfl) (by kernel_rfl) (fun _ _ _ h => h) ?_ ⟨y1, y5, y6⟩ ?_
    · refine .inl ⟨rfl, fun W hW => ?_⟩
      obtain ⟨q1, q2, q3⟩ := hW
      go_simp
    (try simp only [Act.put, List.setIfInBounds_toArray, List.set_cons_zero, List.set_cons_succ])
    refine Zed.take (i := 4) (v := .slice A1 m c1) rfl (by kernel_rfl) rfl (by kernel_rfl) (by kernel_rfl) (by kernel_rfl) (fun _ _ _ h => h) ?_ ⟨y1, y5, y6⟩ ?_
    · refine .inl ⟨rfl, fun W hW => ?_⟩
      obtain ⟨q1, q2, q3⟩ := hW
      go_simp
    (try simp only [Act.put, List.setIfInBounds_toArray, List.set_cons_zero, List.set_cons_succ])
    refine Zed.take (i := 5) (v := .pointer (some ⟨h, 5, none⟩)) rfl (by kernel_rfl) rfl (by kernel_rfl) (by kernel_rfl) (by kernel_rfl) (fun _ _ _ h => h) ?_ ⟨y1, y5, y6⟩ ?_
    · refine .inl ⟨rfl, fun W hW => ?_⟩
      obtain ⟨q1, q2, q3⟩ := hW
      go_simp
    (try simp only [Act.put, List.setIfInBounds_toArray, List.set_cons_zero, List.set_cons_succ])
    refine Zed.take (i := 6) (v := .int .i64 s.kd) rfl (by kernel_rfl) rfl (by kernel_rfl) (by kernel_rfl) (by kernel_rfl) (fun _ _ _ h => h) ?_ ⟨y1, y5, y6⟩ ?_
    · refine .inl ⟨rfl, fun W hW => ?_⟩
      obtain ⟨q1, q2, q3⟩ := hW
      go_simp
    (try simp only [Act.put, List.setIfInBounds_toArray, List.set_cons_zero, List.set_cons_succ])
    refine Zed.take (i := 7) (v := .int .u8 s.kd) rfl (by kernel_rfl) rfl (by kernel_rfl) (by kernel_rfl) (by kernel_rfl) (fun _ _ _ h => h) ?_ ⟨y1, y5, y6⟩ ?_
    · refine .inl ⟨rfl, fun W hW => ?_⟩
      obtain ⟨q1, q2, q3⟩ := hW
      go_simp
    (try simp only [Act.put, List.setIfInBounds_toArray, List.set_cons_zero, List.set_cons_succ])
    refine Zed.take (i := 8) (v := .pointer (some ⟨h, 6, none⟩)) rfl (by kernel_rfl) rfl (by kernel_rfl) (by kernel_rfl) (by kernel_rfl) (fun _ _ _ h => h) ?_ ⟨y1, y5, y6⟩ ?_
    · refine .inl ⟨rfl, fun W hW => ?_⟩
      obtain ⟨q1, q2, q3⟩ := hW
      go_simp
    (try simp only [Act.put, List.setIfInBounds_toArray, List.set_cons_zero, List.set_cons_succ])
    refine Zed.take (i := 9) (v := .int .i64 s.st) rfl (by kernel_rfl) rfl (by kernel_rfl) (by kernel_rfl) (by kernel_rfl) (fun _ _ _ h => h) ?_ ⟨y1, y5, y6⟩ ?_
    · refine .inl ⟨rfl, fun W hW => ?_⟩
      obtain ⟨q1, q2, q3⟩ := hW
      go_simp
    (try simp only [Act.put, List.setIfInBounds_toArray, List.set_cons_zero, List.set_cons_succ])
    refine Zed.take (i := 10) (v := .int .u8 s.st) rfl (by kernel_rfl) rfl (by kernel_rfl) (by kernel_rfl) (by kernel_rfl) (fun _ _ _ h => h) ?_ ⟨y1, y5, y6⟩ ?_
    · refine .inl ⟨rfl, fun W hW => ?_⟩
      obtain ⟨q1, q2, q3⟩ := hW
      go_simp
    (try simp only [Act.put, List.setIfInBounds_toArray, List.set_cons_zero, List.set_cons_succ])
    refine Zed.step (i := 11) (by kernel_rfl) rfl rfl (fun K hK => ?_)
    go_simp
    have bs0 : Below w5.drew.heap.size w5.drew ((w5.alloc (.cells #[.int .u8 s.kd, .int .u8 s.st] 5)).drew) := ((Below.refl _ _).alloc (Nat.le_refl _) _ : Below w5.drew.heap.size w5.drew (w5.drew.alloc _))
    have bs := bd bs0
    clear bs0
    have K7 := K6.below bs
    have H7 := H6.below bs
    have z1 : (w5.alloc (.cells #[.int .u8 s.kd, .int .u8 s.st] 5)).drew.cell? ⟨g, 1, none⟩ = some (.slice A1 m c1) := K7.cell 1
    have z5 : (w5.alloc (.cells #[.int .u8 s.kd, .int .u8 s.st] 5)).drew.cell? ⟨h, 5, none⟩ = some (.int .i64 s.kd) := H7.cell 5
    have z6 : (w5.alloc (.cells #[.int .u8 s.kd, .int .u8 s.st] 5)).drew.cell? ⟨h, 6, none⟩ = some (.int .i64 s.st) := H7.cell 6
    have hrow7 := own_below hrow bs
    have hlit : Rd 1 (w5.alloc (.cells #[.int .u8 s.kd, .int .u8 s.st] 5)).drew (some ⟨w5.heap.size, 0, none⟩) 2 2 (Lib.byteCells [byte s.kd, byte s.st]) := (Bs.lit w5 5 #[.int .u8 s.kd, .int .u8 s.st] [byte s.kd, byte s.st] (by rw [m12]) (by simp)).drew
    refine hK _ _ ⟨.inr ⟨z1, z5, z6⟩, ?_⟩
    clear hK K
    (try simp only [Act.put, List.setIfInBounds_toArray, List.set_cons_zero, List.set_cons_succ])
    refine Zed.step (i := 12) (by kernel_rfl) rfl rfl (fun K hK => ?_)
    refine wp_append_at (.tmp 35) (.tmp 42) 25 rfl 0 5 i0 _ 1 1 Try.underlying25 hi hq0 hq1 hq2 rfl (Nat.succ_pos 0) (.slice A1 m c1) m (Lib.byteCells B2) rfl hrow7 (some ⟨w5.heap.size, 0, none⟩) 2 2 (Lib.byteCells [byte s.kd, byte s.st]) rfl hlit (bc_one _) (by unfold maxLen; omega) (by omega) (Nat.zero_le _) ?_
    intro A3 c3 w6 hown3 hg3 hat3
    have K8 := Bk.grown K7 hg3 (fun k hk => (ne6 k hk).2)
    have H8 := Bk.grown H7 hg3 (fun k hk e => ho6 (by rw [← e]; exact (ne6 k hk).1))
    have u1 : w6.cell? ⟨g, 1, none⟩ = some (.slice A1 m c1) := K8.cell 1
    have u5 : w6.cell? ⟨h, 5, none⟩ = some (.int .i64 s.kd) := H8.cell 5
    have u6 : w6.cell? ⟨h, 6, none⟩ = some (.int .i64 s.st) := H8.cell 6
    have f8 := K8.frozen 1
    refine hK _ _ ⟨.inr ⟨u1, u5, u6⟩, ?_⟩
    clear hK K
    (try simp only [Act.put, List.setIfInBounds_toArray, List.set_cons_zero, List.set_cons_succ])
    refine Zed.step (i := 13) (by kernel_rfl) rfl rfl (fun K hK => ?_)
    go_simp
    refine hK _ _ ⟨.inr ⟨u1, u5, u6⟩, ?_⟩
    clear hK K
    (try simp only [Act.put, List.setIfInBounds_toArray, List.set_cons_zero, List.set_cons_succ])
    refine Zed.step (i := 14) (by kernel_rfl) rfl rfl (fun K hK => ?_)
    go_simp
    refine hK _ _ ⟨.inr ⟨u1, u5, u6⟩, ?_⟩
    clear hK K
    (try simp only [Act.put, List.setIfInBounds_toArray, List.set_cons_zero, List.set_cons_succ])
    refine Zed.step (i := 15) (by kernel_rfl) rfl rfl (fun K hK => ?_)
    go_simp
    refine hK _ _ ⟨.inl rfl, Zed.done (by kernel_rfl) ?_ _⟩
    clear hK K
    (try simp only [Act.put, List.setIfInBounds_toArray, List.set_cons_zero, List.set_cons_succ])
    have hB3l : (B2 ++ [byte s.kd, byte s.st]).length = m + 2 := by rw [List.length_append, HM2.out]; rfl
    have G := W6.grow (w1 := (w5.alloc (.cells #[.int .u8 s.kd, .int .u8 s.st] 5)).drew) (w2 := w6) (A' := A3) (c' := c3) (r := B2 ++ [byte s.kd, byte s.st]) bs rfl (by rw [hB3l, bc_app]; exact hown3) (by rw [HM2.out]; exact hg3) (by rw [hB3l, HM2.out]; exact hat3)
    rw [hB3l] at G
    obtain ⟨O6, M7⟩ := M6.next (w2 := w6.setCell ⟨g, 1, none⟩ (.slice A3 (m + 2) c3)) (T2 := T2) (b2 := B2 ++ [byte s.kd, byte s.st]) ⟨_, ⟨p, o, A3, c3, G.1, rfl⟩, by rw [hO5]; exact G.2.1, by rw [hO5]; exact G.2.2⟩
    clear G hown3 hg3 hat3 K8 H8 u1 u5 u6 f8 hlit hrow7 z1 z5 z6 K7 H7 bs y1 y5 y6 hrow K6 H6 ne6 ho6 W6 hO5 M6
    generalize w6.setCell ⟨g, 1, none⟩ (.slice A3 (m + 2) c3) = w7 at M7 ⊢
    have x7 : w7.cell? ⟨h, 7, none⟩ = some (.int .u64 s.t0) := M7.S.box.cell 7
    go_wp2_with fail
    clear x7
    refine (number_any w7 g T2 _ (B2 ++ [byte s.kd, byte s.st] ++ vby s.t0.toNat) O6 s.t0 s.t0.toNat M7.W t0.out.symm (by have := hOk.out.d1; have := hOk.out.d0; omega) (by omega) rfl).mono ?_
    rintro e w8 ⟨rfl, k8⟩
    obtain ⟨O7, M8⟩ := M7.next k8
    have x8 : w8.cell? ⟨h, 8, none⟩ = some (.int .u64 s.t1) := M8.S.box.cell 8
    clear k8 M7
    go_wp2_with fail
    clear x8
    refine (number_any w8 g T2 _ (B2 ++ [byte s.kd, byte s.st] ++ vby s.t0.toNat ++ vby s.t1.toNat) O7 s.t1 s.t1.toNat M8.W t1.out.symm (by have := hOk.out.e1; have := hOk.out.e0; omega) (by rw [List.length_append, hB3l]; omega) rfl).mono ?_
    rintro e w9 ⟨rfl, k9⟩
    obtain ⟨O8, M9⟩ := M8.next k9
    have x9 : w9.cell? ⟨h, 9, none⟩ = some (.slice A n c) := M9.S.box.cell 9
    clear k9 M8
    go_wp2_with fail
    clear x9
    refine (number_any w9 g T2 _ (B2 ++ midB s n) O8 (n : Int) n M9.W rfl (by omega) (by simp only [List.length_append] at hB3l ⊢; omega) (by simp [midB])).mono ?_
    rintro e w10 ⟨rfl, k10⟩
    obtain ⟨O9, M10⟩ := M9.next k10
    have x9 : w10.cell? ⟨h, 9, none⟩ = some (.slice A n c) := M10.S.box.cell 9
    clear k10 M9
    go_wp2_with fail
    clear x9
    obtain ⟨B3, hB3⟩ : ∃ B3, B2 ++ midB s n = B3 := ⟨_, rfl⟩
    have hB3m : B3.length ≤ 500000200 := by
      rw [← hB3, List.length_append, HM2.out]
      rw [HN.out] at v6
      simp only [midB, List.length_append, List.length_cons, List.length_nil]
      omega
    rw [hB3] at M10
    have hM0 : Am w1 w10 O g h s A n c l (keyT T2 l 0) (B3 ++ keyB T2 l 0) O9 := by simpa [keyT, keyB, adds_nil] using M10
    have hAll : tooLong [s.sv, s.nm] = false := by simpa using hlong
    have HAll := Lib.hid hAll
    have HTk := Lib.hid hTk
    have HB3 := Lib.hid hB3
    have HB2 := Lib.hid hB2
    have HT2 := Lib.hid hT2
    clear M10 hlong hAll hTk hB3 hB2 hT2 hT2l hB3l m12 v1 v2 v3 v4 v5 v6 v7 v8 l2 lh hz1 hz2 bt hO4
    go_loopw [63] (fun v wr => ∃ (k : Nat) (O' : List Nat), v = .int .i64 k ∧ k ≤ n ∧ Am w1 wr O g h s A n c l (keyT T2 l k) (B3 ++ keyB T2 l k) O' ∧ (∀ a ∈ l.take k, a.key.size ≤ 4096)) (fun v _ => n - (intOf v).toNat)
    case atStart => exact ⟨0, O9, rfl, Nat.zero_le _, hM0, by simp⟩
    case round =>
      clear hM0
      obtain ⟨k, O', rfl, hk, M, hsm⟩ := hrel
      by_cases hlt : k < n
      · have hltz : (k : Int) < (n : Int) := by omega
        have hkl : k < l.length := by rw [un HN]; exact hlt
        obtain ⟨ad, p1, rfl, hp1, F⟩ := M.S.ats.get hkl
        have f0 := F.c0
        have f1 := F.c1
        have f2 := F.c2
        have f3 := F.c3
        have hzk := hz3 _ (List.getElem_mem hkl)
        have hok := hka _ (List.getElem_mem hkl)
        have kT := keyT_step T2 hkl
        have kB := keyB_step T2 hkl
        have kl := keyB_len T2 l k
        have hT3 : (adds (keyT T2 l k) [l[k].key]).length ≤ 4096 := by rw [← kT]; exact Nat.le_trans (keyT_le T2 l (k + 1)) (by rw [← HTk.out]; exact hT)
        have hsm2 : l[k].key.size ≤ 4096 → ∀ a ∈ l.take (k + 1), a.key.size ≤ 4096 := fun hh a ha => by
          rw [← List.take_append_getElem hkl] at ha
          rcases List.mem_append.1 ha with ha | ha
          · exact hsm a ha
          · simp at ha; rw [ha]; exact hh
        have hmem : l[k] ∈ l := List.getElem_mem hkl
        clear F
        generalize hx : l[k] = x at *
        have HX := Lib.hid hx
        have hwl := M.W.lt
        have ba := below_box wr (.cells #[.string x.key, .int .i64 x.K, .int .i64 x.N, .string x.S] 49) (Nat.le_refl _)
        have Ma := M.below ba
        have Ka : Bk (wr.alloc (.cells #[.string x.key, .int .i64 x.K, .int .i64 x.N, .string x.S] 49)) wr.heap.size 49 #[.string x.key, .int .i64 x.K, .int .i64 x.N, .string x.S] := Bk.new wr _ _
        have hsz : (wr.alloc (.cells #[.string x.key, .int .i64 x.K, .int .i64 x.N, .string x.S] 49)).heap.size = wr.heap.size + 1 := by simp
        have hqO : wr.heap.size ∉ O' := fun hm => by have := hwl _ hm; omega
        clear hx
        go_wp2_with fail
        change Calls _ _ _ ((wr.alloc (.cells #[.string x.key, .int .i64 x.K, .int .i64 x.N, .string x.S] 49)).alloc _) _
        generalize hwa : wr.alloc (.cells #[.string x.key, .int .i64 x.K, .int .i64 x.N, .string x.S] 49) = wa at Ma Ka hsz ⊢
        generalize hq : wr.heap.size = q at Ka hqO hsz ⊢
        clear hwa ba f0 f1 f2 f3 hwl M
        have bt := below_box wa (.cells #[.string x.key] 9) (Nat.le_refl _)
        have Mb := Ma.below bt
        have Kb := Ka.below bt
        have hO' := Ma.W.lt
        obtain ⟨cd, hcd⟩ : ∃ cd, cd = if tooLong [x.key] then 2 else 0 := ⟨_, rfl⟩
        have hS := Ss.lit wa 9 #[.string x.key] [x.key] 1 rfl rfl (by omega)
        rw [hsz] at hS
        refine (texts_any _ g (keyT T2 l k) [x.key] (B3 ++ keyB T2 l k) O' (some ⟨q + 1, 0, none⟩) 1 1 cd Mb.W hS rfl (fun a e => by injection e with e; subst e; exact fun hm => by have := hO' _ hm; simp at this; omega) hT3 (fun t ht => by simp at ht; rw [ht]; exact hzk) (by rw [List.length_append]; omega) (by omega) hcd).mono ?_
        rintro e w11 ⟨rfl, f11, k11⟩
        by_cases hlong : tooLong [x.key] = true
        · have hcd2 : cd = 2 := by rw [hcd, if_pos hlong]
          have hcode : code = 2 := by
            rw [HC.out, if_pos]
            simp only [tooLong, List.any_cons, List.any_nil, Bool.or_false] at hlong
            simp only [lng, Bool.or_eq_true, List.any_eq_true]
            exact .inr ⟨x, hmem, hlong⟩
          have HF := Lib.hid ((Mb.f.trans f11 Mb.sb))
          have HCo := Lib.hid hcode
          clear k11 f11 Mb Ma hcd hcode kT kB hT3 hsm2 hS Ka Kb
          subst hcd2
          go_wp2
          go_ret
          exact ⟨by rw [HCo.out]; rfl, (Fr.of_below O HB1.out).trans HF.out (Sub.refl _ _), fun h0 => by rw [HCo.out] at h0; cases h0⟩
        · have hcd2 : cd = 0 := by rw [hcd, if_neg hlong]
          have hx4 : x.key.size ≤ 4096 := by
            simp [tooLong] at hlong
            exact hlong
          have K11 : Bk w11 q 49 #[.string x.key, .int .i64 x.K, .int .i64 x.N, .string x.S] := Fr.bk Kb f11 hqO
          obtain ⟨O11, W11, f11', s11⟩ := k11 hcd2
          have hq11 : q ∉ O11 := Sub.out s11 Kb.lt hqO
          have M11 : Am w1 w11 O g h s (some ad) n c l (adds (keyT T2 l k) [x.key]) (B3 ++ keyB T2 l k ++ numB (keyT T2 l k) [x.key] [x.key].length) O11 := ⟨W11, Mb.S.fr f11' s11, Mb.f.trans f11' Mb.sb, Mb.sb.trans s11 Mb.f.size⟩
          rw [List.length_singleton, numB_one, ← kT] at M11
          have hSm := Lib.hid (hsm2 hx4)
          have KB := Lib.hid kB
          have vq := vby_le (ix (keyT T2 l (k + 1)) x.key)
          have vv := vbs_le x.K x.N x.S
          clear k11 f11 W11 f11' s11 Mb Ma hcd kT hT3 hsm2 hS Ka Kb hlong kB bt hO'
          subst hcd2
          obtain ⟨B4, hB4⟩ : ∃ B4, B3 ++ keyB T2 l k ++ vby (ix (keyT T2 l (k + 1)) x.key) = B4 := ⟨_, rfl⟩
          have hB4l : B4.length ≤ 500100000 := by rw [← hB4]; simp only [List.length_append]; omega
          rw [hB4] at M11
          have HB4 := Lib.hid hB4
          obtain ⟨p, o, A1, c1, W6, hO5⟩ := M11.W
          obtain ⟨m, hm2⟩ : ∃ m, B4.length = m := ⟨_, rfl⟩
          have K6 := W6.cells hm2
          have hrow : w11.ownsRow 0 5 1 (.slice A1 m c1) m (Lib.byteCells B4) := by rw [← hm2]; exact W6.row
          have ne6 := W6.rowne (m := m)
          have y1 : w11.drew.cell? ⟨g, 1, none⟩ = some (.slice A1 m c1) := K6.cell 1
          have ya : w11.drew.cell? ⟨q, 1, none⟩ = some (.int .i64 x.K) := K11.cell 1
          have yb : w11.drew.cell? ⟨q, 2, none⟩ = some (.int .i64 x.N) := K11.cell 2
          have yc : w11.drew.cell? ⟨q, 3, none⟩ = some (.string x.S) := K11.cell 3
          rw [hO5] at hq11
          rw [hm2] at hB4l
          have HM3 := Lib.hid hm2
          clear hm2 hB4
          go_wp2_with fail
          refine wp_zed (S := fun w' => w'.cell? ⟨g, 1, none⟩ = some (.slice A1 m c1) ∧ w'.cell? ⟨q, 1, none⟩ = some (.int .i64 x.K) ∧ w'.cell? ⟨q, 2, none⟩ = some (.int .i64 x.N) ∧ w'.cell? ⟨q, 3, none⟩ = some (.string x.S)) (z := 11) mixed ?_
          refine Zed.take (i := 0) (v := .pointer (some ⟨g, 0, none⟩)) rfl (by kernel_rfl) rfl (by kernel_rfl) (by kernel_rfl) (by kernel_rfl) (fun _ _ _ h => h) ?_ ⟨y1, ya, yb, yc⟩ ?_
          · refine .inl ⟨rfl, fun W hW => ?_⟩
            obtain ⟨q1, q2, q3, q4⟩ := hW
            go_simp
          (try simp only [Act.put, List.setIfInBounds_toArray, List.set_cons_zero, List.set_cons_succ])
          refine Zed.take (i := 1) (v := .pointer (some ⟨g, 0, none⟩)) rfl (by kernel_rfl) rfl (by kernel_rfl) (by kernel_rfl) (by kernel_rfl) (fun _ _ _ h => h) ?_ ⟨y1, ya, yb, yc⟩ ?_
          · refine .inl ⟨rfl, fun W hW => ?_⟩
            obtain ⟨q1, q2, q3, q4⟩ := hW
            go_simp
          (try simp only [Act.put, List.setIfInBounds_toArray, List.set_cons_zero, List.set_cons_succ])
          refine Zed.take (i := 2) (v := .pointer (some ⟨g, 0, none⟩)) rfl (by kernel_rfl) rfl (by kernel_rfl) (by kernel_rfl) (by kernel_rfl) (fun _ _ _ h => h) ?_ ⟨y1, ya, yb, yc⟩ ?_
          · refine .inl ⟨rfl, fun W hW => ?_⟩
            obtain ⟨q1, q2, q3, q4⟩ := hW
            go_simp
          (try simp only [Act.put, List.setIfInBounds_toArray, List.set_cons_zero, List.set_cons_succ])
          refine Zed.take (i := 3) (v := .pointer (some ⟨g, 1, none⟩)) rfl (by kernel_rfl) rfl (by kernel_rfl) (by kernel_rfl) (by kernel_rfl) (fun _ _ _ h => h) ?_ ⟨y1, ya, yb, yc⟩ ?_
          · refine .inl ⟨rfl, fun W hW => ?_⟩
            obtain ⟨q1, q2, q3, q4⟩ := hW
            go_simp
          (try simp only [Act.put, List.setIfInBounds_toArray, List.set_cons_zero, List.set_cons_succ])
          refine Zed.take (i := 4) (v := .slice A1 m c1) rfl (by kernel_rfl) rfl (by kernel_rfl) (by kernel_rfl) (by kernel_rfl) (fun _ _ _ h => h) ?_ ⟨y1, ya, yb, yc⟩ ?_
          · refine .inl ⟨rfl, fun W hW => ?_⟩
            obtain ⟨q1, q2, q3, q4⟩ := hW
            go_simp
          (try simp only [Act.put, List.setIfInBounds_toArray, List.set_cons_zero, List.set_cons_succ])
          refine Zed.take (i := 5) (v := .pointer (some ⟨q, 1, none⟩)) rfl (by kernel_rfl) rfl (by kernel_rfl) (by kernel_rfl) (by kernel_rfl) (fun _ _ _ h => h) ?_ ⟨y1, ya, yb, yc⟩ ?_
          · refine .inl ⟨rfl, fun W hW => ?_⟩
            obtain ⟨q1, q2, q3, q4⟩ := hW
            go_simp
          (try simp only [Act.put, List.setIfInBounds_toArray, List.set_cons_zero, List.set_cons_succ])
          refine Zed.take (i := 6) (v := vl x.K x.N x.S) rfl (by kernel_rfl) rfl (by kernel_rfl) (by kernel_rfl) (by kernel_rfl) (fun _ _ _ h => h) ?_ ⟨y1, ya, yb, yc⟩ ?_
          · refine .inl ⟨rfl, fun W hW => ?_⟩
            obtain ⟨q1, q2, q3, q4⟩ := hW
            go_simp
          (try simp only [Act.put, List.setIfInBounds_toArray, List.set_cons_zero, List.set_cons_succ])
          refine Zed.step (i := 7) (by kernel_rfl) rfl rfl (fun K hK => ?_)
          go_simp
          refine (vput_at none 0 0 [] x.K x.N x.S (vbs x.K x.N x.S) _ (Bs.nil _) rfl (by omega) hok.1 hok.2 rfl).mono ?_
          rintro e w12 ⟨A2, c2, rfl, hown2, hb2⟩
          have hb2' := bd hb2
          have K7 := K6.below hb2'
          have H7 := K11.below hb2'
          have z1 : w12.cell? ⟨g, 1, none⟩ = some (.slice A1 m c1) := K7.cell 1
          have za : w12.cell? ⟨q, 1, none⟩ = some (.int .i64 x.K) := H7.cell 1
          have zb : w12.cell? ⟨q, 2, none⟩ = some (.int .i64 x.N) := H7.cell 2
          have zc : w12.cell? ⟨q, 3, none⟩ = some (.string x.S) := H7.cell 3
          refine hK _ _ ⟨.inr ⟨z1, za, zb, zc⟩, ?_⟩
          clear hK K
          have hrow7 := own_below hrow hb2'
          have hq2' := Bs.own hown2
          obtain ⟨u, hu⟩ : ∃ u, (vbs x.K x.N x.S).length = u := ⟨_, rfl⟩
          unfold Bs at hq2'
          rw [hu] at hq2' vv ⊢
          clear hown2 hb2
          (try simp only [Act.put, List.setIfInBounds_toArray, List.set_cons_zero, List.set_cons_succ])
          refine Zed.step (i := 8) (by kernel_rfl) rfl rfl (fun K hK => ?_)
          refine wp_append_at (.tmp 79) (.tmp 82) 25 rfl 0 5 i0 _ 1 1 Try.underlying25 hi hq0 hq1 hq2 rfl (Nat.succ_pos 0) (.slice A1 m c1) m (Lib.byteCells B4) rfl hrow7 A2 u c2 (Lib.byteCells (vbs x.K x.N x.S)) rfl hq2' (bc_one _) (by unfold maxLen; omega) (by omega) (Nat.zero_le _) ?_
          intro A3 c3 w13 hown3 hg3 hat3
          have K8 := Bk.grown K7 hg3 (fun k hk => (ne6 k hk).2)
          have H8 := Bk.grown H7 hg3 (fun k hk e => hq11 (by rw [← e]; exact (ne6 k hk).1))
          have u1 : w13.cell? ⟨g, 1, none⟩ = some (.slice A1 m c1) := K8.cell 1
          have ua : w13.cell? ⟨q, 1, none⟩ = some (.int .i64 x.K) := H8.cell 1
          have ub : w13.cell? ⟨q, 2, none⟩ = some (.int .i64 x.N) := H8.cell 2
          have uc : w13.cell? ⟨q, 3, none⟩ = some (.string x.S) := H8.cell 3
          have f8 := K8.frozen 1
          refine hK _ _ ⟨.inr ⟨u1, ua, ub, uc⟩, ?_⟩
          clear hK K
          (try simp only [Act.put, List.setIfInBounds_toArray, List.set_cons_zero, List.set_cons_succ])
          refine Zed.step (i := 9) (by kernel_rfl) rfl rfl (fun K hK => ?_)
          go_simp
          refine hK _ _ ⟨.inr ⟨u1, ua, ub, uc⟩, ?_⟩
          clear hK K
          (try simp only [Act.put, List.setIfInBounds_toArray, List.set_cons_zero, List.set_cons_succ])
          refine Zed.step (i := 10) (by kernel_rfl) rfl rfl (fun K hK => ?_)
          go_simp
          refine hK _ _ ⟨.inr ⟨u1, ua, ub, uc⟩, ?_⟩
          clear hK K
          (try simp only [Act.put, List.setIfInBounds_toArray, List.set_cons_zero, List.set_cons_succ])
          refine Zed.step (i := 11) (by kernel_rfl) rfl rfl (fun K hK => ?_)
          go_simp
          refine hK _ _ ⟨.inl rfl, Zed.done (by kernel_rfl) ?_ _⟩
          clear hK K
          (try simp only [Act.put, List.setIfInBounds_toArray, List.set_cons_zero, List.set_cons_succ])
          have hl5 : (B4 ++ vbs x.K x.N x.S).length = m + u := by rw [List.length_append, HM3.out, hu]
          have G := W6.grow (w1 := w12) (w2 := w13) (A' := A3) (c' := c3) (r := B4 ++ vbs x.K x.N x.S) hb2' rfl (by rw [hl5, bc_app]; exact hown3) (by rw [HM3.out]; exact hg3) (by rw [hl5, HM3.out]; exact hat3)
          rw [hl5] at G
          have hB5 : B4 ++ vbs x.K x.N x.S = B3 ++ keyB T2 l (k + 1) := by rw [KB.out, ← HB4.out]; simp [atB]
          obtain ⟨O13, M13⟩ := M11.next (w2 := w13.setCell ⟨g, 1, none⟩ (.slice A3 (m + u) c3)) (T2 := keyT T2 l (k + 1)) (b2 := B4 ++ vbs x.K x.N x.S) ⟨_, ⟨p, o, A3, c3, G.1, rfl⟩, by rw [hO5]; exact G.2.1, by rw [hO5]; exact G.2.2⟩
          rw [hB5] at M13
          clear G hown3 hg3 hat3 K8 H8 u1 ua ub uc f8 hrow7 z1 za zb zc K7 H7 y1 ya yb yc hrow K6 K11 ne6 W6 hO5 M11 hq2' hb2' hB5 KB HB4 hl5
          generalize w13.setCell ⟨g, 1, none⟩ (.slice A3 (m + u) c3) = w14 at M13 ⊢
          go_wp2
          go_roundw
          case rel => exact ⟨k + 1, O13, by go_num, by omega, M13, hSm.out⟩
          case measure => first | go_num | (simp [intOf]; omega)
      · have hltz : ¬ ((k : Int) < (n : Int)) := by omega
        have hkn : k = n := by omega
        subst hkn
        have hall : l.take k = l := List.take_of_length_le (by rw [HN.out]; exact Nat.le_refl _)
        have hcode : code = 0 := by
          rw [HC.out, if_neg]
          have h1 := HAll.out
          simp only [tooLong, List.any_cons, List.any_nil, Bool.or_false, Bool.or_eq_false_iff, decide_eq_false_iff_not] at h1
          simp only [lng, Bool.or_eq_true, decide_eq_true_eq, List.any_eq_true, HN.out]
          rintro (((h2 | h2) | h2) | ⟨a, ha, h2⟩)
          · omega
          · omega
          · omega
          · have := hsm a (by rw [hall]; exact ha)
            omega
        have hO := M.out
        have e1 : keyT T2 l k = adds T (tex (s, l)) := by rw [HTk.out]; unfold keyT; rw [hall]
        have e2 : B3 ++ keyB T2 l k = b ++ spB (adds T (tex (s, l))) (s, l) := by
          unfold keyB
          rw [e1, hall, ← HB3.out, ← HB2.out]
          unfold spB
          have e3 : twoB (adds T (tex (s, l))) s = twoB T2 s := by
            rw [HTk.out]
            unfold twoB
            have i1 : s.sv ∈ T2 := by rw [← HT2.out]; exact adds_mem _ _ _ (by simp)
            have i2 : s.nm ∈ T2 := by rw [← HT2.out]; exact adds_mem _ _ _ (by simp)
            rw [ix_adds _ i1, ix_adds _ i2]
          simp only [e3, HN.out, List.append_assoc]
        rw [e1, e2] at hO
        have HO := Lib.hid hO
        have HF := Lib.hid M.f
        clear hO M e1 e2 hsm hall
        go_wp2
        go_ret
        have hf0 := (Fr.of_below O HB1.out)
        refine ⟨by first | rfl | (rw [hcode]; rfl), hf0.trans HF.out (Sub.refl _ _), fun _ => ?_⟩
        obtain ⟨O1, h1, h2, h3⟩ := HO.out
        exact ⟨O1, h1, hf0.trans h2 (Sub.refl _ _), (Sub.refl w O).trans h3 HB1.out.size⟩
end Go.Proofs.Ytndcdidepdcmnaa.B07
