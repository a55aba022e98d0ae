/-
  What the document's Get of a value does.
  What the document's Get of a value does, of any bytes.
-/
import Derived.Test.YtndcdidepdcmnaaKV04Get2
import Derived.Test.YtndcdidepdcmnaaKV01RefGet
section
set_option linter.unusedSimpArgs false
set_option linter.unusedVariables false
namespace Go.Proofs.Ytndcdidepdcmnaa.V04
open Go.RowKit Go.Lib Go.Proofs.Ytndcdidepdcmnaa.Wd Go.Proofs.Ytndcdidepdcmnaa.V01

theorem rget_at (A : Option Addr) (c len : Nat) (l : List UInt8) (n k e : Nat) (w : World) (ha : Bs w A c l) (hlen : l.length = len) (hl : len ≤ 65536) (hg : getF 0 0 (nat8 l) = (n, k, e)) :
    Calls Try.prog 37 #[.slice A len c] w fun x w' => x = .returned (.tuple #[.int .u64 n, .int .i64 k, .int .i64 e]) ∧ w = w' := by
  subst hlen
  have := refget_same A c l w ha hl
  rw [hg] at this
  exact this

theorem ret_rdv {K N : Int} {S : ByteArray} {a : Int} {k : Nat} (h : a = (k : Int)) : Ending.returned (.tuple #[.agg #[.int .i64 K, .int .i64 N, .string S], .int .i64 a, .int .i64 0]) = .returned (⟨K, N, S, k, 0⟩ : Rdv).v := by
  rw [h]
  rfl
set_option maxRecDepth 20000 in
set_option maxHeartbeats 2000000 in
theorem rget_err1 (ad : Addr) (c len n k er : Nat) (r : List UInt8) (w : World) (hc : ¬ c = 1)
    (hcell : (w.alloc (.cells #[.int .i64 0, .int .i64 0, .string { data := #[] }] 56)).cell? ad = some (.int .u8 1)) (hlc : len + 1 ≤ c) (hl : len ≤ 60000) (hr : r.length = len)
    (hB : Bs (w.alloc (.cells #[.int .i64 0, .int .i64 0, .string { data := #[] }] 56)) (some { block := ad.block, off := ad.off + 1 }) (c - 1) r)
    (hg : getF 0 0 (nat8 r) = (n, k, er)) (he : ¬ er = 0) :
    Calls Try.prog 38 #[.slice (some ad) (len + 1) c] w fun e w' => e = .returned (none_ er).v ∧ Below w.heap.size w w' := by
  have p1 : (1 : Int) ≤ ((len + 1 : Nat) : Int) := by omega
  have p2 : (1 : Int) ≤ (c : Int) := by omega
  have p3 : (1 : Int) ≤ (len : Int) + 1 := by omega
  have hei : ((er : Int) != 0) = true := by simp; omega
  go_enter Try.func38, Try.ntmps38
  go_wp2_with fail
  refine (rget_at _ _ len r n k er _ hB hr (by omega) hg).mono ?_
  rintro e w1 ⟨rfl, rfl⟩
  go_wp2
  go_returns
  exact ⟨rfl, by go_grown⟩
set_option maxRecDepth 20000 in
set_option maxHeartbeats 2000000 in
theorem rget_one1 (ad : Addr) (w : World) (hcell : (w.alloc (.cells #[.int .i64 0, .int .i64 0, .string { data := #[] }] 56)).cell? ad = some (.int .u8 1)) (hB : Bs (w.alloc (.cells #[.int .i64 0, .int .i64 0, .string { data := #[] }] 56)) (some ad) 0 []) :
    Calls Try.prog 38 #[.slice (some ad) 1 1] w fun e w' => e = .returned (none_ 10).v ∧ Below w.heap.size w w' := by
  go_enter Try.func38, Try.ntmps38
  go_wp2_with fail
  refine (rget_at _ _ 0 [] 0 0 10 _ hB rfl (by omega) rfl).mono ?_
  rintro e w1 ⟨rfl, rfl⟩
  go_wp2
  go_returns
  exact ⟨rfl, by go_grown⟩
set_option maxRecDepth 20000 in
set_option maxHeartbeats 2000000 in
theorem rget_err3 (ad : Addr) (c len n k er : Nat) (r : List UInt8) (w : World) (hc : ¬ c = 1)
    (hcell : (w.alloc (.cells #[.int .i64 0, .int .i64 0, .string { data := #[] }] 56)).cell? ad = some (.int .u8 3)) (hlc : len + 1 ≤ c) (hl : len ≤ 60000) (hr : r.length = len)
    (hB : Bs (w.alloc (.cells #[.int .i64 0, .int .i64 0, .string { data := #[] }] 56)) (some { block := ad.block, off := ad.off + 1 }) (c - 1) r)
    (hg : getF 0 0 (nat8 r) = (n, k, er)) (he : ¬ er = 0) :
    Calls Try.prog 38 #[.slice (some ad) (len + 1) c] w fun e w' => e = .returned (none_ er).v ∧ Below w.heap.size w w' := by
  have p1 : (1 : Int) ≤ ((len + 1 : Nat) : Int) := by omega
  have p2 : (1 : Int) ≤ (c : Int) := by omega
  have p3 : (1 : Int) ≤ (len : Int) + 1 := by omega
  have hei : ((er : Int) != 0) = true := by simp; omega
  go_enter Try.func38, Try.ntmps38
  go_wp2_with fail
  refine (rget_at _ _ len r n k er _ hB hr (by omega) hg).mono ?_
  rintro e w1 ⟨rfl, rfl⟩
  go_wp2
  go_returns
  exact ⟨rfl, by go_grown⟩
set_option maxRecDepth 20000 in
set_option maxHeartbeats 2000000 in
theorem rget_one3 (ad : Addr) (w : World) (hcell : (w.alloc (.cells #[.int .i64 0, .int .i64 0, .string { data := #[] }] 56)).cell? ad = some (.int .u8 3)) (hB : Bs (w.alloc (.cells #[.int .i64 0, .int .i64 0, .string { data := #[] }] 56)) (some ad) 0 []) :
    Calls Try.prog 38 #[.slice (some ad) 1 1] w fun e w' => e = .returned (none_ 10).v ∧ Below w.heap.size w w' := by
  go_enter Try.func38, Try.ntmps38
  go_wp2_with fail
  refine (rget_at _ _ 0 [] 0 0 10 _ hB rfl (by omega) rfl).mono ?_
  rintro e w1 ⟨rfl, rfl⟩
  go_wp2
  go_returns
  exact ⟨rfl, by go_grown⟩
set_option maxRecDepth 20000 in
set_option maxHeartbeats 2000000 in
theorem rget_num (ad : Addr) (c len n k er : Nat) (r : List UInt8) (w : World) (hc : ¬ c = 1)
    (hcell : (w.alloc (.cells #[.int .i64 0, .int .i64 0, .string { data := #[] }] 56)).cell? ad = some (.int .u8 1)) (hlc : len + 1 ≤ c) (hl : len ≤ 60000) (hr : r.length = len)
    (hB : Bs (w.alloc (.cells #[.int .i64 0, .int .i64 0, .string { data := #[] }] 56)) (some { block := ad.block, off := ad.off + 1 }) (c - 1) r)
    (hg : getF 0 0 (nat8 r) = (n, k, er)) (he : er = 0) (hn : n ≤ 18446744073709551615) (hk : k ≤ 10) :
    Calls Try.prog 38 #[.slice (some ad) (len + 1) c] w fun e w' => e = .returned (⟨1, zag n, emp, 1 + k, 0⟩ : Rdv).v ∧ Below w.heap.size w w' := by
  subst he
  have p1 : (1 : Int) ≤ ((len + 1 : Nat) : Int) := by omega
  have p2 : (1 : Int) ≤ (c : Int) := by omega
  have p3 : (1 : Int) ≤ (len : Int) + 1 := by omega
  by_cases hz : n % 2 = 0
  · have hzi : ((n : Int) % 2 == 1) = false := by simp; omega
    have hzz : zag (n : Int) = (n : Int) / 2 := by unfold zag; rw [if_pos (by omega)]
    rw [hzz]
    clear hzz
    go_enter Try.func38, Try.ntmps38
    go_wp2_with fail
    refine (rget_at _ _ len r n k 0 _ hB hr (by omega) hg).mono ?_
    rintro e w1 ⟨rfl, rfl⟩
    go_wp2
    go_returns
    exact ⟨ret_rdv (by omega), by go_grown⟩
  · have hzi : ((n : Int) % 2 == 1) = true := by simp; omega
    have hzz : zag (n : Int) = -((n : Int) / 2) - 1 := by unfold zag; rw [if_neg (by omega)]
    rw [hzz]
    clear hzz
    go_enter Try.func38, Try.ntmps38
    go_wp2_with fail
    refine (rget_at _ _ len r n k 0 _ hB hr (by omega) hg).mono ?_
    rintro e w1 ⟨rfl, rfl⟩
    go_wp2
    go_returns
    exact ⟨ret_rdv (by omega), by go_grown⟩
set_option maxRecDepth 20000 in
set_option maxHeartbeats 2000000 in
theorem rget_great (ad : Addr) (c len n k er : Nat) (r : List UInt8) (w : World) (hc : ¬ c = 1)
    (hcell : (w.alloc (.cells #[.int .i64 0, .int .i64 0, .string { data := #[] }] 56)).cell? ad = some (.int .u8 3)) (hlc : len + 1 ≤ c) (hl : len ≤ 60000) (hr : r.length = len)
    (hB : Bs (w.alloc (.cells #[.int .i64 0, .int .i64 0, .string { data := #[] }] 56)) (some { block := ad.block, off := ad.off + 1 }) (c - 1) r)
    (hg : getF 0 0 (nat8 r) = (n, k, er)) (he : er = 0) (hn : 4096 < n) (hn2 : n ≤ 18446744073709551615) :
    Calls Try.prog 38 #[.slice (some ad) (len + 1) c] w fun e w' => e = .returned (none_ 11).v ∧ Below w.heap.size w w' := by
  subst he
  have hni : (4096 : Int) < (n : Int) := by omega
  have p1 : (1 : Int) ≤ ((len + 1 : Nat) : Int) := by omega
  have p2 : (1 : Int) ≤ (c : Int) := by omega
  have p3 : (1 : Int) ≤ (len : Int) + 1 := by omega
  go_enter Try.func38, Try.ntmps38
  go_wp2_with fail
  refine (rget_at _ _ len r n k 0 _ hB hr (by omega) hg).mono ?_
  rintro e w1 ⟨rfl, rfl⟩
  go_wp2
  go_returns
  exact ⟨rfl, by go_grown⟩
set_option maxRecDepth 20000 in
set_option maxHeartbeats 2000000 in
theorem rget_cut (ad : Addr) (c len n k er : Nat) (r : List UInt8) (w : World) (hc : ¬ c = 1)
    (hcell : (w.alloc (.cells #[.int .i64 0, .int .i64 0, .string { data := #[] }] 56)).cell? ad = some (.int .u8 3)) (hlc : len + 1 ≤ c) (hl : len ≤ 60000) (hr : r.length = len)
    (hB : Bs (w.alloc (.cells #[.int .i64 0, .int .i64 0, .string { data := #[] }] 56)) (some { block := ad.block, off := ad.off + 1 }) (c - 1) r)
    (hg : getF 0 0 (nat8 r) = (n, k, er)) (he : er = 0) (hn : n ≤ 4096) (hk : k ≤ 10) (hs : len < k + n) :
    Calls Try.prog 38 #[.slice (some ad) (len + 1) c] w fun e w' => e = .returned (none_ 10).v ∧ Below w.heap.size w w' := by
  subst he
  have hni : ¬ (4096 : Int) < (n : Int) := by omega
  have hsi : (len : Int) + 1 < 1 + (k : Int) + (n : Int) := by omega
  have p1 : (1 : Int) ≤ ((len + 1 : Nat) : Int) := by omega
  have p2 : (1 : Int) ≤ (c : Int) := by omega
  have p3 : (1 : Int) ≤ (len : Int) + 1 := by omega
  go_enter Try.func38, Try.ntmps38
  go_wp2_with fail
  refine (rget_at _ _ len r n k 0 _ hB hr (by omega) hg).mono ?_
  rintro e w1 ⟨rfl, rfl⟩
  go_wp2
  go_returns
  exact ⟨rfl, by go_grown⟩
set_option maxRecDepth 20000 in
set_option maxHeartbeats 2000000 in
theorem rget_text (ad : Addr) (c len n k er : Nat) (r : List UInt8) (w : World) (hc : ¬ c = 1)
    (hcell : (w.alloc (.cells #[.int .i64 0, .int .i64 0, .string { data := #[] }] 56)).cell? ad = some (.int .u8 3)) (hlc : len + 1 ≤ c) (hl : len ≤ 60000) (hr : r.length = len)
    (hB : Bs (w.alloc (.cells #[.int .i64 0, .int .i64 0, .string { data := #[] }] 56)) (some { block := ad.block, off := ad.off + 1 }) (c - 1) r)
    (hg : getF 0 0 (nat8 r) = (n, k, er)) (he : er = 0) (hn : n ≤ 4096) (hk : k ≤ 10) (hs : ¬ len < k + n) (T : ByteArray) (hT : ⟨((r.drop k).take n).toArray⟩ = T) (x : UInt8) (hA : Bs (w.alloc (.cells #[.int .i64 0, .int .i64 0, .string { data := #[] }] 56)) (some ad) c (x :: r)) :
    Calls Try.prog 38 #[.slice (some ad) (len + 1) c] w fun e w' => e = .returned (⟨3, 0, T, 1 + (k + n), 0⟩ : Rdv).v ∧ Below w.heap.size w w' := by
  subst he
  have hni : ¬ (4096 : Int) < (n : Int) := by omega
  have hsi : ¬ (len : Int) + 1 < 1 + (k : Int) + (n : Int) := by omega
  have p1 : (1 : Int) ≤ ((len + 1 : Nat) : Int) := by omega
  have p2 : (1 : Int) ≤ (c : Int) := by omega
  have p3 : (1 : Int) ≤ (len : Int) + 1 := by omega
  have q1 : (0 : Int) ≤ 1 + (k : Int) := by omega
  have q2 : 1 + (k : Int) ≤ 1 + (k : Int) + n := by omega
  have q3 : 1 + (k : Int) + n ≤ (c : Int) := by omega
  by_cases hck : c = 1 + k
  · have hn0 : n = 0 := by omega
    subst hn0
    have hcv := conv_zero (some ad) (c - (1 + k)) (w.alloc (.cells #[.int .i64 0, .int .i64 0, .string { data := #[] }] 56))
    have hcv' := conv_zero (some ad) 0 (w.alloc (.cells #[.int .i64 0, .int .i64 0, .string { data := #[] }] 56))
    have hTe : T = emp := by rw [← hT]; rfl
    subst hTe
    subst hck
    clear hT
    rw [show 1 + k - 1 = k by omega] at hB
    go_enter Try.func38, Try.ntmps38
    go_wp2_with fail
    refine (rget_at _ k len r 0 k 0 _ hB hr (by omega) hg).mono ?_
    rintro e w1 ⟨rfl, rfl⟩
    go_wp2
    go_returns
    exact ⟨ret_rdv (by omega), by go_grown⟩
  · have hcv := ((hA.drop (1 + k) (by simp; omega)).take n (by simp; omega)).str (P := Try.prog) 25 9 5 Try.underlying25 Try.underlying5 Try.underlying9
    have hdr : (x :: r).drop (1 + k) = r.drop k := by rw [Nat.add_comm, List.drop_succ_cons]
    unfold cutA at hcv
    rw [if_neg hck, hdr, hT, show ((r.drop k).take n).length = n by simp; omega, Option.map_some] at hcv
    clear hT hdr
    go_enter Try.func38, Try.ntmps38
    go_wp2_with fail
    refine (rget_at _ _ len r n k 0 _ hB hr (by omega) hg).mono ?_
    rintro e w1 ⟨rfl, rfl⟩
    go_wp2
    go_returns
    exact ⟨ret_rdv (by omega), by go_grown⟩
end Go.Proofs.Ytndcdidepdcmnaa.V04
end

section
set_option linter.unusedSimpArgs false
set_option linter.unusedVariables false
namespace Go.Proofs.Ytndcdidepdcmnaa.V04
open Go.RowKit Go.Lib Go.Proofs.Ytndcdidepdcmnaa.Wd Go.Proofs.Ytndcdidepdcmnaa.V01

set_option maxRecDepth 20000 in
set_option maxHeartbeats 1000000 in
theorem rget_nil (A : Option Addr) (c : Nat) (w : World) : Calls Try.prog 38 #[.slice A 0 c] w fun e w' => e = .returned (none_ 10).v ∧ Below w.heap.size w w' := by
  go_enter Try.func38, Try.ntmps38
  go_wp2
  go_returns
  exact ⟨rfl, by go_grown⟩
set_option maxRecDepth 20000 in
set_option maxHeartbeats 1000000 in
theorem rget_b0 (ad : Addr) (c : Nat) (w : World) (hcell : (w.alloc (.cells #[.int .i64 0, .int .i64 0, .string { data := #[] }] 56)).cell? ad = some (.int .u8 2)) :
    Calls Try.prog 38 #[.slice (some ad) 1 c] w fun e w' => e = .returned (none_ 10).v ∧ Below w.heap.size w w' := by
  go_enter Try.func38, Try.ntmps38
  go_wp2
  go_returns
  exact ⟨rfl, by go_grown⟩
set_option maxRecDepth 20000 in
set_option maxHeartbeats 1000000 in
theorem rget_b1 (ad : Addr) (c len Y : Nat) (w : World) (hl : len ≤ 60000) (hcell : (w.alloc (.cells #[.int .i64 0, .int .i64 0, .string { data := #[] }] 56)).cell? ad = some (.int .u8 2)) (hcell1 : (w.alloc (.cells #[.int .i64 0, .int .i64 0, .string { data := #[] }] 56)).cell? { block := ad.block, off := ad.off + 1 } = some (.int .u8 (Y : Int))) (hY : 1 < Y) :
    Calls Try.prog 38 #[.slice (some ad) (len + 1 + 1) c] w fun e w' => e = .returned (none_ 11).v ∧ Below w.heap.size w w' := by
  have p1 : (1 : Int) < (len : Int) + 1 + 1 := by omega
  have p0 : (0 : Int) < (len : Int) + 1 + 1 := by omega
  go_enter Try.func38, Try.ntmps38
  go_wp2
  go_returns
  exact ⟨rfl, by go_grown⟩
set_option maxRecDepth 20000 in
set_option maxHeartbeats 1000000 in
theorem rget_b2 (ad : Addr) (c len Y : Nat) (w : World) (hl : len ≤ 60000) (hcell : (w.alloc (.cells #[.int .i64 0, .int .i64 0, .string { data := #[] }] 56)).cell? ad = some (.int .u8 2)) (hcell1 : (w.alloc (.cells #[.int .i64 0, .int .i64 0, .string { data := #[] }] 56)).cell? { block := ad.block, off := ad.off + 1 } = some (.int .u8 (Y : Int))) (hY : ¬ 1 < Y) :
    Calls Try.prog 38 #[.slice (some ad) (len + 1 + 1) c] w fun e w' => e = .returned (⟨2, Y, emp, 2, 0⟩ : Rdv).v ∧ Below w.heap.size w w' := by
  have p1 : (1 : Int) < (len : Int) + 1 + 1 := by omega
  have p0 : (0 : Int) < (len : Int) + 1 + 1 := by omega
  go_enter Try.func38, Try.ntmps38
  go_wp2
  go_returns
  exact ⟨rfl, by go_grown⟩
set_option maxRecDepth 20000 in
set_option maxHeartbeats 1000000 in
theorem rget_form (ad : Addr) (c len X : Nat) (w : World) (hl : len ≤ 60000) (hcell : (w.alloc (.cells #[.int .i64 0, .int .i64 0, .string { data := #[] }] 56)).cell? ad = some (.int .u8 (X : Int))) (hX : X < 256) (h1 : ¬ X = 1) (h2 : ¬ X = 2) (h3 : ¬ X = 3) :
    Calls Try.prog 38 #[.slice (some ad) (len + 1) c] w fun e w' => e = .returned (none_ 11).v ∧ Below w.heap.size w w' := by
  have i1 : ((X : Int) == 1) = false := by simp; omega
  have i2 : ((X : Int) == 2) = false := by simp; omega
  have i3 : ((X : Int) == 3) = false := by simp; omega
  have j1 : ((X : Int) != 1) = true := by simp; omega
  have j3 : ((X : Int) != 3) = true := by simp; omega
  have p0 : (0 : Int) < (len : Int) + 1 := by omega
  go_enter Try.func38, Try.ntmps38
  go_wp2
  go_returns
  exact ⟨rfl, by go_grown⟩

theorem rvget_any (A : Option Addr) (c len : Nat) (l : List UInt8) (w : World) (ha : Bs w A c l) (hlen : l.length = len) (hl : len ≤ 60000) :
    Calls Try.prog 38 #[.slice A len c] w fun e w' => e = .returned (getV l).v ∧ Below w.heap.size w w' := by
  have b0 := below_box w (.cells #[.int .i64 0, .int .i64 0, .string { data := #[] }] 56) (Nat.le_refl _)
  have ha0 := ha.below b0
  cases l with
  | nil =>
    simp only [List.length_nil] at hlen
    subst hlen
    exact rget_nil A c w
  | cons x r =>
    obtain ⟨ad, rfl, hcell⟩ := ha0.get (k := 0) (by simp)
    simp only [Addr.add, if_true, List.getElem_cons_zero] at hcell
    have hr : r.length + 1 = len := by simpa using hlen
    subst hr
    have hc : r.length + 1 ≤ c := ha0.cap
    have ha1 := ha0.drop 1 (by simp)
    unfold cutA at ha1
    simp only [Option.map_some, cut_add, List.drop_succ_cons, List.drop_zero] at ha1
    show Calls _ _ _ _ fun e w' => e = .returned (finV (readR x.toNat r)).v ∧ _
    have hxlt := x.toNat_lt
    obtain ⟨X, hX⟩ : ∃ X, x.toNat = X := ⟨_, rfl⟩
    rw [hX] at hcell hxlt ⊢
    have hbd := getF_bd (nat8 r) 0 0 (by decide) (by omega)
    obtain ⟨n, k, er, hg⟩ : ∃ n k er, getF 0 0 (nat8 r) = (n, k, er) := ⟨_, _, _, rfl⟩
    rw [hg] at hbd
    simp only at hbd
    by_cases h2 : X = 2
    · subst h2
      rw [show readR 2 r = boolR r from rfl]
      cases r with
      | nil => exact rget_b0 ad c w hcell
      | cons y r =>
        obtain ⟨ad1, hA1, hcell1⟩ := ha0.get (k := 1) (by simp)
        injection hA1 with hA1
        subst hA1
        rw [cut_add] at hcell1
        simp only [List.getElem_cons_succ, List.getElem_cons_zero] at hcell1
        simp only [List.length_cons] at hl ⊢
        by_cases hY : 1 < y.toNat
        · rw [show finV (boolR (y :: r)) = none_ 11 by simp only [boolR, if_pos hY]; rfl]
          exact rget_b1 ad c r.length y.toNat w (by omega) hcell hcell1 hY
        · rw [show finV (boolR (y :: r)) = ⟨2, y.toNat, emp, 2, 0⟩ by simp only [boolR, if_neg hY]; rfl]
          exact rget_b2 ad c r.length y.toNat w (by omega) hcell hcell1 hY
    by_cases h1 : X = 1
    · subst h1
      have hR : readR 1 r = ⟨1, zag n, emp, k, er⟩ := by show intR r = _; unfold intR; rw [hg]
      rw [hR]
      by_cases hc1 : c = 1
      · rw [if_pos hc1] at ha1
        subst hc1
        obtain rfl : r = [] := List.eq_nil_of_length_eq_zero (by omega)
        obtain ⟨rfl, rfl, rfl⟩ : n = 0 ∧ k = 0 ∧ er = 10 := by simp [nat8, getF] at hg; omega
        exact rget_one1 ad w hcell ha1
      · rw [if_neg hc1] at ha1
        by_cases he : er = 0
        · subst he
          exact rget_num ad c r.length n k 0 r w hc1 hcell hc (by omega) rfl ha1 hg rfl hbd.1 hbd.2.2.1
        · rw [show finV ⟨1, zag n, emp, k, er⟩ = none_ er by unfold finV; rw [if_pos he]]
          exact rget_err1 ad c r.length n k er r w hc1 hcell hc (by omega) rfl ha1 hg he
    by_cases h3 : X = 3
    · subst h3
      rw [show readR 3 r = textR r from rfl]
      unfold textR
      rw [hg]
      simp only
      by_cases hc1 : c = 1
      · rw [if_pos hc1] at ha1
        subst hc1
        obtain rfl : r = [] := List.eq_nil_of_length_eq_zero (by omega)
        obtain ⟨rfl, rfl, rfl⟩ : n = 0 ∧ k = 0 ∧ er = 10 := by simp [nat8, getF] at hg; omega
        exact rget_one3 ad w hcell ha1
      · rw [if_neg hc1] at ha1
        by_cases he : er = 0
        · subst he
          rw [if_neg (by omega)]
          by_cases hn : 4096 < n
          · rw [if_pos hn]
            exact rget_great ad c r.length n k 0 r w hc1 hcell hc (by omega) rfl ha1 hg rfl hn hbd.1
          · rw [if_neg hn]
            by_cases hs : r.length < k + n
            · rw [if_pos hs]
              exact rget_cut ad c r.length n k 0 r w hc1 hcell hc (by omega) rfl ha1 hg rfl (by omega) hbd.2.2.1 hs
            · rw [if_neg hs]
              exact rget_text ad c r.length n k 0 r w hc1 hcell hc (by omega) rfl ha1 hg rfl (by omega) hbd.2.2.1 hs _ rfl x ha0
        · rw [if_pos he, show finV (none_ er) = none_ er by unfold finV; exact if_pos he]
          exact rget_err3 ad c r.length n k er r w hc1 hcell hc (by omega) rfl ha1 hg he
    · rw [readR_none (by omega)]
      exact rget_form ad c r.length X w (by omega) hcell hxlt h1 h2 h3
end Go.Proofs.Ytndcdidepdcmnaa.V04
end
