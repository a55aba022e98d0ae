/-
  What the document's Get of a value does.
-/
import Derived.Test.YtcbnjokojefjmaaDoorV04Get3
import Derived.Test.YtcbnjokojefjmaaDoorV01RefGet
set_option linter.unusedSimpArgs false
set_option linter.unusedVariables false
namespace Go.Proofs.YtcbnjokojefjmaaDoor.V04
open Go.RowKit Go.Lib Go.Proofs.YtcbnjokojefjmaaDoor.Wd Go.Proofs.YtcbnjokojefjmaaDoor.V01

theorem rget_at (A : Option Addr) (c len : Nat) (l : List UInt8) (n k e : Nat) (w : World) (ha : Bs w A c l) (hlen : l.length = len) (hl : len ≤ 65536) (hg : getF 0 0 (nat8 l) = (n, k, e)) :
    Calls Tryd.prog 28 #[.slice A len c] w fun x w' => x = .returned (.tuple #[.int .u64 n, .int .i64 k, .int .i64 e]) ∧ w = w' := by
  subst hlen
  have := refget_same A c l w ha hl
  rw [hg] at this
  exact this

theorem ret_rdv {K N : Int} {S : ByteArray} {a : Int} {k : Nat} (h : a = (k : Int)) : Ending.returned (.tuple #[.agg #[.int .i64 K, .int .i64 N, .string S], .int .i64 a, .int .i64 0]) = .returned (⟨K, N, S, k, 0⟩ : Rdv).v := by
  rw [h]
  rfl
set_option maxRecDepth 20000 in
set_option maxHeartbeats 2000000 in
theorem rget_err1 (ad : Addr) (c len n k er : Nat) (r : List UInt8) (w : World) (hc : ¬ c = 1)
    (hcell : (w.alloc (.cells #[.int .i64 0, .int .i64 0, .string { data := #[] }] 23)).cell? ad = some (.int .u8 1)) (hlc : len + 1 ≤ c) (hl : len ≤ 60000) (hr : r.length = len)
    (hB : Bs (w.alloc (.cells #[.int .i64 0, .int .i64 0, .string { data := #[] }] 23)) (some { block := ad.block, off := ad.off + 1 }) (c - 1) r)
    (hg : getF 0 0 (nat8 r) = (n, k, er)) (he : ¬ er = 0) :
    Calls Tryd.prog 15 #[.slice (some ad) (len + 1) c] w fun e w' => e = .returned (none_ er).v ∧ Below w.heap.size w w' := by
  have p1 : (1 : Int) ≤ ((len + 1 : Nat) : Int) := by omega
  have p2 : (1 : Int) ≤ (c : Int) := by omega
  have p3 : (1 : Int) ≤ (len : Int) + 1 := by omega
  have hei : ((er : Int) != 0) = true := by simp; omega
  go_enter Tryd.func15, Tryd.ntmps15
  go_wp2_with fail
  refine (rget_at _ _ len r n k er _ hB hr (by omega) hg).mono ?_
  rintro e w1 ⟨rfl, rfl⟩
  go_wp2
  go_returns
  exact ⟨rfl, by go_grown⟩
set_option maxRecDepth 20000 in
set_option maxHeartbeats 2000000 in
theorem rget_one1 (ad : Addr) (w : World) (hcell : (w.alloc (.cells #[.int .i64 0, .int .i64 0, .string { data := #[] }] 23)).cell? ad = some (.int .u8 1)) (hB : Bs (w.alloc (.cells #[.int .i64 0, .int .i64 0, .string { data := #[] }] 23)) (some ad) 0 []) :
    Calls Tryd.prog 15 #[.slice (some ad) 1 1] w fun e w' => e = .returned (none_ 10).v ∧ Below w.heap.size w w' := by
  go_enter Tryd.func15, Tryd.ntmps15
  go_wp2_with fail
  refine (rget_at _ _ 0 [] 0 0 10 _ hB rfl (by omega) rfl).mono ?_
  rintro e w1 ⟨rfl, rfl⟩
  go_wp2
  go_returns
  exact ⟨rfl, by go_grown⟩
set_option maxRecDepth 20000 in
set_option maxHeartbeats 2000000 in
theorem rget_err3 (ad : Addr) (c len n k er : Nat) (r : List UInt8) (w : World) (hc : ¬ c = 1)
    (hcell : (w.alloc (.cells #[.int .i64 0, .int .i64 0, .string { data := #[] }] 23)).cell? ad = some (.int .u8 3)) (hlc : len + 1 ≤ c) (hl : len ≤ 60000) (hr : r.length = len)
    (hB : Bs (w.alloc (.cells #[.int .i64 0, .int .i64 0, .string { data := #[] }] 23)) (some { block := ad.block, off := ad.off + 1 }) (c - 1) r)
    (hg : getF 0 0 (nat8 r) = (n, k, er)) (he : ¬ er = 0) :
    Calls Tryd.prog 15 #[.slice (some ad) (len + 1) c] w fun e w' => e = .returned (none_ er).v ∧ Below w.heap.size w w' := by
  have p1 : (1 : Int) ≤ ((len + 1 : Nat) : Int) := by omega
  have p2 : (1 : Int) ≤ (c : Int) := by omega
  have p3 : (1 : Int) ≤ (len : Int) + 1 := by omega
  have hei : ((er : Int) != 0) = true := by simp; omega
  go_enter Tryd.func15, Tryd.ntmps15
  go_wp2_with fail
  refine (rget_at _ _ len r n k er _ hB hr (by omega) hg).mono ?_
  rintro e w1 ⟨rfl, rfl⟩
  go_wp2
  go_returns
  exact ⟨rfl, by go_grown⟩
set_option maxRecDepth 20000 in
set_option maxHeartbeats 2000000 in
theorem rget_one3 (ad : Addr) (w : World) (hcell : (w.alloc (.cells #[.int .i64 0, .int .i64 0, .string { data := #[] }] 23)).cell? ad = some (.int .u8 3)) (hB : Bs (w.alloc (.cells #[.int .i64 0, .int .i64 0, .string { data := #[] }] 23)) (some ad) 0 []) :
    Calls Tryd.prog 15 #[.slice (some ad) 1 1] w fun e w' => e = .returned (none_ 10).v ∧ Below w.heap.size w w' := by
  go_enter Tryd.func15, Tryd.ntmps15
  go_wp2_with fail
  refine (rget_at _ _ 0 [] 0 0 10 _ hB rfl (by omega) rfl).mono ?_
  rintro e w1 ⟨rfl, rfl⟩
  go_wp2
  go_returns
  exact ⟨rfl, by go_grown⟩
set_option maxRecDepth 20000 in
set_option maxHeartbeats 2000000 in
theorem rget_num (ad : Addr) (c len n k er : Nat) (r : List UInt8) (w : World) (hc : ¬ c = 1)
    (hcell : (w.alloc (.cells #[.int .i64 0, .int .i64 0, .string { data := #[] }] 23)).cell? ad = some (.int .u8 1)) (hlc : len + 1 ≤ c) (hl : len ≤ 60000) (hr : r.length = len)
    (hB : Bs (w.alloc (.cells #[.int .i64 0, .int .i64 0, .string { data := #[] }] 23)) (some { block := ad.block, off := ad.off + 1 }) (c - 1) r)
    (hg : getF 0 0 (nat8 r) = (n, k, er)) (he : er = 0) (hn : n ≤ 18446744073709551615) (hk : k ≤ 10) :
    Calls Tryd.prog 15 #[.slice (some ad) (len + 1) c] w fun e w' => e = .returned (⟨1, zag n, emp, 1 + k, 0⟩ : Rdv).v ∧ Below w.heap.size w w' := by
  subst he
  have p1 : (1 : Int) ≤ ((len + 1 : Nat) : Int) := by omega
  have p2 : (1 : Int) ≤ (c : Int) := by omega
  have p3 : (1 : Int) ≤ (len : Int) + 1 := by omega
  by_cases hz : n % 2 = 0
  · have hzi : ((n : Int) % 2 == 1) = false := by simp; omega
    have hzz : zag (n : Int) = (n : Int) / 2 := by unfold zag; rw [if_pos (by omega)]
    rw [hzz]
    clear hzz
    go_enter Tryd.func15, Tryd.ntmps15
    go_wp2_with fail
    refine (rget_at _ _ len r n k 0 _ hB hr (by omega) hg).mono ?_
    rintro e w1 ⟨rfl, rfl⟩
    go_wp2
    go_returns
    exact ⟨ret_rdv (by omega), by go_grown⟩
  · have hzi : ((n : Int) % 2 == 1) = true := by simp; omega
    have hzz : zag (n : Int) = -((n : Int) / 2) - 1 := by unfold zag; rw [if_neg (by omega)]
    rw [hzz]
    clear hzz
    go_enter Tryd.func15, Tryd.ntmps15
    go_wp2_with fail
    refine (rget_at _ _ len r n k 0 _ hB hr (by omega) hg).mono ?_
    rintro e w1 ⟨rfl, rfl⟩
    go_wp2
    go_returns
    exact ⟨ret_rdv (by omega), by go_grown⟩
set_option maxRecDepth 20000 in
set_option maxHeartbeats 2000000 in
theorem rget_great (ad : Addr) (c len n k er : Nat) (r : List UInt8) (w : World) (hc : ¬ c = 1)
    (hcell : (w.alloc (.cells #[.int .i64 0, .int .i64 0, .string { data := #[] }] 23)).cell? ad = some (.int .u8 3)) (hlc : len + 1 ≤ c) (hl : len ≤ 60000) (hr : r.length = len)
    (hB : Bs (w.alloc (.cells #[.int .i64 0, .int .i64 0, .string { data := #[] }] 23)) (some { block := ad.block, off := ad.off + 1 }) (c - 1) r)
    (hg : getF 0 0 (nat8 r) = (n, k, er)) (he : er = 0) (hn : 4096 < n) (hn2 : n ≤ 18446744073709551615) :
    Calls Tryd.prog 15 #[.slice (some ad) (len + 1) c] w fun e w' => e = .returned (none_ 11).v ∧ Below w.heap.size w w' := by
  subst he
  have hni : (4096 : Int) < (n : Int) := by omega
  have p1 : (1 : Int) ≤ ((len + 1 : Nat) : Int) := by omega
  have p2 : (1 : Int) ≤ (c : Int) := by omega
  have p3 : (1 : Int) ≤ (len : Int) + 1 := by omega
  go_enter Tryd.func15, Tryd.ntmps15
  go_wp2_with fail
  refine (rget_at _ _ len r n k 0 _ hB hr (by omega) hg).mono ?_
  rintro e w1 ⟨rfl, rfl⟩
  go_wp2
  go_returns
  exact ⟨rfl, by go_grown⟩
set_option maxRecDepth 20000 in
set_option maxHeartbeats 2000000 in
theorem rget_cut (ad : Addr) (c len n k er : Nat) (r : List UInt8) (w : World) (hc : ¬ c = 1)
    (hcell : (w.alloc (.cells #[.int .i64 0, .int .i64 0, .string { data := #[] }] 23)).cell? ad = some (.int .u8 3)) (hlc : len + 1 ≤ c) (hl : len ≤ 60000) (hr : r.length = len)
    (hB : Bs (w.alloc (.cells #[.int .i64 0, .int .i64 0, .string { data := #[] }] 23)) (some { block := ad.block, off := ad.off + 1 }) (c - 1) r)
    (hg : getF 0 0 (nat8 r) = (n, k, er)) (he : er = 0) (hn : n ≤ 4096) (hk : k ≤ 10) (hs : len < k + n) :
    Calls Tryd.prog 15 #[.slice (some ad) (len + 1) c] w fun e w' => e = .returned (none_ 10).v ∧ Below w.heap.size w w' := by
  subst he
  have hni : ¬ (4096 : Int) < (n : Int) := by omega
  have hsi : (len : Int) + 1 < 1 + (k : Int) + (n : Int) := by omega
  have p1 : (1 : Int) ≤ ((len + 1 : Nat) : Int) := by omega
  have p2 : (1 : Int) ≤ (c : Int) := by omega
  have p3 : (1 : Int) ≤ (len : Int) + 1 := by omega
  go_enter Tryd.func15, Tryd.ntmps15
  go_wp2_with fail
  refine (rget_at _ _ len r n k 0 _ hB hr (by omega) hg).mono ?_
  rintro e w1 ⟨rfl, rfl⟩
  go_wp2
  go_returns
  exact ⟨rfl, by go_grown⟩
set_option maxRecDepth 20000 in
set_option maxHeartbeats 2000000 in
theorem rget_text (ad : Addr) (c len n k er : Nat) (r : List UInt8) (w : World) (hc : ¬ c = 1)
    (hcell : (w.alloc (.cells #[.int .i64 0, .int .i64 0, .string { data := #[] }] 23)).cell? ad = some (.int .u8 3)) (hlc : len + 1 ≤ c) (hl : len ≤ 60000) (hr : r.length = len)
    (hB : Bs (w.alloc (.cells #[.int .i64 0, .int .i64 0, .string { data := #[] }] 23)) (some { block := ad.block, off := ad.off + 1 }) (c - 1) r)
    (hg : getF 0 0 (nat8 r) = (n, k, er)) (he : er = 0) (hn : n ≤ 4096) (hk : k ≤ 10) (hs : ¬ len < k + n) (T : ByteArray) (hT : ⟨((r.drop k).take n).toArray⟩ = T) (x : UInt8) (hA : Bs (w.alloc (.cells #[.int .i64 0, .int .i64 0, .string { data := #[] }] 23)) (some ad) c (x :: r)) :
    Calls Tryd.prog 15 #[.slice (some ad) (len + 1) c] w fun e w' => e = .returned (⟨3, 0, T, 1 + (k + n), 0⟩ : Rdv).v ∧ Below w.heap.size w w' := by
  subst he
  have hni : ¬ (4096 : Int) < (n : Int) := by omega
  have hsi : ¬ (len : Int) + 1 < 1 + (k : Int) + (n : Int) := by omega
  have p1 : (1 : Int) ≤ ((len + 1 : Nat) : Int) := by omega
  have p2 : (1 : Int) ≤ (c : Int) := by omega
  have p3 : (1 : Int) ≤ (len : Int) + 1 := by omega
  have q1 : (0 : Int) ≤ 1 + (k : Int) := by omega
  have q2 : 1 + (k : Int) ≤ 1 + (k : Int) + n := by omega
  have q3 : 1 + (k : Int) + n ≤ (c : Int) := by omega
  by_cases hck : c = 1 + k
  · have hn0 : n = 0 := by omega
    subst hn0
    have hcv := conv_zero (some ad) (c - (1 + k)) (w.alloc (.cells #[.int .i64 0, .int .i64 0, .string { data := #[] }] 23))
    have hcv' := conv_zero (some ad) 0 (w.alloc (.cells #[.int .i64 0, .int .i64 0, .string { data := #[] }] 23))
    have hTe : T = emp := by rw [← hT]; rfl
    subst hTe
    subst hck
    clear hT
    rw [show 1 + k - 1 = k by omega] at hB
    go_enter Tryd.func15, Tryd.ntmps15
    go_wp2_with fail
    refine (rget_at _ k len r 0 k 0 _ hB hr (by omega) hg).mono ?_
    rintro e w1 ⟨rfl, rfl⟩
    go_wp2
    go_returns
    exact ⟨ret_rdv (by omega), by go_grown⟩
  · have hcv := ((hA.drop (1 + k) (by simp; omega)).take n (by simp; omega)).str (P := Tryd.prog) 24 9 5 Tryd.underlying24 Tryd.underlying5 Tryd.underlying9
    have hdr : (x :: r).drop (1 + k) = r.drop k := by rw [Nat.add_comm, List.drop_succ_cons]
    unfold cutA at hcv
    rw [if_neg hck, hdr, hT, show ((r.drop k).take n).length = n by simp; omega, Option.map_some] at hcv
    clear hT hdr
    go_enter Tryd.func15, Tryd.ntmps15
    go_wp2_with fail
    refine (rget_at _ _ len r n k 0 _ hB hr (by omega) hg).mono ?_
    rintro e w1 ⟨rfl, rfl⟩
    go_wp2
    go_returns
    exact ⟨ret_rdv (by omega), by go_grown⟩
end Go.Proofs.YtcbnjokojefjmaaDoor.V04
