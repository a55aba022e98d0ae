/-
  What Get does: value's own reading calls, and Get.
-/
import Derived.Test.YtndcdidepdcmnaaKV04Put
import Derived.Test.YtndcdidepdcmnaaKV04Any
set_option linter.unusedSimpArgs false
set_option linter.unusedVariables false
namespace Go.Proofs.Ytndcdidepdcmnaa.V04
open Go.RowKit Go.Lib Go.Proofs.Ytndcdidepdcmnaa.Wd Go.Proofs.Ytndcdidepdcmnaa.V01

theorem getF_bd : ∀ (l : List Nat) (i acc : Nat), acc < 2 ^ (7 * i) → i ≤ 10 → (getF i acc l).1 ≤ 18446744073709551615 ∧ (getF i acc l).2.1 ≤ i + l.length ∧ (getF i acc l).2.1 ≤ 10 ∧ (getF i acc l).2.2 ≤ 11
  | [], i, acc, _, _ => by simp [getF]
  | c :: r, i, acc, ha, hi => by
    rw [getF]
    split
    · simp
    · rename_i h9
      have h4 : 2 ^ (7 * (i + 1)) = 128 * 2 ^ (7 * i) := by rw [Nat.mul_add, Nat.pow_add]; omega
      have h3 : (c % 128 + 1) * 2 ^ (7 * i) ≤ 128 * 2 ^ (7 * i) := Nat.mul_le_mul_right _ (by omega)
      rw [Nat.add_mul, Nat.one_mul] at h3
      split
      · have := getF_bd r (i + 1) (acc + c % 128 * 2 ^ (7 * i)) (by omega) (by omega)
        simp only [List.length_cons]
        omega
      · split
        · simp
        · refine ⟨?_, by simp, by simp; omega, by simp⟩
          by_cases h8 : i = 9
          · subst h8
            have : c % 128 < 2 := by omega
            have h63 : (2 : Nat) ^ (7 * 9) = 9223372036854775808 := by decide
            rw [h63] at ha
            simp only [h63]
            omega
          · have h56 : (2 : Nat) ^ (7 * i) ≤ 2 ^ 56 := Nat.pow_le_pow_right (by decide) (by omega)
            have h56' : (2 : Nat) ^ 56 = 72057594037927936 := by decide
            simp only
            omega

/-- what was read: a value, how many bytes, the error -/
structure Rdv where
  K : Int
  N : Int
  S : ByteArray
  k : Nat
  e : Nat
def Rdv.v (r : Rdv) : Value := .tuple #[vl r.K r.N r.S, .int .i64 r.k, .int .i64 r.e]
def Rdv.box (r : Rdv) : Obj := V04.box 47 r.K r.N r.S
def none_ (e : Nat) : Rdv := ⟨0, 0, emp, 0, e⟩
def intR (l : List UInt8) : Rdv := ⟨1, zag (getF 0 0 (nat8 l)).1, emp, (getF 0 0 (nat8 l)).2.1, (getF 0 0 (nat8 l)).2.2⟩
def boolR : List UInt8 → Rdv
  | [] => none_ 10
  | x :: _ => if 1 < x.toNat then none_ 11 else ⟨2, x.toNat, emp, 1, 0⟩
def textR (l : List UInt8) : Rdv :=
  if (getF 0 0 (nat8 l)).2.2 ≠ 0 then none_ (getF 0 0 (nat8 l)).2.2
  else if 4096 < (getF 0 0 (nat8 l)).1 then none_ 11
  else if l.length < (getF 0 0 (nat8 l)).2.1 + (getF 0 0 (nat8 l)).1 then none_ 10
  else ⟨3, 0, ⟨((l.drop (getF 0 0 (nat8 l)).2.1).take (getF 0 0 (nat8 l)).1).toArray⟩, (getF 0 0 (nat8 l)).2.1 + (getF 0 0 (nat8 l)).1, 0⟩

theorem conv_zero (A : Option Addr) (c : Nat) (w : World) : (convert 25 9 (.slice A 0 c)).run Try.prog w = .ok (.string emp) w := by
  cases A with
  | none => exact run_convert_nil_bytes w 25 9 5 c Try.underlying25 Try.underlying5 Try.underlying9
  | some ad => exact run_convert_bytes_back w 25 9 5 ad c [] Try.underlying25 Try.underlying5 Try.underlying9 (fun j hj => by simp at hj)

set_option maxRecDepth 20000 in
theorem readInt_any (A : Option Addr) (c len : Nat) (l : List UInt8) (w : World) (ha : Bs w A c l) (hlen : l.length = len) (hl : len ≤ 65536) :
    Calls Try.prog 77 #[.slice A len c] w fun e w' => e = .returned (intR l).v ∧ w' = w.alloc (Rdv.box (intR l)) := by
  unfold intR Rdv.v
  have hbd := getF_bd (nat8 l) 0 0 (by decide) (by omega)
  obtain ⟨n, k, er, hg⟩ : ∃ n k er, getF 0 0 (nat8 l) = (n, k, er) := ⟨_, _, _, rfl⟩
  rw [hg] at hbd ⊢
  simp only at hbd ⊢
  have b0 := below_box w (box 47 0 0 emp) (Nat.le_refl _)
  go_enter Try.func77, Try.ntmps77
  go_wp2_with fail
  refine (V01.get_at A c len l n k er _ (ha.below b0) hlen hl hg).mono ?_
  rintro e w1 ⟨rfl, rfl⟩
  go_wp2_with fail
  refine (zag_any (n : Int) _ (by omega) (by omega)).mono ?_
  rintro e w1 ⟨rfl, rfl⟩
  go_wp2
  go_returns
  exact ⟨rfl, rfl⟩

set_option maxRecDepth 20000 in
theorem readBool_any (A : Option Addr) (c len : Nat) (l : List UInt8) (w : World) (ha : Bs w A c l) (hlen : l.length = len) (hl : len ≤ 65536) :
    Calls Try.prog 78 #[.slice A len c] w fun e w' => e = .returned (boolR l).v ∧ w' = w.alloc (Rdv.box (boolR l)) := by
  have b0 := below_box w (.cells #[.int .i64 0, .int .i64 0, .string { data := #[] }] 47) (Nat.le_refl _)
  have ha0 := ha.below b0
  cases l with
  | nil =>
    simp only [List.length_nil] at hlen
    subst hlen
    go_enter Try.func78, Try.ntmps78
    go_wp2
    go_returns
    exact ⟨rfl, rfl⟩
  | cons x r =>
    obtain ⟨ad, rfl, hcell⟩ := ha0.get (k := 0) (by simp)
    have hx : x.toNat < 256 := x.toNat_lt
    simp only [Addr.add, if_true, List.getElem_cons_zero] at hcell
    have hl0 : 0 < len := by simp only [List.length_cons] at hlen; omega
    show Calls _ _ _ _ fun e w' => e = .returned (if 1 < x.toNat then none_ 11 else ⟨2, x.toNat, emp, 1, 0⟩ : Rdv).v ∧ w' = w.alloc (Rdv.box (if 1 < x.toNat then none_ 11 else ⟨2, x.toNat, emp, 1, 0⟩ : Rdv))
    generalize x.toNat = X at *
    by_cases h1 : 1 < X
    · rw [if_pos h1]
      go_enter Try.func78, Try.ntmps78
      go_wp2
      go_returns
      exact ⟨rfl, rfl⟩
    · rw [if_neg h1]
      go_enter Try.func78, Try.ntmps78
      go_wp2
      go_returns
      exact ⟨rfl, rfl⟩
set_option maxRecDepth 20000 in
set_option maxHeartbeats 1000000 in
theorem readText_any (A : Option Addr) (c len : Nat) (l : List UInt8) (w : World) (ha : Bs w A c l) (hlen : l.length = len) (hl : len ≤ 65536) :
    Calls Try.prog 79 #[.slice A len c] w fun e w' => e = .returned (textR l).v ∧ w' = w.alloc (Rdv.box (textR l)) := by
  unfold textR
  have hbd := getF_bd (nat8 l) 0 0 (by decide) (by omega)
  obtain ⟨n, k, er, hg⟩ : ∃ n k er, getF 0 0 (nat8 l) = (n, k, er) := ⟨_, _, _, rfl⟩
  rw [nat8_len, hlen] at hbd
  rw [hg] at hbd ⊢
  simp only at hbd ⊢
  rw [hlen]
  have b0 := below_box w (box 47 0 0 emp) (Nat.le_refl _)
  have ha0 := ha.below b0
  by_cases he : er ≠ 0
  · rw [if_pos he]
    have hei : ((er : Int) != 0) = true := by simp; omega
    go_enter Try.func79, Try.ntmps79
    go_wp2_with fail
    refine (V01.get_at A c len l n k er _ ha0 hlen hl hg).mono ?_
    rintro e w1 ⟨rfl, rfl⟩
    go_wp2
    go_returns
    exact ⟨rfl, rfl⟩
  · rw [if_neg he]
    have he0 : er = 0 := by omega
    subst he0
    by_cases hn : 4096 < n
    · rw [if_pos hn]
      have hni : (4096 : Int) < (n : Int) := by omega
      go_enter Try.func79, Try.ntmps79
      go_wp2_with fail
      refine (V01.get_at A c len l n k 0 _ ha0 hlen hl hg).mono ?_
      rintro e w1 ⟨rfl, rfl⟩
      go_wp2
      go_returns
      exact ⟨rfl, rfl⟩
    · rw [if_neg hn]
      by_cases hs : len < k + n
      · rw [if_pos hs]
        go_enter Try.func79, Try.ntmps79
        go_wp2_with fail
        refine (V01.get_at A c len l n k 0 _ ha0 hlen hl hg).mono ?_
        rintro e w1 ⟨rfl, rfl⟩
        go_wp2
        go_returns
        exact ⟨rfl, rfl⟩
      · rw [if_neg hs]
        have hc := ha0.cap
        have p1 : (0 : Int) ≤ (k : Int) := by omega
        have p2 : (k : Int) ≤ (k : Int) + n := by omega
        have p3 : (k : Int) + n ≤ (c : Int) := by omega
        obtain ⟨T, hT⟩ : ∃ T : ByteArray, ⟨((l.drop k).take n).toArray⟩ = T := ⟨_, rfl⟩
        rw [hT]
        by_cases hck : c = k
        · have hn0 : n = 0 := by omega
          subst hn0
          have hcv := conv_zero A (c - k) (w.alloc (box 47 0 0 emp))
          have hcv' := conv_zero A 0 (w.alloc (box 47 0 0 emp))
          have hTe : T = emp := by rw [← hT]; rfl
          subst hTe
          subst hck
          clear hT
          go_enter Try.func79, Try.ntmps79
          go_wp2_with fail
          refine (V01.get_at A c len l 0 c 0 _ ha0 hlen hl hg).mono ?_
          rintro e w1 ⟨rfl, rfl⟩
          go_wp2
          go_returns
          exact ⟨rfl, rfl⟩
        · have hcv := ((ha0.drop k (by omega)).take n (by simp; omega)).str (P := Try.prog) 25 9 5 Try.underlying25 Try.underlying5 Try.underlying9
          unfold cutA at hcv
          rw [if_neg hck, hT, show ((l.drop k).take n).length = n by simp; omega] at hcv
          clear hT
          go_enter Try.func79, Try.ntmps79
          go_wp2_with fail
          refine (V01.get_at A c len l n k 0 _ ha0 hlen hl hg).mono ?_
          rintro e w1 ⟨rfl, rfl⟩
          go_wp2
          go_returns
          exact ⟨rfl, rfl⟩
end Go.Proofs.Ytndcdidepdcmnaa.V04
