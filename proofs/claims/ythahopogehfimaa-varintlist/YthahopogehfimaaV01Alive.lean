/-
  The contracts with their numbers as letters, and the chapter's example (alive).
-/
import Derived.Test.YthahopogehfimaaV01Get
import Derived.Test.YthahopogehfimaaV01Back
namespace Go.Proofs.Ythahopogehfimaa.V01
open Go.RowKit Go.Lib Go.Proofs.Ythahopogehfimaa.Wd

theorem put_at (A : Option Addr) (c len : Nat) (N : Int) (l r : List UInt8) (n : Nat) (w : World) (ha : Bs w A c l) (hlen : l.length = len) (hN : N = (n : Int)) (hr : l ++ vby n = r) (hl : len ≤ 65536) (hn : N ≤ 18446744073709551615) :
    Calls Try.prog 10 #[.slice A len c, .int .u64 N] w fun e w' =>
      ∃ A' c', e = .returned (.slice A' r.length c') ∧ w'.ownsRow w.heap.size 5 1 (.slice A' r.length c') r.length (byteCells r) ∧ Below w.heap.size w w' := by
  subst hlen; subst hN; subst hr
  exact put_any A c l n w ha hl hn
theorem get_at (A : Option Addr) (c len : Nat) (l : List UInt8) (n k e : Nat) (w : World) (ha : Bs w A c l) (hlen : l.length = len) (hl : len ≤ 65536) (hg : getF 0 0 (nat8 l) = (n, k, e)) :
    Calls Try.prog 8 #[.slice A len c] w fun x w' => x = .returned (.tuple #[.int .u64 n, .int .i64 k, .int .i64 e]) ∧ w = w' := by
  subst hlen
  have := get_any A c l w ha hl
  rw [hg] at this
  exact this
theorem bytes_at (A B : Option Addr) (c d la lb : Nat) (l r : List UInt8) (b : Bool) (w : World) (ha : Bs w A c l) (hb : Bs w B d r) (hla : l.length = la) (hlb : r.length = lb) (he : (l == r) = b) :
    Calls Try.prog 12 #[.slice A la c, .slice B lb d] w fun e w' => e = .returned (.bool b) ∧ w = w' := by
  subst hla; subst hlb; subst he
  exact bytes_any A B c d l r w ha hb

set_option maxRecDepth 20000 in
set_option maxHeartbeats 1000000 in
theorem alive_any (w : World) : Calls Try.prog 7 #[] w fun e w' => e = .returned (.bool true) ∧ Below w.heap.size w w' := by
  go_enter Try.func7, Try.ntmps7
  go_wp2_with fail
  refine (put_at _ 1 1 300 [9] [9, 172, 2] 300 _ (Bs.lit w 5 #[.int .u8 9] [9] rfl (by decide)) rfl rfl (by decide) (by decide) (by decide)).mono ?_
  rintro e w1 ⟨A1, c1, rfl, hown1, hb1⟩
  have hb1' : Below w.heap.size w w1 := ((Below.refl _ _).alloc (Nat.le_refl _) _).trans (hb1.mono (by simp))
  have ha1 := Bs.own hown1
  clear hown1 hb1
  go_wp2_with fail
  refine (get_at _ 3 3 [172, 2, 7] 300 2 0 _ (Bs.lit w1 5 #[.int .u8 172, .int .u8 2, .int .u8 7] [172, 2, 7] rfl (by decide)) rfl (by decide) (by decide)).mono ?_
  rintro e w2 ⟨rfl, rfl⟩
  have hb2 := hb1'.alloc hb1'.size (.cells #[.int .u8 172, .int .u8 2, .int .u8 7] 5)
  have ha2 := ha1.below ((Below.refl _ _).alloc (Nat.le_refl _) (.cells #[.int .u8 172, .int .u8 2, .int .u8 7] 5))
  clear ha1 hb1'
  generalize w1.alloc (.cells #[.int .u8 172, .int .u8 2, .int .u8 7] 5) = w2 at *
  go_wp2_with fail
  refine (get_at _ 1 1 [172] 0 0 10 _ (Bs.lit w2 5 #[.int .u8 172] [172] rfl (by decide)) rfl (by decide) (by decide)).mono ?_
  rintro e w3 ⟨rfl, rfl⟩
  have hb3 := hb2.alloc hb2.size (.cells #[.int .u8 172] 5)
  have ha3 := ha2.below ((Below.refl _ _).alloc (Nat.le_refl _) (.cells #[.int .u8 172] 5))
  clear ha2 hb2
  generalize w2.alloc (.cells #[.int .u8 172] 5) = w3 at *
  go_wp2_with fail
  refine (bytes_at _ _ c1 3 3 3 [9, 172, 2] [9, 172, 2] true _ (ha3.below ((Below.refl _ _).alloc (Nat.le_refl _) _)) (Bs.lit w3 5 #[.int .u8 9, .int .u8 172, .int .u8 2] [9, 172, 2] rfl (by decide)) rfl rfl (by decide)).mono ?_
  rintro e w4 ⟨rfl, rfl⟩
  go_wp2
  go_ret
  exact ⟨rfl, hb3.alloc hb3.size _⟩
end Go.Proofs.Ythahopogehfimaa.V01
