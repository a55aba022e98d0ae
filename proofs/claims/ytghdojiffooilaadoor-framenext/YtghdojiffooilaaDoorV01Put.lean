/-
  What Bytes (the document's), Put and the document's Put do.
-/
import Derived.Test.YtghdojiffooilaaDoorV01Small
import Derived.Test.YtghdojiffooilaaDoorWords
namespace Go.Proofs.YtghdojiffooilaaDoor.V01
open Go.RowKit Go.Lib Go.Proofs.YtghdojiffooilaaDoor.Wd

theorem byte_info : (Tryd.prog.info? 5).map (fun i => (i.zero, i.size, i.bytes)) = some (some (.int .u8 0), 1, 1) := by kernel_rfl

theorem bytes_any (A B : Option Addr) (c d : Nat) (l r : List UInt8) (w : World) (ha : Bs w A c l) (hb : Bs w B d r) :
    Calls Tryd.prog 11 #[.slice A l.length c, .slice B r.length d] w fun e w' => e = .returned (.bool (l == r)) ∧ w = w' := by
  have h1 := ha.str (P := Tryd.prog) 22 9 5 Tryd.underlying22 Tryd.underlying5 Tryd.underlying9
  have h2 := hb.str (P := Tryd.prog) 22 9 5 Tryd.underlying22 Tryd.underlying5 Tryd.underlying9
  clear ha hb
  go_enter Tryd.func11, Tryd.ntmps11
  go_wp2
  go_ret
  exact ⟨rfl, rfl⟩

def PutRel (n : Nat) (l : List UInt8) (f m : Nat) (out : List UInt8) : Prop := out ++ b8 (vb f m) = l ++ vby n ∧ out.length + f ≤ l.length + 9
theorem put_step (n : Nat) (l : List UInt8) (g m : Nat) (out : List UInt8) (h : PutRel n l (g + 1) m out) (e : vb (g + 1) m = (m % 128 + 128) :: vb g (m / 128)) :
    PutRel n l g (m / 128) (out ++ [UInt8.ofNat (m % 128 + 128)]) := by
  obtain ⟨h1, h2⟩ := h
  refine ⟨?_, by simp; omega⟩
  rw [← h1, e]
  simp [b8]
theorem put_end (n : Nat) (l : List UInt8) (f m : Nat) (out : List UInt8) (h : PutRel n l f m out) (hm : m < 128) : out ++ [UInt8.ofNat m] = l ++ vby n := by
  rw [← h.1, vb_small f m hm]
  rfl
theorem bc_one_nat (m : Nat) (h : m < 256) : byteCells [UInt8.ofNat m] = [Value.int .u8 (m : Int)] := by simp [byteCells, Nat.mod_eq_of_lt h]

set_option maxRecDepth 20000 in
set_option maxHeartbeats 1000000 in
theorem put_any (A : Option Addr) (c : Nat) (l : List UInt8) (n : Nat) (w : World) (ha : Bs w A c l) (hl : l.length ≤ 65536) (hn : (n : Int) ≤ 18446744073709551615) :
    Calls Tryd.prog 19 #[.slice A l.length c, .int .u64 n] w fun e w' =>
      ∃ A' c', e = .returned (.slice A' (l ++ vby n).length c') ∧ w'.ownsRow w.heap.size 5 1 (.slice A' (l ++ vby n).length c') (l ++ vby n).length (byteCells (l ++ vby n)) ∧ Below w.heap.size w w' := by
  obtain ⟨i0, hi, hz0, hz1, hz2⟩ := info_parts byte_info
  have hsz := vsize_le n
  go_enter Tryd.func19, Tryd.ntmps19
  go_wp2_with fail
  refine (size_any n _ hn).mono ?_
  rintro e w1 ⟨rfl, rfl⟩
  go_wp2_with (first
    | (at_make; refine wpList_make_own _ rfl _ _ 22 rfl w.heap.size 5 i0 _ 1 Tryd.underlying22 hi hz0 hz1 _ _ _ (l.length + vsize n) rfl rfl ?c1 ?c2 ?c3 ?c4 ?_))
  case c1 => omega
  case c2 => rw [hz2]; omega
  case c3 => unfold maxLen; omega
  case c4 => exact Nat.le_refl _
  intro w1 hown1 hg1
  have hb1 : Below w.heap.size w w1 := (Below.refl _ _).grown hg1 (Nat.le_refl _) (by simp)
  have ha1 := ha.below hb1
  go_wp2_with (at_builtin; refine wpList_append_rd _ rfl _ _ 22 rfl w.heap.size 5 i0 _ 1 1 Tryd.underlying22 hi hz0 hz1 hz2 rfl (by decide) _ 0 [] rfl hown1 A l.length c (byteCells l) rfl ha1 (bc_one l) ?d1 ?d2 ?d3 ?_)
  case d1 => unfold maxLen; omega
  case d2 => omega
  case d3 => exact hb1.size
  intro A2 c2 w2 hown2 hg2
  have hb2 : Below w.heap.size w w2 := hb1.grown hg2 hb1.size (fun k hk => (hown1.lt k hk).1)
  have hown2' : w2.ownsRow w.heap.size 5 1 (.slice A2 l.length c2) l.length (byteCells l) := by simpa using hown2
  have hf := fit64 (n := n) (by omega)
  clear hown1 hg1 hown2 hg2 ha1 hb1 ha
  go_wp2_with fail
  go_loopw [1, 5] (fun a v wr => ∃ f m out A' c', a = .int .u64 (m : Nat) ∧ v = .slice A' (out : List UInt8).length c' ∧ In64 m ∧ Fit f m ∧ PutRel n l f m out ∧
      wr.ownsRow w.heap.size 5 1 (.slice A' out.length c') out.length (byteCells out) ∧ Below w.heap.size w wr) (fun a _ _ => (intOf a).toNat)
  case atStart => exact ⟨9, n, l, A2, c2, rfl, rfl, hn, hf, ⟨rfl, by omega⟩, hown2', hb2⟩
  case round =>
    obtain ⟨f, m, out, A3, c3, rfl, rfl, hm0, hfm, hr, hown3, hb3⟩ := hrel
    have hm : (m : Int) ≤ 18446744073709551615 := hm0
    have hol : out.length ≤ 65600 := by have := hr.2; omega
    clear hm0 hf hown2' hb2
    by_cases h : 128 ≤ m
    · obtain ⟨g, rfl, e, hg⟩ := fit_step f m h hfm
      have R := put_step n l g m out hr e
      have hor := Bitty.u8_or128 ((m : Int) % 128) (by omega) (by omega)
      clear e hr hfm
      go_wp2_with (at_builtin; refine wpList_append_one _ rfl _ _ 22 rfl w.heap.size 5 i0 _ 1 Tryd.underlying22 hi hz0 hz1 hz2 rfl _ out.length (byteCells out) rfl hown3 (.int .u8 ((m : Int) % 128 + 128)) rfl rfl ?d1 ?d2 ?d3 ?_)
      case d1 => unfold maxLen; omega
      case d2 => omega
      case d3 => exact hb3.size
      intro A4 c4 w4 hown4 hb4
      have hb5 := hb3.trans hb4
      have hown5 : w4.ownsRow w.heap.size 5 1 (.slice A4 (out ++ [UInt8.ofNat (m % 128 + 128)]).length c4) (out ++ [UInt8.ofNat (m % 128 + 128)]).length (byteCells (out ++ [UInt8.ofNat (m % 128 + 128)])) := by
        rw [bc_app, bc_one_nat _ (by omega)]
        simpa using hown4
      clear hown3 hb3 hown4 hb4
      go_wp2
      go_roundw
      case rel => exact ⟨g, m / 128, _, A4, c4, by go_num, by simp, by unfold In64; omega, hg, R, hown5, hb5⟩
      case measure => simp [intOf]; omega
    · have E := Lib.hid (put_end n l f m out hr (by omega))
      clear hr hfm
      go_wp2_with (at_builtin; refine wpList_append_one _ rfl _ _ 22 rfl w.heap.size 5 i0 _ 1 Tryd.underlying22 hi hz0 hz1 hz2 rfl _ out.length (byteCells out) rfl hown3 (.int .u8 (m : Int)) rfl rfl ?d4 ?d5 ?d6 ?_)
      case d4 => unfold maxLen; omega
      case d5 => omega
      case d6 => exact hb3.size
      intro A4 c4 w4 hown4 hb4
      have hb5 := hb3.trans hb4
      have hown5 : w4.ownsRow w.heap.size 5 1 (.slice A4 (out.length + 1) c4) (out.length + 1) (byteCells (out ++ [UInt8.ofNat m])) := by
        rw [bc_app, bc_one_nat _ (by omega)]
        exact hown4
      have hlen := Lib.hid (show out.length + 1 = (l ++ vby n).length from by rw [← E.out, List.length_append]; rfl)
      rw [E.out] at hown5
      clear hown3 hb3 hown4 hb4
      go_wp2
      go_ret
      rw [← hlen.out]
      exact ⟨A4, c4, rfl, hown5, hb5⟩
end Go.Proofs.YtghdojiffooilaaDoor.V01
