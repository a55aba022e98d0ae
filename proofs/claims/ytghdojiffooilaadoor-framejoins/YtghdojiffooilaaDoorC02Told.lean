/-
  What told, the document's Tail, and Seal do.
-/
import Derived.Test.YtghdojiffooilaaDoorC02Ref
import Derived.Test.YtghdojiffooilaaDoorSame
import Derived.IntWalk
namespace Go.Proofs.YtghdojiffooilaaDoor.C02
open Go.RowKit Go.Lib Go.Proofs.YtghdojiffooilaaDoor.Wd

def ToldRel (l : List UInt8) (k x : Nat) : Prop := toldN (l.take k) = x
/-- eight bits at their place in 32 -/
def sh8 (x k : Nat) : Nat := x * 2 ^ (8 * k)
theorem sh8_lt (x k : Nat) (hx : x < 256) (hk : k ≤ 3) : sh8 x k < 4294967296 := by
  unfold sh8
  have h1 : 2 ^ (8 * k) ≤ 2 ^ 24 := Nat.pow_le_pow_right (by decide) (by omega)
  have h2 : x * 2 ^ (8 * k) ≤ 255 * 2 ^ 24 := Nat.mul_le_mul (by omega) h1
  omega
theorem wrap_sh8 (x k : Nat) (hx : x < 256) (hk : k ≤ 3) : IntKind.u32.wrap ((x : Int) * 2 ^ (8 * k)) = ((sh8 x k : Nat) : Int) := by
  have e : ((x : Int) * 2 ^ (8 * k)) = ((sh8 x k : Nat) : Int) := by unfold sh8; simp
  have := sh8_lt x k hx hk
  rw [e, IntKind.wrap_u32']
  omega
theorem or_sh8 (x b k : Nat) (hb : b < 256) (hk : k ≤ 3) (hx : x < 2 ^ (8 * k)) : bits .or .u32 (x : Int) ((sh8 b k : Nat) : Int) = ((x + sh8 b k : Nat) : Int) := by
  have hs := sh8_lt b k hb hk
  have hp : (2 : Nat) ^ (8 * k) ≤ 2 ^ 24 := Nat.pow_le_pow_right (by decide) (by omega)
  rw [u32_or_nat x (sh8 b k) (by omega) (by omega), Nat.or_comm, nat_join (8 * k) (sh8 b k) x (by unfold sh8; exact Nat.mul_mod_left _ _) hx, Nat.add_comm]
theorem told_lt (l : List UInt8) (k x : Nat) (h : ToldRel l k x) (hk : k ≤ l.length) : x < 2 ^ (8 * k) := by
  unfold ToldRel at h
  have := toldN_lt (l.take k)
  rw [h, List.length_take, Nat.min_eq_left hk] at this
  exact this
theorem told_step (l : List UInt8) (k x : Nat) (h : ToldRel l k x) (hk : k < l.length) : ToldRel l (k + 1) (x + sh8 l[k].toNat k) := by
  unfold ToldRel at *
  rw [List.take_add_one, List.getElem?_eq_getElem hk]
  show toldN (l.take k ++ [l[k]]) = _
  rw [toldN_snoc, h, List.length_take, Nat.min_eq_left (by omega)]
  rfl
theorem told_end (l : List UInt8) (x : Nat) (h : ToldRel l l.length x) : x = toldN l := by
  unfold ToldRel at h
  rw [List.take_length] at h
  exact h.symm

set_option maxRecDepth 20000 in
set_option maxHeartbeats 400000 in
theorem told_at (A : Option Addr) (c : Nat) (l : List UInt8) (r : Nat) (w : World) (ha : Bs w A c l) (hlen : l.length = 4) (hr : toldN l = r) :
    Calls Tryd.prog 23 #[.slice A 4 c] w fun e w' => e = .returned (.int .u32 (r : Nat)) ∧ w = w' := by
  go_enter Tryd.func23, Tryd.ntmps23
  go_wp2
  go_loop [3, 8] (fun a i => ∃ k x : Nat, a = .int .u32 (x : Int) ∧ i = .int .i64 (k : Int) ∧ k ≤ 4 ∧ ToldRel l k x) (fun _ i => 4 - (intOf i).toNat)
  case atStart => exact ⟨0, 0, rfl, rfl, by omega, rfl⟩
  case round =>
    obtain ⟨k, x, rfl, rfl, hk, hr0⟩ := hrel
    by_cases h : k < 4
    · obtain ⟨ad, rfl, hcell⟩ := ha.get (k := k) (by omega)
      have R := told_step l k x hr0 (by omega)
      have hx := told_lt l k x hr0 (by omega)
      have hb := u8_lt l[k]
      obtain ⟨b, hbe⟩ : ∃ b, l[k].toNat = b := ⟨_, rfl⟩
      rw [hbe] at hcell R hb
      have hx2 : (x : Int) ≤ 4294967295 := by
        have hp : (2 : Nat) ^ (8 * k) ≤ 2 ^ 24 := Nat.pow_le_pow_right (by decide) (by omega)
        omega
      have hw := wrap_sh8 b k hb (by omega)
      rw [IntKind.wrap_u32'] at hw
      have ho := or_sh8 x b k hb (by omega) hx
      clear hr0 hbe hx
      go_wp2
      go_round
      case rel => exact ⟨k + 1, _, rfl, by go_num, by omega, R⟩
      case measure => simp [intOf]; omega
    · have hkl : k = l.length := by omega
      have hk4 : k = 4 := by omega
      rw [hkl] at hr0
      have E := Lib.hid (told_end l x hr0)
      subst hk4
      clear hr0 hkl
      go_wp2
      go_ret
      exact ⟨ret_int (by rw [← hr, ← E.out]), rfl⟩

theorem tail_cells (m : Nat) (h : (m : Int) ≤ 4294967295) : byteCells (tail4 m) = [Value.int .u8 ((m : Int) % 256), .int .u8 ((m : Int) / 256 % 256), .int .u8 ((m : Int) / 65536 % 256), .int .u8 ((m : Int) / 16777216)] := by
  simp only [byteCells, tail4, List.map_cons, List.map_nil]
  rw [ofNat_toNat _ (by omega), ofNat_toNat _ (by omega), ofNat_toNat _ (by omega), ofNat_toNat _ (by omega)]
  simp
set_option maxRecDepth 20000 in
theorem tail_at (m : Nat) (w : World) (hm : (m : Int) ≤ 4294967295) :
    Calls Tryd.prog 17 #[.int .u32 m] w fun e w' => ∃ A', e = .returned (.slice A' 4 4) ∧ Bs w' A' 4 (tail4 m) ∧ Below w.heap.size w w' := by
  have hc := tail_cells m hm
  have h1 : (m : Int) / 16777216 % 256 = (m : Int) / 16777216 := by omega
  go_enter Tryd.func17, Tryd.ntmps17
  go_wp2
  go_ret
  refine ⟨_, rfl, Bs.lit _ _ _ (tail4 m) ?_ (by simp [tail4]), (Below.refl _ _).alloc (Nat.le_refl _) _⟩
  rw [hc]

set_option maxRecDepth 20000 in
set_option maxHeartbeats 1000000 in
theorem seal_at (A : Option Addr) (c len : Nat) (l r : List UInt8) (w : World) (hT : Tb w) (ha : Bs w A c l) (hlen : l.length = len) (hl : len ≤ 65000) (hr : l ++ tail4 (sumOf l) = r) :
    Calls Tryd.prog 21 #[.slice A len c] w fun e w' =>
      ∃ A' c', e = .returned (.slice A' r.length c') ∧ w'.ownsRow w.heap.size 5 1 (.slice A' r.length c') r.length (byteCells r) ∧ Below w.heap.size w w' := by
  obtain ⟨i0, hi, hz0, hz1, hz2⟩ := info_parts byte_info
  subst hlen
  have hm := sumOf_lt l
  have hs := sum_at A c l.length l (sumOf l) w hT ha rfl (by omega) rfl
  obtain ⟨m, hme⟩ : ∃ m, sumOf l = m := ⟨_, rfl⟩
  rw [hme] at hs hm hr
  have hrl : r.length = l.length + 4 := by rw [← hr]; simp [tail4]
  have hc := tail_cells m (by omega)
  have h1 : (m : Int) / 16777216 % 256 = (m : Int) / 16777216 := by omega
  have HR := Lib.hid hr
  have HM := Lib.hid hrl
  clear hme hr hrl
  go_enter Tryd.func21, Tryd.ntmps21
  go_wp2_with fail
  refine hs.mono ?_
  rintro e w1 ⟨rfl, rfl⟩
  clear hs
  go_wp2_with (first
    | (at_make; refine wpList_make_own _ rfl _ _ 22 rfl w.heap.size 5 i0 _ 1 Tryd.underlying22 hi hz0 hz1 _ _ _ (l.length + 4) rfl rfl ?c1 ?c2 ?c3 ?c4 ?_))
  case c1 => omega
  case c2 => rw [hz2]; omega
  case c3 => unfold maxLen; omega
  case c4 => exact Nat.le_refl _
  intro w1 hown1 hg1
  have hb1 : Below w.heap.size w w1 := (Below.refl _ _).grown hg1 (Nat.le_refl _) (by simp)
  have ha1 := ha.below hb1
  go_wp2_with (at_builtin; refine wpList_append_rd _ rfl (.tmp 11) (.tmp 12) 22 rfl w.heap.size 5 i0 _ 1 1 Tryd.underlying22 hi hz0 hz1 hz2 rfl (by decide) _ 0 [] rfl hown1 A l.length c (byteCells l) rfl ha1 (bc_one l) ?d1 ?d2 ?d3 ?_)
  case d1 => unfold maxLen; omega
  case d2 => omega
  case d3 => exact hb1.size
  intro A2 c2 w2 hown2 hg2
  have hb2 : Below w.heap.size w w2 := hb1.grown hg2 hb1.size (fun k hk => (hown1.lt k hk).1)
  have hown2' : w2.ownsRow w.heap.size 5 1 (.slice A2 l.length c2) l.length (byteCells l) := by simpa using hown2
  clear hown1 hg1 hown2 hg2 ha1 hb1 ha hT
  obtain ⟨w3, hw3⟩ : ∃ w3, w2.alloc (.cells #[.int .u8 ((m : Int) % 256), .int .u8 ((m : Int) / 256 % 256), .int .u8 ((m : Int) / 65536 % 256), .int .u8 ((m : Int) / 16777216)] 5) = w3 := ⟨_, rfl⟩
  have hb3 : Below w.heap.size w w3 := by rw [← hw3]; exact hb2.alloc hb2.size _
  have hown3 : w3.ownsRow w.heap.size 5 1 (.slice A2 l.length c2) l.length (byteCells l) := by rw [← hw3]; exact hown2'.alloc _
  have hlit : Bs w3 (some ⟨w2.heap.size, 0, none⟩) 4 (tail4 m) := by rw [← hw3]; exact Bs.lit w2 5 _ (tail4 m) (by rw [hc]) (by simp [tail4])
  have HW := Lib.hid hw3
  clear hown2' hb2 hw3
  go_wp2_with (at_builtin; rw [HW.out]; refine wpList_append_rd _ rfl (.tmp 14) (.tmp 26) 22 rfl w.heap.size 5 i0 _ 1 1 Tryd.underlying22 hi hz0 hz1 hz2 rfl (by decide) _ l.length (byteCells l) rfl hown3 _ 4 4 (byteCells (tail4 m)) rfl hlit (bc_one _) ?f1 ?f2 ?f3 ?_)
  case f1 => unfold maxLen; omega
  case f2 => omega
  case f3 => exact hb3.size
  intro A4 c4 w4 hown4 hg4
  have hb4 : Below w.heap.size w w4 := hb3.grown hg4 hb3.size (fun k hk => (hown3.lt k hk).1)
  have hown5 : w4.ownsRow w.heap.size 5 1 (.slice A4 (l.length + 4) c4) (l.length + 4) (byteCells r) := by rw [← HR.out, bc_app, hc]; exact hown4
  clear hown4 hg4 hb3 hown3 hlit
  go_wp2
  go_ret
  rw [HM.out]
  exact ⟨A4, c4, rfl, hown5, hb4⟩
end Go.Proofs.YtghdojiffooilaaDoor.C02
