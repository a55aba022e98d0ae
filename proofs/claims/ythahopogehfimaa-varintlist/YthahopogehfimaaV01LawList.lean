/-
  The walk of VarintList: numbers one behind the other come out again.
-/
import Derived.Test.YthahopogehfimaaV01Alive
import Derived.Deep.QuietTactic
import Derived.BigQuiet
namespace Go.Proofs.Ythahopogehfimaa.V01
open Go.RowKit Go.Lib Go.Proofs.Ythahopogehfimaa.Wd

/-- the bytes of many numbers, one behind the other -/
def cat : List Nat → List UInt8
  | [] => []
  | n :: r => vby n ++ cat r
theorem cat_snoc (l : List Nat) (n : Nat) : cat (l ++ [n]) = cat l ++ vby n := by
  induction l with
  | nil => simp [cat]
  | cons m l ih => simp [cat, ih]
theorem cat_take (l : List Nat) (k : Nat) (h : k < l.length) : cat (l.take k) ++ vby l[k] = cat (l.take (k + 1)) := by
  rw [List.take_succ_eq_append_getElem h, cat_snoc]
theorem cat_drop (l : List Nat) (k : Nat) (h : k < l.length) : cat (l.drop k) = vby l[k] ++ cat (l.drop (k + 1)) := by
  rw [List.drop_eq_getElem_cons h, cat]
theorem cat_len (l : List Nat) : (cat l).length ≤ 10 * l.length := by
  induction l with
  | nil => simp [cat]
  | cons m l ih =>
    have := vsize_le m
    simp only [cat, List.length_append, vby_len, List.length_cons]
    omega
theorem size_same (n : Nat) (w : World) (hn : (n : Int) ≤ 18446744073709551615) :
    Calls Try.prog 13 #[.int .u64 n] w fun e w' => e = .returned (.int .i64 (vsize n)) ∧ w' = w := (size_any n w hn).mono fun _ _ h => ⟨h.1, h.2.symm⟩

set_option maxRecDepth 20000 in
set_option maxHeartbeats 2000000 in
theorem list_law (A : Option Addr) (c : Nat) (l : List Nat) (w : World) (ha : Us w A c l) :
    Calls Try.prog 6 #[.slice A l.length c] w fun e w' => e = .returned (.bool true) ∧ Below w.heap.size w w' := by
  have hlm := Nat.le_trans ha.1.cap ha.1.max
  unfold maxLen at hlm
  by_cases hl : l.length ≤ 100
  · go_enter Try.func6, Try.ntmps6
    go_wp2_with fail
    refine (alive_any _).mono ?_
    rintro e w1 ⟨rfl, hb1⟩
    have ha1 := ha.below hb1
    clear ha
    go_wp2_with fail
    go_loopw [3, 4, 5] (fun b s i wr => ∃ (k : Nat) (A' : Option Addr) (c' : Nat) (bs : List UInt8), i = .int .i64 k ∧ b = .slice A' bs.length c' ∧ s = .int .i64 bs.length ∧ k ≤ l.length ∧ Hid (bs = cat (l.take k)) ∧
        Bs wr A' c' bs ∧ Below w1.heap.size w1 wr) (fun _ _ i _ => l.length - (intOf i).toNat)
    case atStart => exact ⟨0, none, 0, [], rfl, rfl, rfl, by omega, Lib.hid (by simp [cat]), Bs.nil _, Below.refl _ _⟩
    case round =>
      obtain ⟨k, A2, c2, bs, rfl, rfl, rfl, hk, E, hbs, hb2⟩ := hrel
      have hbl : bs.length ≤ 1000 := by
        have h1 := cat_len (l.take k)
        rw [E.out]
        simp only [List.length_take] at h1
        omega
      by_cases hlt : k < l.length
      · obtain ⟨ad, rfl, hcell, hx⟩ := (ha1.below hb2).get hlt
        have hE := cat_take l k hlt
        generalize hX : l[k] = x at hcell hx hE
        have E' := Lib.hid (show bs ++ vby x = cat (l.take (k + 1)) from by rw [← hE, ← E.out])
        have HX := Lib.hid hX
        clear hX hE E
        obtain ⟨r, hr⟩ : ∃ r, bs ++ vby x = r := ⟨_, rfl⟩
        go_wp2_with fail
        refine (put_at A2 c2 _ x bs r x _ hbs rfl rfl hr (by omega) hx).mono ?_
        rintro e w3 ⟨A3, c3, rfl, hown3, hb3⟩
        have hB3 := Bs.own hown3
        have hb3' := hb2.trans (hb3.mono hb2.size)
        have ha3 := ha1.below hb3'
        obtain ⟨ad', had, hcell3, _⟩ := ha3.get hlt
        obtain rfl : ad = ad' := by injection had
        rw [HX.out] at hcell3
        rw [hr] at E'
        have HL := Lib.hid (show bs.length + vsize x = r.length from by rw [← hr, List.length_append, vby_len])
        clear had hown3 hb3 hcell hbs hb2 hr
        have hvx := vsize_le x
        have hsx := size_any x w3 hx
        go_wp2_with fail
        refine hsx.mono ?_
        rintro e w4 ⟨rfl, rfl⟩
        clear hsx
        have HLv := Lib.hid (show Value.int .i64 ((bs.length : Int) + (vsize x : Nat)) = .int .i64 (r.length : Nat) from by rw [← HL.out]; go_num)
        clear HL
        by_cases hk0 : 0 < k
        · obtain ⟨ad', had, hcelly, hy⟩ := ha3.get (k := k - 1) (by omega)
          obtain rfl : ad = ad' := by injection had
          generalize l[k - 1] = y at hcelly hy
          have q1 : (0 : Int) < (k : Int) := by omega
          have q2 : IntKind.i64.wrap ((k : Int) - 1) = (k : Int) - 1 := IntWalk.i64_in _ (by omega)
          have q3 : (0 : Int) ≤ (k : Int) - 1 := by omega
          have q4 : ((k : Int) - 1).toNat = k - 1 := by omega
          have q5 : (k : Int) - 1 < (l.length : Int) := by omega
          clear had
          by_cases hxy : y < x
          · have hs1 : decide (vsize x < vsize y) = false := by have := vsize_mono (Nat.le_of_lt hxy); simp; omega
            go_wp2_with fail
            go_quiet (first | (go_at_call 13; exact Calls.quiet_of_same (size_same _ _ (by assumption))))
            go_wp2
            go_roundw
            case rel => exact ⟨k + 1, A3, c3, r, by go_num, rfl, HLv.out, by omega, E', hB3.drewN _, below_dn hb3' _⟩
            case measure => simp [intOf]; omega
          · have hs1 : decide (y < x) = false := by simp; omega
            have hs2 : decide ((y : Int) < (x : Int)) = false := by simp; omega
            go_wp2_with fail
            go_quiet (fail)
            go_wp2
            go_roundw
            case rel => exact ⟨k + 1, A3, c3, r, by go_num, rfl, HLv.out, by omega, E', hB3.drewN _, below_dn hb3' _⟩
            case measure => simp [intOf]; omega
        · have g1 : decide ((0 : Int) < (k : Int)) = false := by simp; omega
          have g2 : decide (0 < k) = false := by simp; omega
          go_wp2_with fail
          go_quiet (fail)
          go_wp2
          go_roundw
          case rel => exact ⟨k + 1, A3, c3, r, by go_num, rfl, HLv.out, by omega, E', hB3.drewN _, below_dn hb3' _⟩
          case measure => simp [intOf]; omega
      · have E0 := Lib.hid (show bs = cat (l.drop 0) from by rw [E.out, List.take_of_length_le (by omega)]; rfl)
        have hb2' := hb1.trans (hb2.mono hb1.size)
        have har := ha1.below hb2
        clear E hb2 ha1
        go_wp2_with fail
        go_loop [3, 6] (fun b i => ∃ (k : Nat) (A' : Option Addr) (c' : Nat) (bs : List UInt8), i = .int .i64 k ∧ b = .slice A' bs.length c' ∧ k ≤ l.length ∧ Hid (bs = cat (l.drop k)) ∧ Bs wr A' c' bs) (fun _ i => l.length - (intOf i).toNat)
        case atStart => exact ⟨0, A2, c2, bs, rfl, rfl, by omega, E0, hbs⟩
        case round =>
          clear E0 hbs hlt
          obtain ⟨j, A4, c4, cs, rfl, rfl, hj, E, hcs⟩ := hrel
          by_cases hlt : j < l.length
          · obtain ⟨ad, rfl, hcell, hx⟩ := har.get hlt
            have hD := cat_drop l j hlt
            generalize hX : l[j] = x at hcell hx hD
            clear hX
            have G := Lib.hid (show getF 0 0 (nat8 cs) = (x, vsize x, 0) from by rw [E.out, hD, get_put (by omega), vby_len])
            have HN := Lib.hid (show cs.drop (vsize x) = cat (l.drop (j + 1)) from by rw [E.out, hD, ← vby_len, List.drop_left])
            have hle : vsize x ≤ cs.length := by rw [E.out, hD, List.length_append, vby_len]; omega
            have hcl : cs.length ≤ 1000 := by
              have h1 := cat_len (l.drop j)
              rw [E.out]
              simp only [List.length_drop] at h1
              omega
            have hcap := hcs.cap
            have hmax := hcs.max
            unfold maxLen at hmax
            clear hD E
            go_wp2_with fail
            refine (get_at A4 c4 _ cs x (vsize x) 0 _ hcs rfl (by omega) G.out).mono ?_
            rintro e w4 ⟨rfl, rfl⟩
            go_wp2_with (go_at_call 13; refine (size_any x _ hx).mono ?_; rintro e w4 ⟨rfl, rfl⟩)
            go_round
            case rel => exact ⟨j + 1, cutA A4 c4 (vsize x), c4 - vsize x, cs.drop (vsize x), by go_num, by rw [List.length_drop]; rfl, by omega, HN, hcs.drop _ hle⟩
            case measure => simp [intOf]; omega
          · have hcs0 : cs = [] := by rw [E.out, List.drop_eq_nil_of_le (by omega)]; rfl
            subst hcs0
            clear E
            go_wp2
            go_ret
            exact ⟨rfl, hb2'⟩
  · have h1 : (100 : Int) < l.length := by omega
    go_enter Try.func6, Try.ntmps6
    go_wp2_with fail
    refine (alive_any _).mono ?_
    rintro e w1 ⟨rfl, hb1⟩
    go_wp2
    go_ret
    exact ⟨rfl, hb1⟩
end Go.Proofs.Ythahopogehfimaa.V01
