/-
  What the document's Find does.
  What the document's Get does.
  What the document's Read of a table does.
-/
import Derived.Test.YtndcdidepdcmnaaKS05Bytes
import Derived.Test.YtndcdidepdcmnaaKV01Get
import Derived.Deep.QuietTactic
import Derived.BigQuiet
import Derived.Test.YtndcdidepdcmnaaKS05Read
section
namespace Go.Proofs.Ytndcdidepdcmnaa.S05
open Go.RowKit Go.Lib Go.Maps Go.Proofs.Ytndcdidepdcmnaa.Wd Go.Proofs.Ytndcdidepdcmnaa.V01

theorem find_first (L : List ByteArray) (s : ByteArray) (k : Nat) (hk : k < L.length) (h : ∀ j (hj : j < L.length), j < k → L[j] ≠ s) (he : L[k] = s) : s ∈ L ∧ ix L s = k := by
  have hm : s ∈ L := he ▸ List.getElem_mem hk
  refine ⟨hm, ?_⟩
  have h1 : ix L s ≤ k := by
    rcases Nat.lt_or_ge k (ix L s) with h2 | h2
    · exact absurd he (by have := List.not_of_lt_findIdx (p := fun x => decide (x = s)) h2; simpa using this)
    · exact h2
  rcases Nat.lt_or_ge (ix L s) k with h2 | h2
  · exact absurd (ix_get hm) (h _ (ix_lt hm) h2)
  · omega
def FRel (L : List ByteArray) (s : ByteArray) (k : Nat) : Prop := ∀ j (hj : j < L.length), j < k → L[j] ≠ s
theorem f_step (L : List ByteArray) (s : ByteArray) (k : Nat) (hk : k < L.length) (h : FRel L s k) (hn : L[k] ≠ s) : FRel L s (k + 1) := fun j hj hl => by
  by_cases e : j = k
  · subst e; exact hn
  · exact h j hj (by omega)
theorem f_end (L : List ByteArray) (s : ByteArray) (k : Nat) (hk : L.length ≤ k) (h : FRel L s k) : s ∉ L := fun hm => by
  obtain ⟨i, hi, he⟩ := List.getElem_of_mem hm
  exact h i hi (by omega) he

set_option maxRecDepth 20000 in
set_option maxHeartbeats 1000000 in
theorem find_any (A : Option Addr) (c len : Nat) (L : List ByteArray) (s : ByteArray) (w : World) (h : Ss w A c L) (hlen : L.length = len) :
    Calls Try.prog 31 #[.slice A len c, .string s] w fun e w' => ∃ z : Int, e = .returned (.int .i64 z) ∧ w = w' ∧ (s ∈ L → z = ix L s) ∧ (s ∉ L → z = -1) := by
  have hcap := h.cap
  have hmax := h.max
  unfold maxLen at hmax
  rw [hlen] at hcap
  have HL := Lib.hid hlen
  clear hlen
  go_enter Try.func31, Try.ntmps31
  go_wp2
  go_loop [5] (fun i => ∃ k : Nat, i = .int .i64 k ∧ k ≤ len ∧ FRel L s k) (fun i => len - (RowKit.intOf i).toNat)
  case atStart => exact ⟨0, rfl, by omega, fun _ _ h => by omega⟩
  case round =>
    obtain ⟨k, rfl, hk, hR⟩ := hrel
    by_cases hkn : k < len
    · have hkL : k < L.length := by rw [HL.out]; exact hkn
      obtain ⟨ad, rfl, hc⟩ := h.get hkL
      obtain ⟨x, hx⟩ : ∃ x, L[k] = x := ⟨_, rfl⟩
      rw [hx] at hc
      by_cases he : x = s
      · have F := Lib.hid (find_first L s k hkL hR (by rw [hx]; exact he))
        have hb := eq_tl he
        clear hR
        have HX := Lib.hid hx
        have HE := Lib.hid he
        clear hx he h
        go_wp2
        go_ret
        exact ⟨_, rfl, rfl, fun _ => by rw [F.out.2], fun hn => absurd F.out.1 hn⟩
      · have R := f_step L s k hkL hR (by rw [hx]; exact he)
        have hb := ne_tl he
        have HX := Lib.hid hx
        clear hx hR h
        go_wp2
        go_round
        case rel => exact ⟨k + 1, by go_num, by omega, R⟩
        case measure => simp [RowKit.intOf]; omega
    · have F := Lib.hid (f_end L s k (by rw [HL.out]; omega) hR)
      clear hR h
      go_wp2
      go_ret
      exact ⟨_, rfl, rfl, fun hm => absurd hm F.out, fun _ => rfl⟩
end Go.Proofs.Ytndcdidepdcmnaa.S05
end

section
namespace Go.Proofs.Ytndcdidepdcmnaa.V01
open Go.RowKit Go.Lib Go.Proofs.Ytndcdidepdcmnaa.Wd

/-- what the document's power is behind so many bytes: above the ninth it is not asked for -/
def PowRel (k pw : Nat) : Prop := k ≤ 9 → pw = 2 ^ (7 * k)
theorem pow_at (k pw : Nat) (h : PowRel k pw) (hk : k ≤ 9) : pw ≤ 9223372036854775808 := by
  rw [h hk]
  have : (2 : Nat) ^ (7 * k) ≤ 2 ^ 63 := Nat.pow_le_pow_right (by decide) (by omega)
  omega
theorem pow_next (k pw : Nat) (h : PowRel k pw) : ∃ q : Nat, IntKind.u64.wrap ((pw : Int) * 128) = (q : Int) ∧ In64 q ∧ PowRel (k + 1) q := by
  refine ⟨pw * 128 % 18446744073709551616, ?_, by unfold In64; omega, fun hk => ?_⟩
  · rw [IntKind.wrap_u64]; omega
  · rw [h (by omega), show 7 * (k + 1) = 7 * k + 7 by omega, Nat.pow_add]
    have : (2 : Nat) ^ (7 * k) ≤ 2 ^ 56 := Nat.pow_le_pow_right (by decide) (by omega)
    omega
theorem mul_pow (x k pw : Nat) (h : PowRel k pw) (hk : k ≤ 9) : x % 128 * pw = Bitty.sh7 x k := by rw [h hk]; rfl

set_option maxRecDepth 20000 in
set_option maxHeartbeats 1000000 in
theorem refget_same (A : Option Addr) (c : Nat) (l : List UInt8) (w : World) (ha : Bs w A c l) (hl : l.length ≤ 65536) :
    Calls Try.prog 37 #[.slice A l.length c] w fun e w' =>
      e = .returned (.tuple #[.int .u64 (getF 0 0 (nat8 l)).1, .int .i64 (getF 0 0 (nat8 l)).2.1, .int .i64 (getF 0 0 (nat8 l)).2.2]) ∧ w = w' := by
  go_enter Try.func37, Try.ntmps37
  go_wp2
  go_loop [5, 6, 7] (fun a p i => ∃ k acc pw : Nat, i = .int .i64 k ∧ a = .int .u64 acc ∧ p = .int .u64 pw ∧ k ≤ l.length ∧ In64 acc ∧ In64 pw ∧ PowRel k pw ∧ GetRel l k acc) (fun _ _ i => l.length - (intOf i).toNat)
  case atStart => exact ⟨0, 0, 1, rfl, rfl, rfl, by omega, by unfold In64; omega, by unfold In64; omega, fun _ => rfl, by omega, by simp, by simp⟩
  case round =>
    obtain ⟨k, acc, pw, rfl, rfl, rfl, hk, hacc0, hpw0, hp, hr⟩ := hrel
    have hacc : (acc : Int) ≤ 18446744073709551615 := hacc0
    have hpw : (pw : Int) ≤ 18446744073709551615 := hpw0
    have hk10 : k ≤ 10 := hr.1
    clear hacc0 hpw0
    by_cases hlt : k < l.length
    · obtain ⟨ad, rfl, hcell⟩ := ha.get hlt
      have hx : l[k].toNat < 256 := l[k].toNat_lt
      generalize hX : l[k].toNat = x at hcell hx
      have HX := Lib.hid hX
      clear hX
      by_cases h10 : k = 10
      · subst h10
        simp only [Addr.add, show ¬ (10 : Nat) = 0 by decide, if_false] at hcell
        have G := Lib.hid (get_long l acc hr hlt)
        clear hr hp
        go_wp2
        go_ret3
        rw [G.out]
        exact ⟨rfl, rfl⟩
      · have hk9 : k ≤ 9 := by omega
        have b10 : ((k : Int) == 10) = false := beq_eq_false_iff_ne.2 (by omega)
        clear h10
        have hpa := pow_at k pw hp hk9
        have hmp := mul_pow x k pw hp hk9
        have hsum : k ≤ 8 → acc + Bitty.sh7 x k ≤ 18446744073709551615 := fun h8 => by
          have h1 := hr.2.1
          have h2 : (2 : Nat) ^ (7 * k) ≤ 2 ^ 56 := Nat.pow_le_pow_right (by decide) (by omega)
          have h3 := Bitty.sh7_lt x k h8
          omega
        have hsum9 : k = 9 → x % 128 < 2 → acc + Bitty.sh7 x k ≤ 18446744073709551615 := fun h9 hx2 => by
          subst h9
          have h1 := hr.2.1
          unfold Bitty.sh7
          omega
        by_cases hbad : k = 9 ∧ 2 ≤ x % 128
        · obtain ⟨rfl, h2⟩ := hbad
          simp only [Addr.add, show ¬ (9 : Nat) = 0 by decide, if_false] at hcell
          have G := Lib.hid (get_great l acc x hr hlt HX.out h2)
          have h2' : (1 : Int) < (x : Int) % 128 := by omega
          clear hr hp hmp hsum hsum9
          go_wp2
          go_ret3
          rw [G.out]
          exact ⟨rfl, rfl⟩
        · have hS : acc + Bitty.sh7 x k ≤ 18446744073709551615 := by
            by_cases h8 : k ≤ 8
            · exact hsum h8
            · exact hsum9 (by omega) (by omega)
          clear hsum hsum9
          have f2 : IntKind.u64.wrap ((x : Int) % 128 * (pw : Int)) = ((Bitty.sh7 x k : Nat) : Int) := by
            rw [← hmp]
            have : (x : Int) % 128 * (pw : Int) = ((x % 128 * pw : Nat) : Int) := by simp
            rw [this, IntWalk.u64_in _ (by rw [hmp]; omega)]
          have hbad' : ¬ ((k : Int) = 9 ∧ 2 ≤ (x : Int) % 128) := by omega
          obtain ⟨q, hq, hq64, hqp⟩ := pow_next k pw hp
          have R := Lib.hid hr
          clear hr hp hmp
          by_cases h128 : 128 ≤ x
          · have N := get_next l k acc x R.out hlt (by omega) (by omega) HX.out h128
            by_cases h9 : k = 9
            · have hx2 : (x : Int) % 128 ≤ 1 := by omega
              subst h9
              clear b10 hbad hbad'
              simp only [Addr.add, show ¬ (9 : Nat) = 0 by decide, if_false] at hcell
              go_wp2
              go_round
              case rel => exact ⟨10, _, q, by go_num, rfl, rfl, by omega, by unfold In64; omega, hq64, hqp, N⟩
              case measure => simp [intOf]; omega
            · have b9 : ((k : Int) == 9) = false := beq_eq_false_iff_ne.2 (by omega)
              go_wp2
              go_round
              case rel => exact ⟨k + 1, _, q, by go_num, rfl, rfl, by omega, by unfold In64; omega, hq64, hqp, N⟩
              case measure => simp [intOf]; omega
          · have hx1 : x < 128 := by omega
            by_cases h9 : k = 9
            · have hx2 : (x : Int) % 128 ≤ 1 := by omega
              subst h9
              clear b10 hbad'
              simp only [Addr.add, show ¬ (9 : Nat) = 0 by decide, if_false] at hcell
              by_cases hz : x = 0
              · have bz : ((x : Int) == 0) = true := beq_iff_eq.2 (by omega)
                have G := Lib.hid (get_bad0 l 9 acc R.out (by omega) hlt (by rw [HX.out]; omega) (by omega))
                clear hz
                go_wp2
                go_ret3
                rw [G.out]
                exact ⟨rfl, rfl⟩
              · have bz : ((x : Int) == 0) = false := beq_eq_false_iff_ne.2 (by omega)
                have G := Lib.hid (get_done l 9 acc x R.out (by omega) hlt HX.out (by omega) (by omega) (by omega))
                clear hz
                go_wp2
                go_ret3
                rw [G.out]
                exact ⟨ret3 (by simp) (by simp) (by simp), rfl⟩
            · have b9 : ((k : Int) == 9) = false := beq_eq_false_iff_ne.2 (by omega)
              by_cases hz : x = 0 ∧ 0 < k
              · have bz : ((x : Int) == 0) = true := beq_iff_eq.2 (by omega)
                have hk0 : 0 < k := hz.2
                have G := Lib.hid (get_bad0 l k acc R.out (by omega) hlt (by rw [HX.out]; omega) (by omega))
                clear hz
                go_wp2
                go_ret3
                rw [G.out]
                exact ⟨rfl, rfl⟩
              · have G := Lib.hid (get_done l k acc x R.out (by omega) hlt HX.out (by omega) (by omega) (by omega))
                by_cases hk0 : 0 < k
                · have bz : ((x : Int) == 0) = false := beq_eq_false_iff_ne.2 (by omega)
                  clear hz
                  go_wp2
                  go_ret3
                  rw [G.out]
                  exact ⟨ret3 (by simp) (by simp) (by simp), rfl⟩
                · clear hz
                  go_wp2
                  go_ret3
                  rw [G.out]
                  exact ⟨ret3 (by simp) (by simp) (by simp), rfl⟩
    · have G := Lib.hid (get_short l k acc hr hlt)
      clear hr hp
      go_wp2
      go_ret3
      rw [G.out]
      exact ⟨rfl, rfl⟩
theorem refget_any (A : Option Addr) (c : Nat) (l : List UInt8) (w : World) (ha : Bs w A c l) (hl : l.length ≤ 65536) :
    Calls Try.prog 37 #[.slice A l.length c] w fun e w' =>
      e = .returned (.tuple #[.int .u64 (getF 0 0 (nat8 l)).1, .int .i64 (getF 0 0 (nat8 l)).2.1, .int .i64 (getF 0 0 (nat8 l)).2.2]) ∧ Below w.heap.size w w' :=
  (refget_same A c l w ha hl).mono fun _ _ ⟨he, hw⟩ => ⟨he, hw ▸ Below.refl _ _⟩
end Go.Proofs.Ytndcdidepdcmnaa.V01
end

section
namespace Go.Proofs.Ytndcdidepdcmnaa.S05
open Go.RowKit Go.Lib Go.Maps Go.Proofs.Ytndcdidepdcmnaa.Wd Go.Proofs.Ytndcdidepdcmnaa.V01

theorem rget_at (A : Option Addr) (c len : Nat) (l : List UInt8) (n k e : Nat) (w : World) (ha : Bs w A c l) (hlen : l.length = len) (hl : len ≤ 65536) (hg : getF 0 0 (nat8 l) = (n, k, e)) :
    Calls Try.prog 37 #[.slice A len c] w fun x w' => x = .returned (.tuple #[.int .u64 n, .int .i64 k, .int .i64 e]) ∧ w = w' := by
  subst hlen
  have := refget_same A c l w ha hl
  rw [hg] at this
  exact this
/-- what the document's Read told -/
def Told2 (w w' : World) (x : Ending) (r : List ByteArray × Nat × Nat) : Prop :=
  (r.2.2 ≠ 0 ∧ x = .returned (.tuple #[.slice none 0 0, .int .i64 0, .int .i64 r.2.2])) ∨
  (r.2.2 = 0 ∧ ∃ A c, x = .returned (.tuple #[.slice A r.1.length c, .int .i64 r.2.1, .int .i64 0]) ∧ w'.ownsRow w.heap.size 9 1 (.slice A r.1.length c) r.1.length (sc r.1))

set_option maxRecDepth 20000 in
set_option maxHeartbeats 4000000 in
theorem refread_any (A : Option Addr) (c len : Nat) (l : List UInt8) (w : World) (ha : Bs w A c l) (hlen : l.length = len) (hl : len ≤ 65536) :
    Calls Try.prog 36 #[.slice A len c] w fun x w' => Told2 w w' x (readF l) ∧ Below w.heap.size w w' := by
  obtain ⟨i0, hi, hz0, hz1, hz2⟩ := info_parts text_info
  obtain ⟨n, q, e1, hg⟩ : ∃ m q e1, getF 0 0 (nat8 l) = (m, q, e1) := ⟨_, _, _, rfl⟩
  have hbd := get_bd hg
  rw [hlen] at hbd
  have hget := rget_at A c len l n q e1 w ha hlen hl hg
  by_cases he1 : e1 = 0
  · subst he1
    by_cases h1 : 4096 < n
    · rw [read_great hg h1]
      have hni : (4096 : Int) < (n : Int) := by omega
      clear hg
      go_enter Try.func36, Try.ntmps36
      go_wp2_with fail
      refine hget.mono ?_
      rintro e w1 ⟨rfl, rfl⟩
      go_wp2
      go_returns
      exact ⟨.inl ⟨by simp, rfl⟩, Below.refl _ _⟩
    · have R0 := r_start hg h1
      have hc := ha.cap
      rw [hlen] at hc
      clear hg
      go_enter Try.func36, Try.ntmps36
      go_wp2_with fail
      refine hget.mono ?_
      rintro e w1 ⟨rfl, rfl⟩
      go_wp2_with fail
      go_loopw [6, 8, 9] (fun v t i wr => ∃ (u k : Nat) (L : List ByteArray) (A' : Option Addr) (c' : Nat), v = .int .i64 (u : Nat) ∧ t = .slice A' k c' ∧ i = .int .i64 (k : Nat) ∧ RRel l n k u L ∧ wr.ownsRow w.heap.size 9 1 (.slice A' k c') k (sc L) ∧ Below w.heap.size w wr) (fun _ _ i _ => n - (RowKit.intOf i).toNat)
      case atStart => exact ⟨q, 0, [], none, 0, rfl, rfl, rfl, R0, World.ownsRow_nil _ _ _ _, Below.refl _ _⟩
      case round =>
        obtain ⟨u, k, L, A2, c2, rfl, rfl, rfl, R, hown, hb⟩ := hrel
        have hu : u ≤ len := by rw [← hlen]; exact R.2.2.1
        have hkn : k ≤ n := R.2.2.2
        have hLk := R.2.1
        have har := ha.below hb
        by_cases hk : k < n
        · obtain ⟨m, j, er, hg⟩ : ∃ m j er, getF 0 0 (nat8 (l.drop u)) = (m, j, er) := ⟨_, _, _, rfl⟩
          have hB := (har.drop u (by omega))
          have hdl : (l.drop u).length = len - u := by rw [List.length_drop, hlen]
          have hgb := get_bd hg
          rw [hdl] at hgb
          have q1 : (0 : Int) ≤ (u : Int) := by omega
          have q2 : (u : Int) ≤ (len : Int) := by omega
          have q3 : (u : Int) ≤ (c : Int) := by omega
          have hcall := rget_at _ _ _ _ m j er wr hB hdl (by omega) hg
          unfold cutA at hcall
          by_cases hcu : c = u
          · have hnil : l.drop u = [] := List.drop_eq_nil_of_le (by omega)
            have hn0 : getF 0 0 (nat8 (l.drop u)) = (0, 0, 10) := by rw [hnil]; simp [nat8, getF]
            have HR := Lib.hid (r_bad R hk (rt_err (L := L) hn0 (by omega)) (by omega))
            rw [hn0] at hg
            cases hg
            subst hcu
            rw [if_pos rfl, Nat.sub_self, show len - c = 0 by omega] at hcall
            clear R R0 hn0 hB hdl ha har hnil hown
            go_wp2_with fail
            refine hcall.mono ?_
            rintro e w2 ⟨rfl, rfl⟩
            go_wp2
            go_returns
            rw [HR.out]
            exact ⟨.inl ⟨by simp, rfl⟩, hb⟩
          · rw [if_neg hcu] at hcall
            by_cases her : er = 0
            · subst her
              by_cases h4 : 4096 < m
              · have HR := Lib.hid (r_bad R hk (rt_great (L := L) hg h4) (by omega))
                have hni : (4096 : Int) < (m : Int) := by omega
                clear R R0 hg hB hdl ha har hown
                go_wp2_with fail
                refine hcall.mono ?_
                rintro e w2 ⟨rfl, rfl⟩
                go_wp2
                go_returns
                rw [HR.out]
                exact ⟨.inl ⟨by simp, rfl⟩, hb⟩
              · by_cases h5 : (l.drop u).length < j + m
                · have HR := Lib.hid (r_bad R hk (rt_short (L := L) hg h4 h5) (by omega))
                  rw [hdl] at h5
                  have hni : (len : Int) - ((u : Int) + j) < m := by omega
                  clear R R0 hg hB hdl ha har hown
                  go_wp2_with fail
                  refine hcall.mono ?_
                  rintro e w2 ⟨rfl, rfl⟩
                  go_wp2
                  go_returns
                  rw [HR.out]
                  exact ⟨.inl ⟨by simp, rfl⟩, hb⟩
                · have hcut := cut_conv har (u + j) m (by omega)
                  have hdd : (l.drop u).drop j = l.drop (u + j) := by rw [List.drop_drop]
                  have hz : (str ((l.drop (u + j)).take m)).size ≤ 4096 := by rw [str_size, List.length_take]; omega
                  have hS : Ss wr A2 c2 L := Ss.own (by rw [hLk]; exact hown)
                  have hfind := find_any A2 c2 k L (str ((l.drop (u + j)).take m)) wr hS hLk
                  have hG := fun hi => r_bad R hk (rt_twice (L := L) hg h4 h5 hi) (by omega)
                  have hN := fun hi => r_next R hk (rt_ok (L := L) hg h4 h5 hi)
                  rw [hdd] at hG hN
                  obtain ⟨T, hT⟩ : ∃ T, str ((l.drop (u + j)).take m) = T := ⟨_, rfl⟩
                  rw [hT] at hcut hfind hz hG hN
                  rw [hdl] at h5
                  have p1 : (0 : Int) ≤ (u : Int) + j := by omega
                  have p2 : (u : Int) + j ≤ (u : Int) + j + m := by omega
                  have p3 : (u : Int) + j + m ≤ (c : Int) := by omega
                  have p4 : ¬ ((len : Int) - ((u : Int) + j) < m) := by omega
                  have HG := Lib.hid hG
                  have HN := Lib.hid hN
                  have HL := Lib.hid hLk
                  by_cases hcj : c = u + j
                  · have hm0 : m = 0 := by omega
                    subst hm0
                    have hcv := conv_zero A 0 wr
                    have hTe : ByteArray.empty = T := by rw [← hT]; rfl
                    rw [hTe] at hcv
                    clear hTe
                    subst hcj
                    rw [Nat.add_sub_cancel_left] at hcall
                    clear hcut hT R R0 hg hB hdl ha har hG hN hLk hS
                    by_cases hm : T ∈ L
                    · have hzi : (0 : Int) ≤ ix L T := by omega
                      have HX := Lib.hid hm
                      clear hm hown
                      go_wp2_with fail
                      refine hcall.mono ?_
                      rintro e w2 ⟨rfl, rfl⟩
                      go_wp2_with fail
                      refine hfind.mono ?_
                      rintro e w2 ⟨z, rfl, rfl, f1, f2⟩
                      obtain rfl := f1 HX.out
                      clear f1 f2 hfind
                      go_wp2
                      go_returns
                      rw [HG.out HX.out]
                      exact ⟨.inl ⟨by simp, rfl⟩, hb⟩
                    · have HX := Lib.hid hm
                      clear hm
                      go_wp2_with fail
                      refine hcall.mono ?_
                      rintro e w2 ⟨rfl, rfl⟩
                      go_wp2_with fail
                      refine hfind.mono ?_
                      rintro e w2 ⟨z, rfl, rfl, f1, f2⟩
                      obtain rfl := f2 HX.out
                      clear f1 f2 hfind
                      go_wp2_with (at_builtin; refine wpList_append_one wr rfl (.tmp 66) (.tmp 68) 69 rfl w.heap.size 9 i0 _ 16 Try.underlying69 hi hz0 hz1 hz2 rfl (.slice A2 k c2) k (sc L) rfl hown (.string T) rfl rfl ?d1 ?d2 ?d3 ?_)
                      case d1 => unfold maxLen; omega
                      case d2 => omega
                      case d3 => exact hb.size
                      intro A' c' w2 hown2 hb2
                      have hb3 : Below w.heap.size w w2 := hb.trans hb2
                      clear hown
                      go_wp2
                      go_roundw
                      case rel => exact ⟨u + (j + 0), k + 1, L ++ [T], A', c', by go_num, rfl, by go_num, HN.out HX.out, by rw [sc_app]; exact hown2, hb3⟩
                      case measure => simp [RowKit.intOf]; omega
                  · have hcv := hcut hcj
                    clear hcut hT R R0 hg hB hdl ha har hG hN hLk hS
                    by_cases hm : T ∈ L
                    · have hzi : (0 : Int) ≤ ix L T := by omega
                      have HX := Lib.hid hm
                      clear hm hown
                      go_wp2_with fail
                      refine hcall.mono ?_
                      rintro e w2 ⟨rfl, rfl⟩
                      go_wp2_with fail
                      refine hfind.mono ?_
                      rintro e w2 ⟨z, rfl, rfl, f1, f2⟩
                      obtain rfl := f1 HX.out
                      clear f1 f2 hfind
                      go_wp2
                      go_returns
                      rw [HG.out HX.out]
                      exact ⟨.inl ⟨by simp, rfl⟩, hb⟩
                    · have HX := Lib.hid hm
                      clear hm
                      go_wp2_with fail
                      refine hcall.mono ?_
                      rintro e w2 ⟨rfl, rfl⟩
                      go_wp2_with fail
                      refine hfind.mono ?_
                      rintro e w2 ⟨z, rfl, rfl, f1, f2⟩
                      obtain rfl := f2 HX.out
                      clear f1 f2 hfind
                      go_wp2_with (at_builtin; refine wpList_append_one wr rfl (.tmp 66) (.tmp 68) 69 rfl w.heap.size 9 i0 _ 16 Try.underlying69 hi hz0 hz1 hz2 rfl (.slice A2 k c2) k (sc L) rfl hown (.string T) rfl rfl ?d1 ?d2 ?d3 ?_)
                      case d1 => unfold maxLen; omega
                      case d2 => omega
                      case d3 => exact hb.size
                      intro A' c' w2 hown2 hb2
                      have hb3 : Below w.heap.size w w2 := hb.trans hb2
                      clear hown
                      go_wp2
                      go_roundw
                      case rel => exact ⟨u + (j + m), k + 1, L ++ [T], A', c', by go_num, rfl, by go_num, HN.out HX.out, by rw [sc_app]; exact hown2, hb3⟩
                      case measure => simp [RowKit.intOf]; omega
            · have HR := Lib.hid (r_bad R hk (rt_err (L := L) hg her) her)
              have hne : ¬ ((er : Int) = 0) := by omega
              clear R R0 hg hB hdl ha har hown
              go_wp2_with fail
              refine hcall.mono ?_
              rintro e w2 ⟨rfl, rfl⟩
              go_wp2
              go_returns
              rw [HR.out]
              exact ⟨.inl ⟨her, rfl⟩, hb⟩
        · have E := r_end R hk
          have HE := Lib.hid E
          have HL := Lib.hid hLk
          have hkn' : k = n := by omega
          clear R R0 E ha hLk
          go_wp2
          go_returns
          rw [HE.out]
          refine ⟨.inr ⟨rfl, A2, c2, ?_, by rw [HL.out]; exact hown⟩, hb⟩
          show Ending.returned (.tuple #[.slice A2 k c2, .int .i64 u, .int .i64 0]) = _
          rw [HL.out]
  · rw [read_err hg he1]
    have hne : ¬ ((e1 : Int) = 0) := by omega
    clear hg
    go_enter Try.func36, Try.ntmps36
    go_wp2_with fail
    refine hget.mono ?_
    rintro e w1 ⟨rfl, rfl⟩
    go_wp2
    go_returns
    exact ⟨.inl ⟨he1, rfl⟩, Below.refl _ _⟩
end Go.Proofs.Ytndcdidepdcmnaa.S05
end
