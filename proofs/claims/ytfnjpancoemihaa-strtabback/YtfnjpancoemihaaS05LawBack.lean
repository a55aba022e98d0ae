/-
  The walk of StrtabBack: there and back.
-/
import Derived.Test.YtfnjpancoemihaaS05Side
import Derived.Test.YtfnjpancoemihaaS05Read
namespace Go.Proofs.Ytfnjpancoemihaa.S05
open Go.RowKit Go.Lib Go.Maps Go.Proofs.Ytfnjpancoemihaa.Wd Go.Proofs.Ytfnjpancoemihaa.V01

theorem with_size {M M' : List ByteArray} {s : ByteArray} {q : Nat} (h : with_ M s M') (hM : ∀ x ∈ M, x.size ≤ q) (hs : s.size ≤ q) : ∀ x ∈ M', x.size ≤ q := by
  rcases h with ⟨_, rfl⟩ | ⟨_, rfl⟩
  · exact hM
  · intro x hx
    rcases List.mem_append.1 hx with h1 | h1
    · exact hM x h1
    · simp only [List.mem_singleton] at h1
      rw [h1]; exact hs
theorem tb_len (M : List ByteArray) (k : Nat) (hl : M.length ≤ k) (hk : k ≤ 40) (hz : ∀ s ∈ M, s.size ≤ 200) : (tb M).length ≤ 8410 := by
  have h1 := tx_len 200 M hz
  have h2 := vby_le M.length
  have h3 : M.length * (200 + 10) ≤ 40 * (200 + 10) := Nat.mul_le_mul_right _ (by omega)
  simp only [tb, List.length_append]
  omega

set_option maxRecDepth 20000 in
set_option maxHeartbeats 4000000 in
theorem back_law (A : Option Addr) (c : Nat) (l : List ByteArray) (B : Option Addr) (d : Nat) (b : List UInt8) (t : Int) (w : World) (hS : Ss w A c l) (hz : ∀ s ∈ l, s.size ≤ maxLen) (hB : Bs w B d b) (ht0 : 0 ≤ t) (ht1 : t ≤ 65535) :
    Calls Try.prog 5 #[.slice A l.length c, .slice B b.length d, .int .u16 t] w fun e w' => e = .returned (.bool true) ∧ Below w.heap.size w w' := by
  obtain ⟨i0, hi, hz0, hz1, hz2⟩ := info_parts Wd.byte_info
  have hmax := hS.max
  have hcap := hS.cap
  have hmaxb := hB.max
  have hcapb := hB.cap
  unfold maxLen at hmax hz hmaxb
  obtain ⟨len, hlen⟩ : ∃ n, l.length = n := ⟨_, rfl⟩
  obtain ⟨lb, hlb⟩ : ∃ n, b.length = n := ⟨_, rfl⟩
  rw [hlen] at hcap ⊢
  rw [hlb] at hcapb ⊢
  have HL := Lib.hid hlen
  have HB := Lib.hid hlb
  clear hlen hlb
  go_enter Try.func5, Try.ntmps5
  go_wp2_with fail
  refine (alive_any _).mono ?_
  rintro e w1 ⟨rfl, hb1⟩
  by_cases hl : (40 : Int) < len
  · go_wp2
    go_ret
    exact ⟨rfl, hb1⟩
  by_cases hl2 : (100 : Int) < lb
  · go_wp2
    go_ret
    exact ⟨rfl, hb1⟩
  go_wp2_with fail
  refine (new_any w1).mono ?_
  rintro e w2 ⟨rfl, hT2, hb2⟩
  have N0 : Nw w w2 w1.heap.size [] [w1.heap.size] := ⟨hT2, by simpa using hb1.size, hb1.trans (hb2.mono hb1.size)⟩
  obtain ⟨p, hp⟩ : ∃ p, w1.heap.size = p := ⟨_, rfl⟩
  rw [hp] at N0 ⊢
  clear hb1 hb2 hp hT2
  go_wp2_with fail
  go_loopw [8] (fun i wr => ∃ (k : Nat) (M : List ByteArray) (o : List Nat), i = .int .i64 (k : Nat) ∧ k ≤ len ∧ M.length ≤ k ∧ (∀ s ∈ M, s.size ≤ 200) ∧ Nw w wr p M o) (fun i _ => len - (RowKit.intOf i).toNat)
  case atStart => exact ⟨0, [], _, rfl, by omega, by simp, by simp, N0⟩
  case round =>
    obtain ⟨k, M, o, rfl, hk, hMk, hMz, I⟩ := hrel
    have hb := I.below
    clear N0
    by_cases hkl : k < len
    · have hkL : k < l.length := by rw [HL.out]; exact hkl
      obtain ⟨ad, rfl, hc⟩ := hS.get hkL
      have hzk := hz _ (List.getElem_mem hkL)
      have hblk := World.block_lt_of_cell? _ _ hc
      obtain ⟨s, hs⟩ : ∃ s, l[k] = s := ⟨_, rfl⟩
      rw [hs] at hc hzk
      have hcr := (hb.cell hblk).trans hc
      clear hs hS hz
      by_cases h5 : 200 < s.size
      · have h5i : (200 : Int) < s.size := by omega
        clear I
        go_wp2
        go_ret
        exact ⟨rfl, hb⟩
      · have hput := put_nw w wr p M o s I (by omega) (by omega)
        have HM := Lib.hid hMz
        clear I hMz
        go_wp2_with fail
        refine hput.mono ?_
        rintro e w3 ⟨q, M', o', rfl, I, hw, _, _, _⟩
        have hl' := with_len hw
        have hz' := with_size hw HM.out (by omega)
        have HI := Lib.hid I
        have HZ := Lib.hid hz'
        clear hput I hw hz'
        go_wp2
        go_roundw
        case rel => exact ⟨k + 1, M', o', by go_num, by omega, by omega, HZ.out, HI.out⟩
        case measure => simp [RowKit.intOf]; omega
    · have hby := bytes_tab wr p M o _ I.tab rfl
      have htl := tb_len M k hMk (by omega) hMz
      have htp := tb_pos M
      have hback := read_back M b I.tab.nodup I.tab.len I.tab.size
      have hcut := read_cut M
      have hT0 := I.tab
      obtain ⟨r, hr⟩ : ∃ r, tb M = r := ⟨_, rfl⟩
      rw [hr] at hby htl htp hback
      have hcut2 := fun j (hj : j < r.length) => hcut j I.tab.nodup I.tab.len I.tab.size (by rw [hr]; exact hj)
      rw [hr] at hcut2
      have HR := Lib.hid hr
      clear hcut I hS hz hr
      go_wp2_with fail
      refine hby.mono ?_
      rintro e w3 ⟨A3, c3, rfl, hown3, hb3⟩
      have hB3 := Bs.own hown3
      have bw := hb.trans (hb3.mono hb.size)
      have hT3 := hT0.below hb3
      clear hown3 hb3 hby hT0 hb
      obtain ⟨m, hm⟩ : ∃ m, r.length = m := ⟨_, rfl⟩
      rw [hm] at htl htp hback hcut2 ⊢
      have hb0 : Below w3.heap.size w3 (w3.alloc (.cells #[] 5)) := (Below.refl _ _).alloc (Nat.le_refl _) _
      have hr0 : Rd 1 (w3.alloc (.cells #[] 5)) A3 m c3 (Lib.byteCells r) := by have := hB3.below hb0; unfold Bs at this; rw [hm] at this; exact this
      have HM := Lib.hid hm
      have hc3 : m ≤ c3 := by have := hB3.cap; omega
      clear hm
      go_wp2_with (at_builtin; refine wpList_append_rd _ rfl (.tmp 53) (.tmp 54) 32 rfl w3.heap.size 5 i0 _ 1 1 Try.underlying32 hi hz0 hz1 hz2 rfl (by decide) _ 0 [] rfl (own_empty w3 5) A3 m c3 (Lib.byteCells r) rfl hr0 (bc_one _) ?d1 ?d2 ?d3 ?_)
      case d1 => unfold maxLen; omega
      case d2 => omega
      case d3 => simp
      intro A4 c4 w4 hown4 hg4
      have hb4 : Below w3.heap.size w3 w4 := hb0.grown hg4 (by simp) (by simp [Value.ownBlock])
      have hown4' : w4.ownsRow w3.heap.size 5 1 (.slice A4 m c4) m (Lib.byteCells r) := by simpa using hown4
      have b4 := bw.trans (hb4.mono bw.size)
      have ha4 : Rd 1 w4 B lb d (Lib.byteCells b) := by have := hB.below b4; unfold Bs at this; rw [HB.out] at this; exact this
      clear hown4 hg4 hr0 hb0
      go_wp2_with (at_builtin; refine wpList_append_rd _ rfl (.tmp 55) (.tmp 56) 32 rfl w3.heap.size 5 i0 _ 1 1 Try.underlying32 hi hz0 hz1 hz2 rfl (by decide) _ m (Lib.byteCells r) rfl hown4' B lb d (Lib.byteCells b) rfl ha4 (bc_one _) ?d4 ?d5 ?d6 ?_)
      case d4 => unfold maxLen; omega
      case d5 => omega
      case d6 => exact hb4.size
      intro A5 c5 w5 hown5 hg5
      have hb5 : Below w3.heap.size w3 w5 := hb4.grown hg5 hb4.size (fun k hk => (hown4'.lt k hk).1)
      rw [← bc_app] at hown5
      obtain ⟨q, hq5⟩ : ∃ q, r ++ b = q := ⟨_, rfl⟩
      rw [hq5] at hown5 hback
      have hq5l : q.length = m + lb := by rw [← hq5, List.length_append, HM.out, HB.out]
      have hB5 : Bs w5 A5 c5 q := by refine Bs.own (base := w3.heap.size) (e := 5) ?_; rw [hq5l]; exact hown5
      replace bw := bw.trans (hb5.mono bw.size)
      replace hB3 := hB3.below hb5
      replace hT3 := hT3.below hb5
      clear hown5 hown4' hb4 b4 ha4 hg5 hb5 hq5 hB
      have hrd := read_any A5 c5 (m + lb) q _ hB5 hq5l (by omega)
      rw [hback] at hrd
      clear hB5 hback
      go_wp2_with fail
      refine hrd.mono ?_
      rintro e w6 ⟨hTd, hb6⟩
      rcases hTd with ⟨h, _⟩ | ⟨_, u, ou, rfl, hTu, _⟩
      · exact absurd rfl h
      have hTu : Tab w6 u M ou := hTu
      replace bw := bw.trans (hb6.mono bw.size)
      replace hB3 := hB3.below hb6
      replace hT3 := hT3.below hb6
      obtain ⟨n, hn⟩ : ∃ n, M.length = n := ⟨_, rfl⟩
      have hl1 := len_any w6 u M ou n hTu hn
      have hl2 := len_any w6 p M o n hT3 hn
      have hby := bytes_tab w6 u M ou r hTu HR.out
      rw [HM.out] at hby
      have hnn : n ≤ 40 := by omega
      simp only
      clear hrd hb6 hTu hT3 hn hMk hMz
      go_wp2_with fail
      refine hl1.mono ?_
      rintro e w7 ⟨rfl, rfl⟩
      go_wp2_with fail
      refine hl2.mono ?_
      rintro e w7 ⟨rfl, rfl⟩
      go_wp2_with fail
      refine hby.mono ?_
      rintro e w7 ⟨A7, c7, rfl, hown7, hb7⟩
      have hB7 : Bs w7 A7 c7 r := Bs.own (by rw [HM.out]; exact hown7)
      replace bw := bw.trans (hb7.mono bw.size)
      replace hB3 := hB3.below hb7
      clear hown7 hb7 hby hl1 hl2
      go_wp2_with fail
      refine (bytes_at A7 A3 c7 c3 m m r r true _ hB7 hB3 HM.out HM.out (by simp)).mono ?_
      rintro e w8 ⟨rfl, rfl⟩
      obtain ⟨x, hx, hxm⟩ : ∃ x : Nat, t % (m : Int) = (x : Int) ∧ x < m := ⟨(t % (m : Int)).toNat, by rw [Int.toNat_of_nonneg (Int.emod_nonneg _ (by omega))], by have := Int.emod_lt_of_pos t (show (0 : Int) < m by omega); have := Int.emod_nonneg t (show (m : Int) ≠ 0 by omega); omega⟩
      have p1 : (0 : Int) ≤ (x : Int) := by omega
      have p2 : (x : Int) ≤ (c3 : Int) := by omega
      have hBt := hB3.take x (by rw [HM.out]; omega)
      have hrd2 := read_any A3 c3 x (r.take x) w7 hBt (by rw [List.length_take, HM.out]; omega) (by omega)
      rw [hcut2 x hxm] at hrd2
      clear hcut2 hBt hB3 hB7
      go_wp2_with fail
      refine hrd2.mono ?_
      rintro e w8 ⟨hTd, hb8⟩
      rcases hTd with ⟨_, rfl⟩ | ⟨h, _⟩
      rotate_left
      · cases h
      replace bw := bw.trans (hb8.mono bw.size)
      simp only
      clear hrd2 hb8 hx
      go_wp2_with fail
      refine (put_nil _ _).mono ?_
      rintro e w9 ⟨rfl, rfl⟩
      go_wp2_with fail
      refine (at_nil _).mono ?_
      rintro e w9 ⟨rfl, rfl⟩
      go_wp2_with fail
      refine (len_nil _).mono ?_
      rintro e w9 ⟨rfl, rfl⟩
      go_wp2_with fail
      refine (bytes_nil _).mono ?_
      rintro e w9 ⟨rfl, rfl⟩
      go_wp2
      go_ret
      exact ⟨rfl, bw⟩
end Go.Proofs.Ytfnjpancoemihaa.S05
