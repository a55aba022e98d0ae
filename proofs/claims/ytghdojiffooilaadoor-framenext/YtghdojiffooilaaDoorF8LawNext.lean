/-
  The walk of FrameNext: the frame with which any bytes begin, and that of any body.
-/
import Derived.Test.YtghdojiffooilaaDoorF8Alive
import Derived.Test.YtghdojiffooilaaDoorF8RefN
import Derived.Test.YtghdojiffooilaaDoorF8RefW
namespace Go.Proofs.YtghdojiffooilaaDoor.F08
open Go.RowKit Go.Lib Go.Proofs.YtghdojiffooilaaDoor.Wd
open Go.Proofs.YtghdojiffooilaaDoor.C02 (Tb)

set_option maxRecDepth 20000 in
set_option maxHeartbeats 2000000 in
theorem next_law (A B : Option Addr) (c d la lb : Nat) (l b : List UInt8) (w : World) (hT : Tb w) (ha : Bs w A c l) (hla : l.length = la) (hb : Bs w B d b) (hlb : b.length = lb) :
    Calls Tryd.prog 3 #[.slice A la c, .slice B lb d] w fun e w' => e = .returned (.bool true) ∧ Below w.heap.size w w' := by
  have hlm := Nat.le_trans ha.cap ha.max
  have hbm := Nat.le_trans hb.cap hb.max
  unfold maxLen at hlm hbm
  have early : (3000 < la ∨ (3000 < lb ∧ lb ≤ 65536) ∨ 66000 < lb) → Calls Tryd.prog 3 #[.slice A la c, .slice B lb d] w fun e w' => e = .returned (.bool true) ∧ Below w.heap.size w w' := by
    intro h
    by_cases h1 : 3000 < la
    · have h2 : (3000 : Int) < (la : Int) := by omega
      go_enter Tryd.func3, Tryd.ntmps3
      go_wp2_with fail
      refine (alive_any _ hT).mono ?_
      rintro x w1 ⟨rfl, hb1⟩
      go_wp2
      go_ret
      exact ⟨rfl, hb1⟩
    · have h2 : ¬ (3000 : Int) < (la : Int) := by omega
      have h3 : (3000 : Int) < (lb : Int) := by omega
      by_cases h4 : lb ≤ 65536
      · have h5 : (lb : Int) ≤ 65536 := by omega
        clear h h1 h4
        go_enter Tryd.func3, Tryd.ntmps3
        go_wp2_with fail
        refine (alive_any _ hT).mono ?_
        rintro x w1 ⟨rfl, hb1⟩
        go_wp2
        go_ret
        exact ⟨rfl, hb1⟩
      · have h5 : ¬ (lb : Int) ≤ 65536 := by omega
        have h6 : (66000 : Int) < (lb : Int) := by omega
        clear h h1 h4
        go_enter Tryd.func3, Tryd.ntmps3
        go_wp2_with fail
        refine (alive_any _ hT).mono ?_
        rintro x w1 ⟨rfl, hb1⟩
        go_wp2
        go_ret
        exact ⟨rfl, hb1⟩
  by_cases h : 3000 < la ∨ (3000 < lb ∧ lb ≤ 65536) ∨ 66000 < lb
  · exact early h
  clear early
  have h1 : ¬ (3000 : Int) < (la : Int) := by omega
  obtain ⟨x, n, e, hn⟩ : ∃ x n e, nextF l = (x, n, e) := ⟨_, _, _, rfl⟩
  have hc := next_cases hn
  have hn3 : n ≤ 3000 := by omega
  have he : e ≤ 12 := by omega
  have hxl : x.length ≤ 3000 := by
    rcases hc with hc | hc | hc
    · omega
    · rw [hc.2.1]; simp
    · rw [hc.2.1]; simp
  clear hc
  by_cases hlong : 65536 < lb
  · have h2 : (3000 : Int) < (lb : Int) := by omega
    have h3 : ¬ (lb : Int) ≤ 65536 := by omega
    have h4 : ¬ (66000 : Int) < (lb : Int) := by omega
    have h5 : (65536 : Int) < (lb : Int) := by omega
    clear h
    go_enter Tryd.func3, Tryd.ntmps3
    go_wp2_with fail
    refine (alive_any _ hT).mono ?_
    rintro y w1 ⟨rfl, hb1⟩
    have ha1 := ha.below hb1
    have hT1 := hT.below hb1
    clear ha hT
    go_wp2_with fail
    refine (next_own A c la l x n e _ hT1 ha1 hla (by omega) hn).mono ?_
    rintro y w2 ⟨A2, c2, rfl, hown2, hb2⟩
    have ha2 := ha1.below hb2
    have hb2' := hb1.trans (hb2.mono hb1.size)
    clear hown2 hb2 hb1 ha1 hT1
    go_wp2_with fail
    refine (refnext_any A c la l x n e _ ha2 hla (by omega) hn).mono ?_
    rintro y w3 ⟨A3, c3, rfl, hB3, hb3⟩
    have hb3' := hb2'.trans (hb3.mono hb2'.size)
    clear hB3 hb3 hb2' ha2
    go_wp2_with fail
    refine (wrap_long B d lb _ hlong).mono ?_
    rintro y w4 ⟨rfl, rfl⟩
    go_wp2
    go_ret
    exact ⟨rfl, hb3'⟩
  · have h2 : ¬ (3000 : Int) < (lb : Int) := by omega
    have h3 : ¬ (65536 : Int) < (lb : Int) := by omega
    have h4 : ¬ (66000 : Int) < (lb : Int) := by omega
    obtain ⟨r, hr⟩ : ∃ r, frm b = r := ⟨_, rfl⟩
    have hrl : r.length ≤ 3014 := by rw [← hr]; have := frm_le b; omega
    have hlb3 : lb ≤ 3000 := by omega
    clear h
    go_enter Tryd.func3, Tryd.ntmps3
    go_wp2_with fail
    refine (alive_any _ hT).mono ?_
    rintro y w1 ⟨rfl, hb1⟩
    have ha1 := ha.below hb1
    have hB1 := hb.below hb1
    have hT1 := hT.below hb1
    clear ha hT hb
    go_wp2_with fail
    refine (next_own A c la l x n e _ hT1 ha1 hla (by omega) hn).mono ?_
    rintro y w2 ⟨A2, c2, rfl, hown2, hb2⟩
    have hX2 := Bs.own hown2
    have ha2 := ha1.below hb2
    have hB2 := hB1.below hb2
    have hT2 := hT1.below hb2
    have hb2' := hb1.trans (hb2.mono hb1.size)
    clear hown2 hb2 hb1 ha1 hT1 hB1
    go_wp2_with fail
    refine (refnext_any A c la l x n e _ ha2 hla (by omega) hn).mono ?_
    rintro y w3 ⟨A3, c3, rfl, hY3, hb3⟩
    have hX3 := hX2.below hb3
    have hB3 := hB2.below hb3
    have hT3 := hT2.below hb3
    have hb3' := hb2'.trans (hb3.mono hb2'.size)
    clear hb3 hb2' ha2 hB2 hT2 hX2
    go_wp2_with fail
    refine (wrap_own B d lb b r _ hT3 hB3 hlb (by omega) hr).mono ?_
    rintro y w4 ⟨A4, c4, rfl, hown4, hb4⟩
    have hW4 := Bs.own hown4
    have hX4 := hX3.below hb4
    have hY4 := hY3.below hb4
    have hB4 := hB3.below hb4
    have hb4' := hb3'.trans (hb4.mono hb3'.size)
    clear hown4 hb4 hb3' hX3 hY3 hB3 hT3
    go_wp2_with fail
    refine (bytes_at A2 A3 c2 c3 x.length x.length x x true _ hX4 hY4 rfl rfl (by simp)).mono ?_
    rintro y w5 ⟨rfl, rfl⟩
    clear hX4 hY4
    go_wp2_with fail
    refine (refwrap_any B d lb b r _ hB4 hlb (by omega) hr).mono ?_
    rintro y w6 ⟨A6, c6, rfl, hB6, hb6⟩
    have hW6 := hW4.below hb6
    have hb6' := hb4'.trans (hb6.mono hb4'.size)
    clear hb6 hb4' hW4
    go_wp2_with fail
    refine (bytes_at A4 A6 c4 c6 r.length r.length r r true _ hW6 hB6 rfl rfl (by simp)).mono ?_
    rintro y w7 ⟨rfl, rfl⟩
    go_wp2
    go_ret
    exact ⟨rfl, hb6'⟩
end Go.Proofs.YtghdojiffooilaaDoor.F08
