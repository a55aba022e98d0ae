/-
  What frame.Next does.
-/
import Derived.Test.YtghdojiffooilaaDoorF8Pure
import Derived.Test.YtghdojiffooilaaDoorV01At
import Derived.Test.YtghdojiffooilaaDoorC02Laid
namespace Go.Proofs.YtghdojiffooilaaDoor.F08
open Go.RowKit Go.Lib Go.Proofs.YtghdojiffooilaaDoor.Wd
open Go.Proofs.YtghdojiffooilaaDoor.V01 (getF nat8)
open Go.Proofs.YtghdojiffooilaaDoor.C02 (openF tail4 sumOf Tb open_own)

set_option maxRecDepth 20000 in
set_option maxHeartbeats 1000000 in
theorem next_own (A : Option Addr) (c len : Nat) (l r : List UInt8) (n e : Nat) (w : World) (hT : Tb w) (ha : Bs w A c l) (hlen : l.length = len) (hl : len ≤ 65000) (hr : nextF l = (r, n, e)) :
    Calls Tryd.prog 8 #[.slice A len c] w fun x w' => ∃ A' c', x = .returned (.tuple #[.slice A' r.length c', .int .i64 (n : Nat), .int .i64 (e : Nat)]) ∧
      w'.ownsRow w.heap.size 5 1 (.slice A' r.length c') r.length (Lib.byteCells r) ∧ Below w.heap.size w w' := by
  obtain ⟨m, k, f, hg⟩ : ∃ m k f, getF 0 0 (nat8 l) = (m, k, f) := ⟨_, _, _, rfl⟩
  have hget := V01.get_at A c len l m k f w ha hlen (by omega) hg
  have hbd := get_bd hg
  have hcap := ha.cap
  have hmax := ha.max
  unfold maxLen at hmax
  by_cases hf : f = 0
  · subst hf
    by_cases hm : 65536 < m
    · rw [next_long hg hm] at hr
      simp only [Prod.mk.injEq] at hr
      obtain ⟨rfl, rfl, rfl⟩ := hr
      have h1 : (65536 : Int) < (m : Int) := by omega
      clear hg hbd
      go_enter Tryd.func8, Tryd.ntmps8
      go_wp2_with fail
      refine hget.mono ?_
      rintro x w1 ⟨rfl, rfl⟩
      go_wp2
      go_ret3
      exact ⟨none, 0, rfl, World.ownsRow_nil _ _ _ _, Below.refl _ _⟩
    · have h1 : ¬ (65536 : Int) < (m : Int) := by omega
      by_cases hs : l.length < k + m + 4
      · rw [next_short hg hm hs] at hr
        simp only [Prod.mk.injEq] at hr
        obtain ⟨rfl, rfl, rfl⟩ := hr
        have h2 : (len : Int) < (k : Int) + (m : Int) + 4 := by omega
        clear hg
        go_enter Tryd.func8, Tryd.ntmps8
        go_wp2_with fail
        refine hget.mono ?_
        rintro x w1 ⟨rfl, rfl⟩
        go_wp2
        go_ret3
        exact ⟨none, 0, rfl, World.ownsRow_nil _ _ _ _, Below.refl _ _⟩
      · obtain ⟨x, g, ho⟩ : ∃ x g, openF ((l.drop k).take (m + 4)) = (x, g) := ⟨_, _, rfl⟩
        rw [next_open hg hm hs ho] at hr
        simp only [Prod.mk.injEq] at hr
        obtain ⟨rfl, rfl, rfl⟩ := hr
        have hck : ¬ c = k := by omega
        have q1 := (ha.drop k (by omega)).take (m + 4) (by simp; omega)
        unfold cutA at q1
        rw [if_neg hck] at q1
        have hop := open_own _ _ (k + m + 4 - k) g _ x w hT q1 (by simp; omega) (by omega) ho
        clear hg
        go_enter Tryd.func8, Tryd.ntmps8
        go_wp2_with fail
        refine hget.mono ?_
        rintro x w1 ⟨rfl, rfl⟩
        go_wp2_with fail
        refine hop.mono ?_
        rintro x w1 ⟨A1, c1, rfl, hown, hb⟩
        go_wp2
        go_ret3
        exact ⟨A1, c1, rfl, hown, hb⟩
  · rw [next_bad hg hf] at hr
    simp only [Prod.mk.injEq] at hr
    obtain ⟨rfl, rfl, rfl⟩ := hr
    have h1 : ¬ (f : Int) = 0 := by omega
    clear hg hbd
    go_enter Tryd.func8, Tryd.ntmps8
    go_wp2_with fail
    refine hget.mono ?_
    rintro x w1 ⟨rfl, rfl⟩
    go_wp2
    go_ret3
    exact ⟨none, 0, rfl, World.ownsRow_nil _ _ _ _, Below.refl _ _⟩
end Go.Proofs.YtghdojiffooilaaDoor.F08
