/-
  What the document's Next does.
-/
import Derived.Test.YtghdojiffooilaaDoorF8Pure
import Derived.Test.YtghdojiffooilaaDoorV01RefGet
import Derived.Test.YtghdojiffooilaaDoorC02Ref
import Derived.Test.YtghdojiffooilaaDoorC02Told
namespace Go.Proofs.YtghdojiffooilaaDoor.F08
open Go.RowKit Go.Lib Go.Proofs.YtghdojiffooilaaDoor.Wd
open Go.Proofs.YtghdojiffooilaaDoor.V01 (getF nat8)
open Go.Proofs.YtghdojiffooilaaDoor.C02 (openF tail4 sumOf toldN eq_tail4 tail4_len sumOf_lt refsum_at tail_at)

set_option maxRecDepth 20000 in
set_option maxHeartbeats 2000000 in
theorem refnext_any (A : Option Addr) (c len : Nat) (l r : List UInt8) (n e : Nat) (w : World) (ha : Bs w A c l) (hlen : l.length = len) (hl : len ≤ 65000) (hr : nextF l = (r, n, e)) :
    Calls Tryd.prog 9 #[.slice A len c] w fun x w' => ∃ A' c', x = .returned (.tuple #[.slice A' r.length c', .int .i64 (n : Nat), .int .i64 (e : Nat)]) ∧
      Bs w' A' c' r ∧ Below w.heap.size w w' := by
  obtain ⟨m, k, f, hg⟩ : ∃ m k f, getF 0 0 (nat8 l) = (m, k, f) := ⟨_, _, _, rfl⟩
  have hget := V01.refget_same A c l w ha (by omega)
  rw [hg, hlen] at hget
  dsimp only at hget
  have hbd := get_bd hg
  have hcap := ha.cap
  have hmax := ha.max
  unfold maxLen at hmax
  by_cases hf : f = 0
  · subst hf
    by_cases hm : 65536 < m
    · rw [next_long hg hm] at hr
      simp only [Prod.mk.injEq] at hr
      obtain ⟨rfl, rfl, rfl⟩ := hr
      have h1 : (65536 : Int) < (m : Int) := by omega
      clear hg hbd
      go_enter Tryd.func9, Tryd.ntmps9
      go_wp2_with fail
      refine hget.mono ?_
      rintro x w1 ⟨rfl, rfl⟩
      go_wp2
      go_ret3
      exact ⟨none, 0, rfl, Bs.nil _, Below.refl _ _⟩
    · have h1 : ¬ (65536 : Int) < (m : Int) := by omega
      by_cases hs : l.length < k + m + 4
      · rw [next_short hg hm hs] at hr
        simp only [Prod.mk.injEq] at hr
        obtain ⟨rfl, rfl, rfl⟩ := hr
        have h2 : (len : Int) < (k : Int) + (m : Int) + 4 := by omega
        clear hg
        go_enter Tryd.func9, Tryd.ntmps9
        go_wp2_with fail
        refine hget.mono ?_
        rintro x w1 ⟨rfl, rfl⟩
        go_wp2
        go_ret3
        exact ⟨none, 0, rfl, Bs.nil _, Below.refl _ _⟩
      · obtain ⟨x, g, ho⟩ : ∃ x g, openF ((l.drop k).take (m + 4)) = (x, g) := ⟨_, _, rfl⟩
        rw [next_open hg hm hs ho] at hr
        simp only [Prod.mk.injEq] at hr
        obtain ⟨rfl, rfl, rfl⟩ := hr
        have hL : ((l.drop k).take (m + 4)).length = m + 4 := by simp; omega
        unfold openF at ho
        rw [if_neg (by omega), hL, Nat.add_sub_cancel, List.take_take, show min m (m + 4) = m by omega] at ho
        have hdr : ((l.drop k).take (m + 4)).drop m = (l.drop (k + m)).take 4 := by
          rw [List.drop_take, List.drop_drop]
          congr 1
          omega
        rw [hdr] at ho
        obtain ⟨b, hb⟩ : ∃ b, (l.drop k).take m = b := ⟨_, rfl⟩
        obtain ⟨t, ht⟩ : ∃ t, (l.drop (k + m)).take 4 = t := ⟨_, rfl⟩
        rw [hb, ht] at ho
        have hbl : b.length = m := by rw [← hb]; simp; omega
        have htl : t.length = 4 := by rw [← ht]; simp; omega
        have hck : ¬ c = k := by omega
        have hck2 : ¬ c = k + m := by omega
        have q1 := (ha.drop k (by omega)).take m (by simp; omega)
        have q2 := (ha.drop (k + m) (by omega)).take 4 (by simp; omega)
        unfold cutA at q1 q2
        rw [if_neg hck, hb] at q1
        rw [if_neg hck2, ht] at q2
        obtain ⟨s, hs0⟩ : ∃ s, sumOf b = s := ⟨_, rfl⟩
        have hs1 := sumOf_lt b
        rw [hs0] at hs1 ho
        have hiff := eq_tail4 t s htl hs1
        have hcv := (q2.drew).str (P := Tryd.prog) 22 9 5 Tryd.underlying22 Tryd.underlying5 Tryd.underlying9
        rw [htl] at hcv
        have p1 : (0 : Int) ≤ (k : Int) := by omega
        have p2 : (k : Int) ≤ (k : Int) + (m : Int) := by omega
        have p3 : (k : Int) + (m : Int) ≤ (c : Int) := by omega
        have p4 : (k : Int) + (m : Int) ≤ (k : Int) + (m : Int) + 4 := by omega
        have p5 : (k : Int) + (m : Int) + 4 ≤ (c : Int) := by omega
        have p6 : ¬ (len : Int) < (k : Int) + (m : Int) + 4 := by omega
        have e1 : k + m - k = m := by omega
        have e2 : k + m + 4 - (k + m) = 4 := by omega
        clear hg hb ht hdr hs hbd hL
        have hcc : ∀ B d w', Bs w' B d (tail4 s) → (convert 22 9 (.slice B 4 d)).run Tryd.prog w' = .ok (.string ⟨(tail4 s).toArray⟩) w' := fun B d w' hB => by
          have := hB.str (P := Tryd.prog) 22 9 5 Tryd.underlying22 Tryd.underlying5 Tryd.underlying9
          rwa [tail4_len] at this
        have hct : ∀ w', Below w.heap.size w.drew w' → (convert 22 9 (.slice (A.map (·.add (k + m))) 4 (c - (k + m)))).run Tryd.prog w' = .ok (.string ⟨t.toArray⟩) w' := fun w' hB => by
          have := (q2.drew.below hB).str (P := Tryd.prog) 22 9 5 Tryd.underlying22 Tryd.underlying5 Tryd.underlying9
          rwa [htl] at this
        have q1' := q1.drew
        by_cases hts : toldN t = s
        · have hbb : (t == tail4 s) = true := by simp; exact hiff.2 hts
          rw [if_pos hts] at ho
          injection ho with o1 o2
          subst o1; subst o2
          clear hts hiff
          go_enter Tryd.func9, Tryd.ntmps9
          go_wp2_with fail
          refine hget.mono ?_
          rintro x w1 ⟨rfl, rfl⟩
          go_wp2_with fail
          go_region_with (first
            | (go_at_call 18; (with_reducible refine (refsum_at _ _ m b s _ q1' hbl (by omega) hs0).mono ?_); rintro x w7 ⟨rfl, rfl⟩)
            | (go_at_call 17; (with_reducible refine (tail_at s _ (by omega)).mono ?_); rintro x w7 ⟨A7, rfl, hB7, hb7⟩; have hc1 := hcc _ _ _ hB7; have hc2 := hct _ hb7))
          all_goals
            go_wp2
            go_ret3
            exact ⟨A.map (·.add k), c - k, by rw [hbl]; rfl, q1'.below hb7, (Below.refl _ _).drew.trans hb7⟩
        · have hbb : (t == tail4 s) = false := by simp; exact fun e => hts (hiff.1 e)
          rw [if_neg hts] at ho
          injection ho with o1 o2
          subst o1; subst o2
          clear hts hiff
          go_enter Tryd.func9, Tryd.ntmps9
          go_wp2_with fail
          refine hget.mono ?_
          rintro x w1 ⟨rfl, rfl⟩
          go_wp2_with fail
          go_region_with (first
            | (go_at_call 18; (with_reducible refine (refsum_at _ _ m b s _ q1' hbl (by omega) hs0).mono ?_); rintro x w7 ⟨rfl, rfl⟩)
            | (go_at_call 17; (with_reducible refine (tail_at s _ (by omega)).mono ?_); rintro x w7 ⟨A7, rfl, hB7, hb7⟩; have hc1 := hcc _ _ _ hB7; have hc2 := hct _ hb7))
          all_goals
            go_wp2
            go_ret3
            exact ⟨none, 0, rfl, Bs.nil _, (Below.refl _ _).drew.trans hb7⟩
  · rw [next_bad hg hf] at hr
    simp only [Prod.mk.injEq] at hr
    obtain ⟨rfl, rfl, rfl⟩ := hr
    have h1 : ¬ (f : Int) = 0 := by omega
    clear hg hbd
    go_enter Tryd.func9, Tryd.ntmps9
    go_wp2_with fail
    refine hget.mono ?_
    rintro x w1 ⟨rfl, rfl⟩
    go_wp2
    go_ret3
    exact ⟨none, 0, rfl, Bs.nil _, Below.refl _ _⟩
end Go.Proofs.YtghdojiffooilaaDoor.F08
