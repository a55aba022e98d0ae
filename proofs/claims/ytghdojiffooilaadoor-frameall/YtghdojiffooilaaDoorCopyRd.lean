/-
  'copy(own, src)': a row of one's own, filled to its length off a slice that reads as a list, nil or not.
-/
import Derived.Test.YtghdojiffooilaaDoorWords
import Derived.Laws.CopyOwn
namespace Go.Proofs.YtghdojiffooilaaDoor.Wd
open Go.RowKit Go.Lib

theorem wpList_copy_rd {P : Program} {w : World} {ops : Array Oper} {rest : List Oper} {o : Oper} {a : Act} {Q : Exit → Act → World → Prop} (hgd : o.guard = none) (d s : Operand) (dT sT : TypeId)
    (ho : o.op = .call { callee := .builtin .copy, args := #[d, s], argTypes := #[dT, sT] }) (elem : TypeId) (hu : P.underlying dT = some (.slice elem)) (hsz : (P.info? elem).map (·.size) = some 1)
    (base g n : Nat) (xs : List Value) (hd : a.eval d = .slice (some ⟨g, 0, none⟩) n n) (hown : w.ownsRow base elem 1 (.slice (some ⟨g, 0, none⟩) n n) n xs)
    (A : Option Addr) (m c : Nat) (hs : a.eval s = .slice A m c) (ys : List Value) (hr : Rd 1 w A m c ys) (hn : n ≤ m) (h1 : ∀ u ∈ ys, u.oneCell' = true) (w0 : World) (hb : Below base w0 w)
    (h : ∀ w', w'.ownsRow base elem 1 (.slice (some ⟨g, 0, none⟩) n n) n (ys.take n) → Below base w0 w' → wpList P ops Q rest (a.put o.dst (goInt n)) w') :
    wpList P ops Q (o :: rest) a w := by
  rcases hown.2 with ⟨hv, _⟩ | ⟨g', cap, cur, hv, hbg, hg, hnc, hm, hcs, ht⟩
  · cases hv
  · injection hv with e1 e2 e3
    injection e1 with e1
    injection e1 with e1
    subst e1; subst e3
    have hl : ys.length = m := by have := hr.len; omega
    have hcl : (ys.take n).length = n := by simp; omega
    have hgl : w.heap[g]? = some (.cells cur.toList.toArray elem (0, 0)) := by simpa using hg
    refine wpList_copy_splice hgd d s dT sT ho elem hu hsz _ A n n m c hd hs g 0 cur.toList elem hgl (ys.take n) (by rw [hcl]; exact (Nat.min_eq_right hn).symm) ?_ (by rw [hcl]; simp [hcs]) (fun v hv => h1 v (List.mem_of_mem_take hv)) base w0 hb hbg ?_
    · intro hpos
      rw [hcl] at hpos
      refine ⟨rfl, ?_⟩
      cases hA : A with
      | none => have := hr.none_ hA; omega
      | some ad =>
        refine ⟨ad, rfl, fun j v hj => hr.at_ ad hA j v ?_⟩
        rw [List.getElem?_take] at hj
        split at hj
        · exact hj
        · cases hj
    · intro w' hw' hb'
      have hw := hw'.out
      have hsp : splice cur.toList 0 (ys.take n) = ys.take n := by
        unfold splice
        rw [hcl, List.drop_of_length_le (by simp [hcs])]
        simp
      rw [hsp] at hw
      rw [hcl]
      refine h w' ⟨by rw [hcl]; omega, .inr ⟨g, n, (ys.take n).toArray, rfl, hbg, hw, Nat.le_refl _, hm, by simp; omega, ?_⟩⟩ hb'
      rw [List.take_of_length_le (by simp; omega)]
end Go.Proofs.YtghdojiffooilaaDoor.Wd
