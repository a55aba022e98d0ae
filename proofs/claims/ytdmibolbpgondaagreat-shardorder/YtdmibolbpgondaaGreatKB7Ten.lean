/-
  A span appended to a row of the program's own; what the type of spans is.
-/
import Derived.Test.YtdmibolbpgondaaGreatKB7Sps
import Derived.Maps.AppendAt
set_option linter.unusedSimpArgs false
set_option linter.unusedVariables false
namespace Go.Proofs.YtdmibolbpgondaaGreat.B07
open Go.RowKit Go.Lib Go.Maps Go.Proofs.YtdmibolbpgondaaGreat.Wd Go.Proofs.YtdmibolbpgondaaGreat.V04 Go.Proofs.YtdmibolbpgondaaGreat.P06

theorem span_info : (Tryz.prog.info? 45).map (fun i => (i.zero, i.size, i.bytes)) = some (some (.agg zsp), 10, 112) := by kernel_rfl
/-- one span's cells, laid in a block of their own -/
theorem Rd.lit10 (w : World) (e : TypeId) (x : Spn) : Rd 10 (w.alloc (.cells (tenA x) e)) (some ⟨w.heap.size, 0, none⟩) 1 1 (ten x) := by
  refine ⟨rfl, fun e => (by cases e), Nat.le_refl _, by unfold maxLen; omega, fun ad ha i u hu => ?_⟩
  injection ha with ha
  subst ha
  rw [Addr.add_lit, (Bk.new w e _).cell]
  simpa [ten, tenA] using hu
/-- 'append(own, x)' of a span, with where the new row lies -/
theorem wpList_append_ten {P : Program} (w : World) {ops : Array Oper} {rest : List Oper} {o : Oper} {a : Act} {Qq : Exit → Act → World → Prop} (hgd : o.guard = none) (s x : Operand) (tt : TypeId)
    (ho : o.op = .call { callee := .builtin .append, args := #[s, x], argTypes := #[tt, tt] })
    (base : Nat) (e : TypeId) (i : TypeInfo) (z : Value) (bytes : Nat) (ht : P.underlying tt = some (.slice e)) (hi : P.info? e = some i) (hz : i.zero = some z)
    (hsize : i.size = 10) (hby : i.bytes = bytes) (hzs : z.cells.size = 10)
    (v : Value) (n : Nat) (xs : List Value) (hs : a.eval s = v) (hown : w.ownsRow base e 10 v n xs)
    (b : Nat) (y : Spn) (hx : a.eval x = .slice (some ⟨b, 0, none⟩) 1 1) (hr : Rd 10 w (some ⟨b, 0, none⟩) 1 1 (ten y))
    (h63 : n + 1 ≤ maxLen) (hbytes : (n + 1) * bytes ≤ 140737488355328) (hbase : base ≤ w.heap.size)
    (h : ∀ A' c' w', w'.ownsRow base e 10 (.slice A' (n + 1) c') (n + 1) (xs ++ ten y) → w.grownBy w' v.ownBlock →
      ((Value.slice A' (n + 1) c').ownBlock = v.ownBlock ∨ (Value.slice A' (n + 1) c').ownBlock = some w.heap.size) → wpList P ops Qq rest (a.put o.dst (.slice A' (n + 1) c')) w') :
    wpList P ops Qq (o :: rest) a w := by
  refine wpList_append_own_at w hgd s x tt ho base e i z 10 bytes ht hi hz hsize hby hzs (by decide) v n xs hs hown ⟨b, 0, none⟩ 1 1 (ten y) hx hr.len (hr.at_ _ rfl) (ten_one y) h63 hbytes hbase fun v' w' h2 h3 _ h5 => ?_
  obtain ⟨A1, c1, hv⟩ := own_form h2
  subst hv
  exact h A1 c1 w' h2 h3 h5

theorem rspan_info : (Tryz.prog.info? 34).map (fun i => (i.zero, i.size, i.bytes)) = some (some (.agg zsp), 10, 112) := by kernel_rfl
end Go.Proofs.YtdmibolbpgondaaGreat.B07
