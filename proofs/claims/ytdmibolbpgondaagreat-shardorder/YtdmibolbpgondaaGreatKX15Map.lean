/-
  Maps of the program's own, their keys uint64, their values whatever: as functions from numbers to values.
-/
import Derived.Test.YtdmibolbpgondaaGreatKU12Due
set_option linter.unusedSimpArgs false
set_option linter.unusedVariables false
namespace Go.Proofs.YtdmibolbpgondaaGreat.X15
open Go.RowKit Go.Lib Go.Maps Go.Proofs.YtdmibolbpgondaaGreat.Wd
open Go.Proofs.YtdmibolbpgondaaGreat.U12 (ik ik_inj ik_key law key_ok)

/-- a value, held as it is -/
def Hv : Value → Option (DataW Value × List MemPlace) := fun v => some (.held v, [])
abbrev OwnH (w : World) (b n : Nat) (D : DataW Value) : Prop := w.ownsMap Tryz.prog 22 Hv b n D
theorem mapv_kept {w w' : World} {b n : Nat} {D : DataW Value} (h : OwnH w b n D) (hk : w'.heap[b]? = w.heap[b]?) : OwnH w' b n D := by
  obtain ⟨es, clock, hb, r⟩ := h
  exact ⟨es, clock, hk.trans hb, r⟩
theorem mapv_size {w : World} {b n : Nat} {D : DataW Value} (h : OwnH w b n D) : OwnH w b (Maps.size D) D := by
  obtain ⟨es, clock, hb, F, hs, rfl⟩ := h
  exact ⟨es, clock, hb, F, by simp [Maps.size, length_sorted], rfl⟩
/-- a map read as a function; how many it has -/
structure Mf (D : DataW Value) (f : Nat → Option Value) (N : Nat) : Prop where
  tidy : Tidy D
  size : Maps.size D = N
  has : ∀ x : Nat, Maps.has D (ik x) = (f x).isSome
  at_ : ∀ (x : Nat) (v : Value), f x = some v → ∀ z, D.atKey (ik x) z = .held v
/-- block b is a map with N keys that tells f -/
def Mp (w : World) (b : Nat) (f : Nat → Option Value) (N : Nat) : Prop := ∃ D, OwnH w b N D ∧ Mf D f N
def upf (f : Nat → Option Value) (x : Nat) (v : Option Value) : Nat → Option Value := fun y => if y = x then v else f y
theorem upf_same (f : Nat → Option Value) (x : Nat) (v : Option Value) : upf f x v x = v := if_pos rfl
theorem upf_other {f : Nat → Option Value} {x y : Nat} (v : Option Value) (h : y ≠ x) : upf f x v y = f y := if_neg h
variable {w w' : World} {b N : Nat} {f : Nat → Option Value}
theorem Mp.empty (w : World) : Mp (w.alloc (.map #[] 0)) w.heap.size (fun _ => none) 0 :=
  ⟨.map [], World.ownsMap_made w _ _ _, tidy_empty, rfl, fun x => by simp [Maps.has], fun _ _ h => by cases h⟩
theorem Mp.kept (h : Mp w b f N) (hk : w'.heap[b]? = w.heap[b]?) : Mp w' b f N := by
  obtain ⟨D, h1, h2⟩ := h
  exact ⟨D, mapv_kept h1 hk, h2⟩
theorem Mp.lt (h : Mp w b f N) : b < w.heap.size := by obtain ⟨D, h1, _⟩ := h; exact h1.lt
theorem Mp.below (h : Mp w b f N) (hb : Below w.heap.size w w') : Mp w' b f N := h.kept (hb.block b h.lt)
theorem Mp.fr {o : List Nat} (h : Mp w b f N) (hb : Fr o w w') (ho : b ∉ o) : Mp w' b f N := h.kept (hb.block b h.lt ho)
theorem Mp.congr {f' : Nat → Option Value} (h : Mp w b f N) (e : ∀ x, f x = f' x) : Mp w b f' N := by
  have : f = f' := funext e
  rw [← this]; exact h
set_option maxRecDepth 20000 in
/-- 'v, ok := m[k]' and 'v := m[k]' -/
theorem Mp.look (h : Mp w b f N) {t e : TypeId} {z : Value} (ht : Tryz.prog.underlying t = some (.map 22 e)) (hz : (zeroValue e).run Tryz.prog w = .ok z w) {x : Nat} (hx : (x : Int) ≤ 18446744073709551615) :
    (Instr.lookup t (.map (some b)) (.int .u64 (x : Int)) true).run Tryz.prog w = .ok (.tuple #[(f x).getD z, .bool (f x).isSome]) w := by
  obtain ⟨D, h1, h2⟩ := h
  obtain ⟨v, ps, hrun, hv⟩ := h1.look_ok law ht hz (zd := .held z) (zp := []) rfl (key_ok hx)
  have hv : DataW.held v = D.atKey (ik x) (.held z) := by
    exact congrArg Prod.fst (Option.some.inj hv)
  rw [h2.has] at hrun
  cases e : f x with
  | none =>
    have : D.atKey (ik x) (.held z) = .held z := Maps.atKey_of_not_has (by rw [h2.has, e]; rfl) _
    rw [this] at hv
    cases hv
    rw [hrun, e]
    rfl
  | some u =>
    rw [h2.at_ x u e] at hv
    cases hv
    rw [hrun, e]
    rfl
set_option maxRecDepth 20000 in
theorem Mp.look1 (h : Mp w b f N) {t e : TypeId} {z : Value} (ht : Tryz.prog.underlying t = some (.map 22 e)) (hz : (zeroValue e).run Tryz.prog w = .ok z w) {x : Nat} (hx : (x : Int) ≤ 18446744073709551615) :
    (Instr.lookup t (.map (some b)) (.int .u64 (x : Int)) false).run Tryz.prog w = .ok ((f x).getD z) w := by
  obtain ⟨D, h1, h2⟩ := h
  obtain ⟨v, ps, hrun, hv⟩ := h1.lookup law ht hz (zd := .held z) (zp := []) rfl (key_ok hx)
  have hv : DataW.held v = D.atKey (ik x) (.held z) := by
    exact congrArg Prod.fst (Option.some.inj hv)
  cases e : f x with
  | none =>
    have : D.atKey (ik x) (.held z) = .held z := Maps.atKey_of_not_has (by rw [h2.has, e]; rfl) _
    rw [this] at hv
    cases hv
    rw [hrun]
    rfl
  | some u =>
    rw [h2.at_ x u e] at hv
    cases hv
    rw [hrun]
    rfl
/-- of no map -/
theorem look_none {t e : TypeId} {z : Value} (c : Bool) (ht : Tryz.prog.underlying t = some (.map 22 e)) (hz : (zeroValue e).run Tryz.prog w = .ok z w) {x : Nat} (hx : (x : Int) ≤ 18446744073709551615) :
    (Instr.lookup t (.map none) (.int .u64 (x : Int)) c).run Tryz.prog w = .ok (if c then .tuple #[z, .bool false] else z) w := Maps.look_nil c law ht hz (key_ok hx)
/-- how many keys there are, one stored -/
def upn (f : Nat → Option Value) (N x : Nat) : Nat := if (f x).isSome then N else N + 1
/-- 'm[k] = v' -/
theorem Mp.store (h : Mp w b f N) {t e : TypeId} (ht : Tryz.prog.underlying t = some (.map 22 e)) {x : Nat} (v : Value) (hx : (x : Int) ≤ 18446744073709551615) (hN : N ≤ 1000000) :
    ∃ w', (Instr.mapUpdate t (.map (some b)) (.int .u64 (x : Int)) v).run Tryz.prog w = .ok () w' ∧ Mp w' b (upf f x (some v)) (upn f N x) ∧ Fr [b] w w' := by
  obtain ⟨D, h1, h2⟩ := h
  obtain ⟨w', hrun, hown, hturn⟩ := h1.store law ht (by unfold maxLen; omega) (key_ok hx) (val := v) (d := .held v) (ps := []) rfl
  refine ⟨w', hrun, ⟨D.put (ik x) (.held v), ?_, h2.tidy.put (ik_key _) _, ?_, fun y => ?_, fun y u hu z => ?_⟩, Fr.of_grown hturn.grown fun k hk => by injection hk with hk; subst hk; simp⟩
  · have := mapv_size hown
    rw [size_put h2.tidy, h2.has, h2.size] at this
    exact this
  · rw [size_put h2.tidy, h2.has, h2.size]; rfl
  · by_cases e : y = x
    · subst e
      rw [has_put_same h2.tidy.isMap (ik_key y), upf_same]; rfl
    · rw [has_put_other (fun e' => e (ik_inj e')), upf_other _ e]
      exact h2.has y
  · by_cases e : y = x
    · subst e
      rw [upf_same] at hu
      cases hu
      exact atKey_put_same h2.tidy.isMap (ik_key y) _ _
    · rw [upf_other _ e] at hu
      rw [atKey_put_other (fun e' => e (ik_inj e'))]
      exact h2.at_ y u hu z
/-- how many keys there are, one taken off -/
def dnn (f : Nat → Option Value) (N x : Nat) : Nat := if (f x).isSome then N - 1 else N
/-- 'delete(m, k)' -/
theorem Mp.drop (h : Mp w b f N) {t e : TypeId} (ht : Tryz.prog.underlying t = some (.map 22 e)) {x : Nat} (hx : (x : Int) ≤ 18446744073709551615) (ty : TypeId) :
    ∃ w', (Builtin.delete_ #[t, 22] ty #[.map (some b), .int .u64 (x : Int)]).run Tryz.prog w = .ok (.tuple #[]) w' ∧ Mp w' b (upf f x none) (dnn f N x) ∧ Fr [b] w w' := by
  obtain ⟨D, h1, h2⟩ := h
  obtain ⟨w', hrun, hown, hturn⟩ := h1.drop law ht (key_ok hx) ty
  refine ⟨w', hrun, ⟨D.del (ik x), ?_, h2.tidy.del _, ?_, fun y => ?_, fun y u hu z => ?_⟩, Fr.of_grown hturn.grown fun k hk => by injection hk with hk; subst hk; simp⟩
  · have := mapv_size hown
    have e := size_del (k := ik x) h2.tidy
    rw [h2.has, h2.size] at e
    have e2 : Maps.size (D.del (ik x)) = dnn f N x := by unfold dnn; split at e <;> simp_all <;> omega
    rw [e2] at this
    exact this
  · have e := size_del (k := ik x) h2.tidy
    rw [h2.has, h2.size] at e
    unfold dnn
    split at e <;> simp_all <;> omega
  · by_cases e : y = x
    · subst e
      rw [has_del_same, upf_same]; rfl
    · rw [has_del_other (fun e' => e (ik_inj e')), upf_other _ e]
      exact h2.has y
  · by_cases e : y = x
    · subst e
      rw [upf_same] at hu
      cases hu
    · rw [upf_other _ e] at hu
      rw [atKey_del_other (fun e' => e (ik_inj e'))]
      exact h2.at_ y u hu z
end Go.Proofs.YtdmibolbpgondaaGreat.X15
