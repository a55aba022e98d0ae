/-
  A value's bytes: what own and Put do, and the document's Bytes.
-/
import Derived.Test.YtndcdidepdcmnaaKV04Right
import Derived.Test.YtndcdidepdcmnaaKV04Grow
import Derived.Test.YtndcdidepdcmnaaKV01At
import Derived.Lib.AppendStr
import Derived.Deep.RegionHeld3
import Derived.Deep.AppendLies
set_option linter.unusedSimpArgs false
set_option linter.unusedVariables false
namespace Go.Proofs.Ytndcdidepdcmnaa.V04
open Go.RowKit Go.Lib Go.Proofs.Ytndcdidepdcmnaa.Wd Go.Proofs.Ytndcdidepdcmnaa.V01

/-- a value's bytes -/
def vbs (K N : Int) (S : ByteArray) : List UInt8 :=
  if right K N S then (if K = 1 then 1 :: vby (zig N).toNat else if K = 2 then [2, UInt8.ofNat N.toNat] else 3 :: (vby S.size ++ S.data.toList)) else []
theorem vby_le (n : Nat) : (vby n).length ≤ 10 := by rw [vby_len]; exact vsize_le n
theorem vbs_len (K N : Int) (S : ByteArray) : (vbs K N S).length ≤ 5000 := by
  have h1 := vby_le (zig N).toNat
  have h2 := vby_le S.size
  unfold vbs
  split
  · rename_i hr
    have hr' : (K = 1 ∧ S.size = 0) ∨ (K = 2 ∧ S.size = 0 ∧ (N = 0 ∨ N = 1)) ∨ (K = 3 ∧ N = 0 ∧ S.size ≤ 4096) := by simpa [right] using hr
    split
    · simp only [List.length_cons]; omega
    · split
      · simp
      · have : S.data.toList.length = S.size := Array.length_toList
        simp only [List.length_cons, List.length_append, this]; omega
  · simp

/-- 'append(own, s...)', in a region that draws its order -/
theorem step_append_str {P : Program} {ops : Array Oper} {o : Oper} {a : Act} {w : World} {K : Act → World → Prop} {Q : Exit → Act → World → Prop} {E : Prop} (hgd : o.guard = none) (sl x : Operand) (t u : TypeId)
    (ho : o.op = .call { callee := .builtin .append, args := #[sl, x], argTypes := #[t, u] })
    (base : Nat) (e : TypeId) (i : TypeInfo) (ht : P.underlying t = some (.slice e)) (hu : P.underlying u = some .string) (hi : P.info? e = some i) (hz : i.zero = some (.int .u8 0))
    (hsize : i.size = 1) (hby : i.bytes = 1)
    (v : Value) (n : Nat) (xs : List Value) (hs : a.eval sl = v) (hown : w.ownsRow base e 1 v n xs) (s : ByteArray) (hx : a.eval x = .string s)
    (h63 : n + s.size ≤ maxLen) (hbytes : n + s.size ≤ 140737488355328) (hbase : base ≤ w.heap.size)
    (h : ∀ A' c' w', w'.ownsRow base e 1 (.slice A' (n + s.size) c') (n + s.size) (xs ++ strCells s) → w.grownBy w' v.ownBlock → K (a.put o.dst (.slice A' (n + s.size) c')) w') :
    if Region.wanted o (yielded ops a.tmps) = true then Oper.wp P o a w K Q else E := by
  have hw : Region.wanted o (yielded ops a.tmps) = true := by simp [Region.wanted, hgd]
  rw [if_pos hw]
  obtain ⟨v', w', hr, h2, h3, h4⟩ := run_append_own_string (P := P) w base t u o.type e i ht hu hi hz hsize hby v n xs hown s h63 hbytes hbase
  obtain ⟨A1, c1, rfl⟩ := own_form h2
  have := h A1 c1 w' h2 h3
  unfold Oper.wp execOp
  simp only [ho, resolve, invoke, builtin, Sem.run_bind, Sem.run_pure, Result.andThen_ok, List.map_toArray, List.map_cons, List.map_nil, hs, hx, hr]
  exact this
theorem own_base {w : World} {B b : Nat} {e : TypeId} {size n : Nat} {v : Value} {xs : List Value} (h : w.ownsRow B e size v n xs) (hb : b ≤ B) : w.ownsRow b e size v n xs :=
  ⟨h.1, h.2.elim .inl fun ⟨g, cap, cur, hv, hbg, r⟩ => .inr ⟨g, cap, cur, hv, Nat.le_trans hb hbg, r⟩⟩
theorem own_lit (w : World) (e : TypeId) (u : Value) (b : Nat) (hb : b ≤ w.heap.size) : (w.alloc (.cells #[u] e)).ownsRow b e 1 (.slice (some ⟨w.heap.size, 0, none⟩) 1 1) 1 [u] :=
  ⟨by simp, .inr ⟨w.heap.size, 1, #[u], rfl, hb, heap_alloc_new w _, Nat.le_refl _, by unfold maxLen; omega, by simp, by simp⟩⟩
theorem str_bc (S : ByteArray) : strCells S = Lib.byteCells S.data.toList := rfl

theorem keep_far {w w' : World} {row : Option Nat} (hg : w.grownBy w' row) {p : Addr} {v : Value} (hc : w.cell? p = some v) (hne : ∀ k, row = some k → p.block < k) : w'.cell? p = some v := by
  rw [hg.cell_far p (World.block_lt_of_cell? _ _ hc) (fun e => Nat.lt_irrefl _ (hne _ e.symm))]
  exact hc
/-- a slice of bytes of the call's own -/
def Own (w w' : World) (e : Ending) (l : List UInt8) : Prop := ∃ A' c', e = .returned (.slice A' l.length c') ∧ w'.ownsRow w.heap.size 5 1 (.slice A' l.length c') l.length (Lib.byteCells l) ∧ Below w.heap.size w w'

set_option maxRecDepth 20000 in
set_option maxHeartbeats 1000000 in
theorem own_int (N : Int) (S : ByteArray) (r : List UInt8) (w : World) (h0 : -9223372036854775808 ≤ N) (h1 : N ≤ 9223372036854775807) (hr : right 1 N S = true) (hv : 1 :: vby (zig N).toNat = r) :
    Calls Try.prog 59 #[vl 1 N S] w fun e w' => Own w w' e r := by
  have hzb := zig_bd N h0 h1
  have HV := Lib.hid hv
  clear hv
  go_enter Try.func59, Try.ntmps59
  go_wp2_with fail
  refine (right_any 1 N S true _ hr).mono ?_
  rintro e w1 ⟨rfl, rfl⟩
  have b1 : Below w.heap.size w ((w.alloc (box 47 1 N S)).alloc (box 47 1 N S)) := by go_grown
  have hs : ((w.alloc (box 47 1 N S)).alloc (box 47 1 N S)).heap.size = w.heap.size + 1 + 1 := by simp
  have vx : Vx ((w.alloc (box 47 1 N S)).alloc (box 47 1 N S)) w.heap.size 1 N S := (Vx.box w _ _ _ S).old _
  generalize (w.alloc (box 47 1 N S)).alloc (box 47 1 N S) = w1 at *
  have c0 := vx.c0
  have c1 := vx.c1
  have c2 := vx.c2
  go_wp2_with fail
  refine (zig_any N _ h0 h1).mono ?_
  rintro e w2 ⟨rfl, rfl⟩
  have b2 := b1.alloc b1.size (.cells #[.int .u8 1] 5)
  have hL := Bs.lit w1 5 #[.int .u8 1] [1] rfl (by decide)
  rw [hs] at hL
  generalize zig N = Z at *
  clear c0 c1 c2 hr vx
  generalize w1.alloc (.cells #[.int .u8 1] 5) = w2 at *
  go_wp2_with fail
  refine (put_at (some ⟨w.heap.size + 1 + 1, 0, none⟩) 1 1 Z [1] r Z.toNat w2 hL rfl (by omega) (un HV) (by decide) hzb.2).mono ?_
  rintro e w3 ⟨A3, c3, rfl, hown3, hb3⟩
  have b3 := b2.trans (hb3.mono b2.size)
  have hown4 := own_base hown3 b2.size
  clear hown3 hb3
  go_wp2
  go_ret
  exact ⟨A3, c3, rfl, hown4, b3⟩
set_option maxRecDepth 20000 in
set_option maxHeartbeats 1000000 in
theorem own_bool (N : Int) (S : ByteArray) (r : List UInt8) (w : World) (h0 : 0 ≤ N) (h1 : N ≤ 1) (hr : right 2 N S = true) (hv : [2, UInt8.ofNat N.toNat] = r) :
    Calls Try.prog 59 #[vl 2 N S] w fun e w' => Own w w' e r := by
  obtain ⟨i0, hi, hz0, hz1, hz2⟩ := info_parts Wd.byte_info
  have HV := Lib.hid hv
  clear hv
  go_enter Try.func59, Try.ntmps59
  go_wp2_with fail
  refine (right_any 2 N S true _ hr).mono ?_
  rintro e w1 ⟨rfl, rfl⟩
  have b1 : Below w.heap.size w ((w.alloc (box 47 2 N S)).alloc (box 47 2 N S)) := by go_grown
  have hs : ((w.alloc (box 47 2 N S)).alloc (box 47 2 N S)).heap.size = w.heap.size + 1 + 1 := by simp
  have vx : Vx ((w.alloc (box 47 2 N S)).alloc (box 47 2 N S)) w.heap.size 2 N S := (Vx.box w _ _ _ S).old _
  generalize (w.alloc (box 47 2 N S)).alloc (box 47 2 N S) = w1 at *
  have c0 := vx.c0
  have c1 := vx.c1
  have c2 := vx.c2
  have b2 := b1.alloc b1.size (.cells #[.int .u8 2] 5)
  have hL := own_lit w1 5 (.int .u8 2) w.heap.size b1.size
  rw [hs] at hL
  go_wp2_with (at_builtin; refine wpList_append_one _ rfl (.tmp 22) (.tmp 26) 25 rfl w.heap.size 5 i0 _ 1 Try.underlying25 hi hz0 hz1 hz2 rfl _ 1 [.int .u8 2] rfl hL (.int .u8 N) (congrArg (fun b => Value.slice (some ⟨b, 0, none⟩) 1 1) (show w.heap.size + 1 + 1 + 1 = _ by simp [hs])) rfl ?d1 ?d2 ?d3 ?_)
  case d1 => unfold maxLen; omega
  case d2 => omega
  case d3 => exact b2.size
  intro A4 c4 w4 hown4 hb4
  have b4 := b2.trans hb4
  clear hL hb4 b2 c0 c1 c2 vx
  go_wp2
  go_ret
  rw [← un HV]
  refine ⟨A4, c4, rfl, ?_, b4⟩
  have e1 : ([Value.int .u8 2] ++ [Value.int .u8 N]) = Lib.byteCells [2, UInt8.ofNat N.toNat] := by
    simp only [Lib.byteCells, List.map_cons, List.map_nil, List.cons_append, List.nil_append]
    rw [UInt8.toNat_ofNat_of_lt' (by show _ < 256; omega)]
    simp
    omega
  rw [← e1]
  exact hown4
theorem own_wrong (K N : Int) (S : ByteArray) (w : World) (hr : right K N S = false) : Calls Try.prog 59 #[vl K N S] w fun e w' => Own w w' e [] := by
  go_enter Try.func59, Try.ntmps59
  go_wp2_with (go_at_call 57; refine (right_any K N S false _ hr).mono ?_; rintro e w1 ⟨rfl, rfl⟩)
  go_ret
  exact ⟨none, 0, rfl, World.ownsRow_nil _ _ _ _, by go_grown⟩
set_option maxRecDepth 20000 in
set_option maxHeartbeats 1000000 in
theorem own_text (S : ByteArray) (r : List UInt8) (w : World) (hS : S.size ≤ 4096) (hr : right 3 0 S = true) (hv : 3 :: (vby S.size ++ S.data.toList) = r) :
    Calls Try.prog 59 #[vl 3 0 S] w fun e w' => Own w w' e r := by
  obtain ⟨i0, hi, hz0, hz1, hz2⟩ := info_parts Wd.byte_info
  have hlen := vby_le S.size
  have HV := Lib.hid hv
  clear hv
  go_enter Try.func59, Try.ntmps59
  go_wp2_with fail
  refine (right_any 3 0 S true _ hr).mono ?_
  rintro e w1 ⟨rfl, rfl⟩
  have b1 : Below w.heap.size w ((w.alloc (box 47 3 0 S)).alloc (box 47 3 0 S)) := by go_grown
  have hs : ((w.alloc (box 47 3 0 S)).alloc (box 47 3 0 S)).heap.size = w.heap.size + 1 + 1 := by simp
  have vx : Vx ((w.alloc (box 47 3 0 S)).alloc (box 47 3 0 S)) w.heap.size 3 0 S := (Vx.box w _ _ _ S).old _
  generalize (w.alloc (box 47 3 0 S)).alloc (box 47 3 0 S) = w1 at *
  have c0 := vx.c0
  have c1 := vx.c1
  have c2 := vx.c2
  have b2 := b1.alloc b1.size (.cells #[.int .u8 3] 5)
  have hL := Bs.lit w1 5 #[.int .u8 3] [3] rfl (by decide)
  have v2 := vx.old (.cells #[.int .u8 3] 5)
  go_wp2_with fail
  have d2 := v2.c2
  have hn : S.size + 10 + 1 ≤ maxLen := by unfold maxLen; omega
  obtain ⟨q, hq⟩ : ∃ q, [3] ++ vby S.size = q := ⟨_, rfl⟩
  have hql : q.length ≤ 11 := by rw [← hq]; simp; omega
  have HQ := Lib.hid hq
  have h63 : q.length + S.size ≤ maxLen := by omega
  have h47 : q.length + S.size ≤ 140737488355328 := by omega
  have h64 : (S.size : Int) ≤ 18446744073709551615 := by omega
  have hone : 1 ≤ 65536 := by decide
  have hwr : IntKind.u64.wrap (S.size : Int) = (S.size : Int) := IntWalk.u64_in _ (by omega)
  clear hq c0 c1 c2 vx
  rw [hs] at hL
  generalize w1.alloc (.cells #[.int .u8 3] 5) = w2 at *
  go_region_held3 (fun w' => w'.cell? ⟨w.heap.size, 2, none⟩ = some (.string S))
    (first | exact k4 | exact k3 | go_keep)
    (first
      | (go_at_call 41; (with_reducible refine (put_at (some ⟨w.heap.size + 1 + 1, 0, none⟩) 1 1 (S.size : Int) [3] q S.size _ hL.drew rfl rfl (un HQ) hone h64).mono ?_); rintro e w3 ⟨A3, c3, rfl, hown3, hb3⟩; have k3 : w3.cell? ⟨w.heap.size, 2, none⟩ = some (.string S) := (hb3.cell (p := ⟨w.heap.size, 2, none⟩) v2.lt).trans v2.c2)
      | (refine step_append_str rfl _ _ _ _ rfl w2.heap.size 5 i0 Try.underlying25 Try.underlying9 hi hz0 hz1 hz2 _ q.length (Lib.byteCells q) rfl hown3 S rfl h63 h47 hb3.size ?_; intro A4 c4 w4 hown4 hg4; have k4 := keep_far hg4 k3 (fun k hk => Nat.lt_of_lt_of_le v2.lt (hown3.lt k hk).1)))
  have b3 := b2.drew.trans (hb3.mono b2.size)
  have b4 : Below w.heap.size w w4 := b3.grown hg4 b3.size (fun k hk => Nat.le_trans b2.size (hown3.lt k hk).1)
  have hown5 := own_base hown4 b2.size
  have hr5 : r.length = q.length + S.size := by
    rw [← un HV, ← un HQ]
    have : S.data.toList.length = S.size := Array.length_toList
    simp only [List.length_cons, List.length_append, List.length_nil, this]
    omega
  have hx5 : Lib.byteCells q ++ strCells S = Lib.byteCells r := by rw [str_bc, ← bc_app, ← un HV, ← un HQ]; simp
  rw [hx5] at hown5
  clear hown3 hown4 hg4 hb3 b3
  go_wp2
  go_ret
  refine ⟨A4, c4, ?_, ?_, b4⟩
  · rw [hr5]; rfl
  · rw [hr5]; exact hown5
theorem own_any (K N : Int) (S : ByteArray) (w : World) (h0 : -9223372036854775808 ≤ N) (h1 : N ≤ 9223372036854775807) :
    Calls Try.prog 59 #[vl K N S] w fun e w' => Own w w' e (vbs K N S) := by
  unfold vbs
  cases hr : right K N S with
  | false => exact own_wrong K N S w hr
  | true =>
    have hr' : (K = 1 ∧ S.size = 0) ∨ (K = 2 ∧ S.size = 0 ∧ (N = 0 ∨ N = 1)) ∨ (K = 3 ∧ N = 0 ∧ S.size ≤ 4096) := by simpa [right] using hr
    rw [if_pos rfl]
    rcases hr' with ⟨rfl, _⟩ | ⟨rfl, _, h⟩ | ⟨rfl, rfl, h⟩
    · exact own_int N S _ w h0 h1 hr rfl
    · exact own_bool N S _ w (by omega) (by omega) hr rfl
    · exact own_text S _ w h hr rfl

set_option maxRecDepth 20000 in
set_option maxHeartbeats 1000000 in
theorem vput_at (A : Option Addr) (c len : Nat) (l : List UInt8) (K N : Int) (S : ByteArray) (r : List UInt8) (w : World) (ha : Bs w A c l) (hlen : l.length = len) (hl : len ≤ 5000) (h0 : -9223372036854775808 ≤ N) (h1 : N ≤ 9223372036854775807) (hr : l ++ vbs K N S = r) :
    Calls Try.prog 45 #[.slice A len c, vl K N S] w fun e w' => Own w w' e r := by
  have hv := vbs_len K N S
  obtain ⟨q, hq⟩ : ∃ q, vbs K N S = q := ⟨_, rfl⟩
  have ho := own_any K N S (w.alloc (box 47 K N S)) h0 h1
  rw [hq] at ho hv hr
  have HR := Lib.hid hr
  clear hr hq
  have b1 := below_box w (box 47 K N S) (Nat.le_refl _)
  have ha1 := ha.below b1
  go_enter Try.func45, Try.ntmps45
  go_wp2_with fail
  refine ho.mono ?_
  rintro e w2 ⟨A2, c2, rfl, hown2, hb2⟩
  have hq2 := Bs.own hown2
  have ha2 := ha1.below hb2
  have b2 := b1.trans (hb2.mono b1.size)
  clear hown2 ho ha ha1 b1 hb2
  obtain ⟨lq, hlq⟩ : ∃ lq, q.length = lq := ⟨_, rfl⟩
  rw [hlq] at hv ⊢
  go_wp2_with fail
  have hs := below_box w2 (.cells #[.slice A len c, .slice A2 lq c2] 25) (Nat.le_refl _)
  refine (concat_at A A2 c c2 len lq l q w2.heap.size _ (by simp) (by simp) (ha2.below hs) (hq2.below hs) hlen hlq (by omega) (by omega)).mono ?_
  rintro e w3 ⟨A3, c3, rfl, hown3, hb3⟩
  have b3 := b2.alloc b2.size (.cells #[.slice A len c, .slice A2 lq c2] 25)
  have b4 := b3.trans (hb3.mono b3.size)
  have hown4 := own_base hown3 b3.size
  rw [un HR] at hown4
  have hrl : r.length = len + lq := by rw [← un HR, List.length_append, hlen, hlq]
  clear hown3 hb3
  go_wp2
  go_ret
  refine ⟨A3, c3, ?_, ?_, b4⟩
  · rw [hrl]; rfl
  · rw [hrl]; exact hown4
end Go.Proofs.Ytndcdidepdcmnaa.V04
