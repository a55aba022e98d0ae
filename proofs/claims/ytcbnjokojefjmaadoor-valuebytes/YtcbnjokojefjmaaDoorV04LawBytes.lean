/-
  The walk of ValueBytes: the bytes of any value behind any others, and the value of any bytes.
-/
import Derived.Test.YtcbnjokojefjmaaDoorV04RefBytes
import Derived.Test.YtcbnjokojefjmaaDoorV04RefGet2
import Derived.Test.YtcbnjokojefjmaaDoorV04Alive
import Derived.Test.YtcbnjokojefjmaaDoorV04Open
import Derived.Lib.QuietBelow
set_option linter.unusedSimpArgs false
set_option linter.unusedVariables false
namespace Go.Proofs.YtcbnjokojefjmaaDoor.V04
open Go.RowKit Go.Lib Go.Proofs.YtcbnjokojefjmaaDoor.Wd Go.Proofs.YtcbnjokojefjmaaDoor.V01

/-- 'append(own, src...)', the source nil or not, in a region that draws its order -/
theorem step_append_rd {P : Program} {ops : Array Oper} {o : Oper} {a : Act} {w : World} {K : Act → World → Prop} {Q : Exit → Act → World → Prop} {E : Prop} (hgd : o.guard = none) (s x : Operand) (t : TypeId)
    (ho : o.op = .call { callee := .builtin .append, args := #[s, x], argTypes := #[t, t] })
    (base : Nat) (e : TypeId) (i : TypeInfo) (z : Value) (size bytes : Nat) (ht : P.underlying t = some (.slice e)) (hi : P.info? e = some i) (hz : i.zero = some z)
    (hsize : i.size = size) (hby : i.bytes = bytes) (hzs : z.cells.size = size) (hsz : 0 < size)
    (v : Value) (n : Nat) (xs : List Value) (hs : a.eval s = v) (hown : w.ownsRow base e size v n xs)
    (A : Option Addr) (m c : Nat) (news : List Value) (hx : a.eval x = .slice A m c) (hr : Rd size w A m c news) (h1 : ∀ u ∈ news, u.oneCell' = true)
    (h63 : n + m ≤ maxLen) (hbytes : (n + m) * bytes ≤ 140737488355328) (hbase : base ≤ w.heap.size)
    (h : ∀ A' c' w', w'.ownsRow base e size (.slice A' (n + m) c') (n + m) (xs ++ news) → w.grownBy w' v.ownBlock → K (a.put o.dst (.slice A' (n + m) c')) w') :
    if Region.wanted o (yielded ops a.tmps) = true then Oper.wp P o a w K Q else E := by
  have hw : Region.wanted o (yielded ops a.tmps) = true := by simp [Region.wanted, hgd]
  rw [if_pos hw]
  cases hA : A with
  | none =>
    obtain ⟨rfl, rfl⟩ := hr.none_ hA
    have hn : news = [] := List.eq_nil_of_length_eq_zero (by have := hr.len; omega)
    subst hn
    subst hA
    obtain ⟨A1, c1, hv⟩ := own_form hown
    have hrun := run_append_owned_none (P := P) (w := w) base t o.type e i size ht hi v n xs hown
    have := h A1 c1 w (by rw [Nat.add_zero, List.append_nil, ← hv]; exact hown) (World.grownBy.refl w _)
    rw [Nat.add_zero, ← hv] at this
    unfold Oper.wp execOp
    simp only [ho, resolve, invoke, builtin, Sem.run_bind, Sem.run_pure, Result.andThen_ok, List.map_toArray, List.map_cons, List.map_nil, hs, hx, hrun]
    exact this
  | some ad =>
    refine wp_append_own w s x t ho base e i z size bytes ht hi hz hsize hby hzs hsz v n xs hs hown ad m c news (by rw [hx, hA]) hr.len (hr.at_ ad hA) h1 h63 hbytes hbase fun v' w' h2 h3 _ => ?_
    obtain ⟨A1, c1, hv⟩ := own_form h2
    subst hv
    exact h A1 c1 w' h2 h3
theorem Vx.cs {w : World} {g : Nat} {K N : Int} {S : ByteArray} (h : Vx w g K N S) : w.cell? ⟨g, 0, none⟩ = some (.int .i64 K) ∧ w.cell? ⟨g, 1, none⟩ = some (.int .i64 N) ∧ w.cell? ⟨g, 2, none⟩ = some (.string S) := ⟨h.c0, h.c1, h.c2⟩
theorem Vx.drew {w : World} {g : Nat} {K N : Int} {S : ByteArray} (h : Vx w g K N S) : Vx w.drew g K N S := ⟨h.c0, h.c1, h.c2, h.lt⟩
theorem Vx.far {w w' : World} {g : Nat} {K N : Int} {S : ByteArray} {row : Option Nat} (h : Vx w g K N S) (hg : w.grownBy w' row) (hne : ∀ k, row = some k → g < k) : Vx w' g K N S :=
  ⟨keep_far hg h.c0 hne, keep_far hg h.c1 hne, keep_far hg h.c2 hne, World.block_lt_of_cell? _ _ (keep_far hg h.c2 hne)⟩

theorem own_zero {w : World} {b : Nat} {e : TypeId} {A : Option Addr} {n c : Nat} {xs : List Value} (h : w.ownsRow b e 1 (.slice A (0 + n) c) (0 + n) ([] ++ xs)) : w.ownsRow b e 1 (.slice A n c) n xs := by simpa using h
theorem bs_join {w : World} {b : Nat} {e : TypeId} {A : Option Addr} {n c : Nat} {l q f : List UInt8} (h : w.ownsRow b e 1 (.slice A n c) n (Lib.byteCells l ++ Lib.byteCells q)) (hf : l ++ q = f) (hl : f.length = n) : Bs w A c f := by
  rw [← bc_app, hf] at h
  subst hl
  exact Bs.own h
set_option maxRecDepth 20000 in
set_option maxHeartbeats 4000000 in
theorem bytes_law (K N : Int) (S : ByteArray) (A : Option Addr) (c len : Nat) (l : List UInt8) (B : Option Addr) (d blen : Nat) (m : List UInt8) (w : World) (hT : Tb w) (ha : Bs w A c l) (hlen : l.length = len) (hb0 : Bs w B d m) (hblen : m.length = blen) (h0 : -9223372036854775808 ≤ N) (h1 : N ≤ 9223372036854775807) :
    Calls Tryd.prog 3 #[vl K N S, .slice A len c, .slice B blen d] w fun e w' => e = .returned (.bool true) ∧ Below w.heap.size w w' := by
  obtain ⟨i0, hi, hz0, hz1, hz2⟩ := info_parts Wd.byte_info
  have b := below_box w (box 23 K N S) (Nat.le_refl _)
  have v1 := Vx.box w 23 K N S
  go_enter Tryd.func3, Tryd.ntmps3
  go_wp2_with fail
  refine (alive_any _ (hT.below b)).mono ?_
  rintro e w1 ⟨rfl, hb⟩
  replace v1 := v1.below hb
  replace b := b.trans (hb.mono b.size)
  clear hb
  have c0 := v1.c0
  have c1 := v1.c1
  have c2 := v1.c2
  by_cases hS : (5000 : Int) < (S.size : Int)
  · go_wp2
    go_ret
    exact ⟨rfl, b⟩
  by_cases hL : (100 : Int) < (len : Int)
  · go_wp2
    go_ret
    exact ⟨rfl, b⟩
  by_cases hM : (5000 : Int) < (blen : Int)
  · go_wp2
    go_ret
    exact ⟨rfl, b⟩
  obtain ⟨rt, hrt⟩ : ∃ rt, right K N S = rt := ⟨_, rfl⟩
  have q1 : ∀ d os, Calls Tryd.prog 9 #[vl K N S] (Sort.grow (redrawn w1 d) os) fun e w'' => e = .returned (.bool rt) ∧ ∃ p : Regrown, w'' = Sort.grow (redrawn w1 p.d) p.os := fun d os => Calls.regrown_of ((right_any K N S rt _ hrt).mono fun e w' ⟨h1, h2⟩ => ⟨h1, h2 ▸ below_box _ _ (Nat.le_refl _)⟩)
  have q2 : ∀ d os, Calls Tryd.prog 10 #[vl K N S] (Sort.grow (redrawn w1 d) os) fun e w'' => e = .returned (.bool rt) ∧ ∃ p : Regrown, w'' = Sort.grow (redrawn w1 p.d) p.os := fun d os => Calls.regrown_of ((refright_any K N S rt _ hrt).mono fun e w' ⟨h1, h2⟩ => ⟨h1, h2 ▸ below_box _ _ (Nat.le_refl _)⟩)
  have d1 := cell_regrown c0
  have d2 := cell_regrown c1
  have d3 := cell_regrown c2
  go_wp2_with fail
  refine wp_region_quiet_below (by kernel_rfl) (by kernel_rfl) ?_
  repeat (quiet_step (first | with_reducible exact q1 _ _ | with_reducible exact q2 _ _))
  refine wpQuiet_nil ?_
  intro _ hw'
  obtain ⟨⟨dq, osq⟩, hw''⟩ := hw'
  subst hw''
  clear d1 d2 d3 q1 q2 hrt
  have hb := below_regrown w1 dq osq
  generalize Sort.grow (redrawn w1 dq) osq = w2 at *
  replace v1 := v1.below hb
  replace b := b.trans (hb.mono b.size)
  clear hb c0 c1 c2
  have c0 := v1.c0
  have c1 := v1.c1
  have c2 := v1.c2
  have hvl := vbs_len K N S
  have hrb := rb_any K N S
  have hpu := vput_at A c len l K N S _ w2 (ha.below b) hlen (by omega) h0 h1 rfl
  obtain ⟨q, hq⟩ : ∃ q, vbs K N S = q := ⟨_, rfl⟩
  rw [hq] at hvl hrb hpu
  clear hq
  obtain ⟨f, hf⟩ : ∃ f, l ++ q = f := ⟨_, rfl⟩
  rw [hf] at hpu
  obtain ⟨n, hn⟩ : ∃ n, q.length = n := ⟨_, rfl⟩
  have hfl : f.length = len + n := by rw [← hf, List.length_append, hlen, hn]
  rw [hn] at hvl
  go_wp2_with fail
  refine hpu.mono ?_
  rintro e w3 ⟨A3, c3, rfl, hown3, hb⟩
  have hF := Bs.own hown3
  replace v1 := v1.below hb
  replace b := b.trans (hb.mono b.size)
  clear hb c0 c1 c2 hown3 hpu
  have c0 := v1.c0
  have c1 := v1.c1
  have c2 := v1.c2
  rw [hfl]
  go_wp2_with fail
  have bE : Below w3.heap.size w3 ((w3.alloc (.cells #[] 5)).drew) := (below_box w3 _ (Nat.le_refl _)).drew
  have hE : ((w3.alloc (.cells #[] 5)).drew).ownsRow w3.heap.size 5 1 (.slice (some ⟨w3.heap.size, 0, none⟩) 0 0) 0 [] := own_empty w3 5
  have vE := (v1.old (.cells #[] 5)).drew
  have hR1 : Rd 1 ((w3.alloc (.cells #[] 5)).drew) A len c (Lib.byteCells l) := hlen ▸ (ha.below b).below bE
  have g63 : 0 + len ≤ maxLen := by unfold maxLen; omega
  have g47 : (0 + len) * 1 ≤ 140737488355328 := by omega
  have f63 : len + n ≤ maxLen := by unfold maxLen; omega
  have f47 : (len + n) * 1 ≤ 140737488355328 := by omega
  have hff : (f == f) = true := by simp
  clear c0 c1 c2
  go_region_held3 (fun w' => w'.cell? ⟨w.heap.size, 0, none⟩ = some (.int .i64 K) ∧ w'.cell? ⟨w.heap.size, 1, none⟩ = some (.int .i64 N) ∧ w'.cell? ⟨w.heap.size, 2, none⟩ = some (.string S))
    (first | exact v6.cs | exact v5.cs | exact v4.cs | exact vE.cs | exact v1.cs | exact v1.drew.cs | go_keep)
    (first
      | (go_at_call 13; (with_reducible refine (hrb _ h0 h1).mono ?_); rintro e w5 ⟨A5, c5, rfl, hown5, hb5⟩; rw [hn] at hown5 ⊢; have hR5 := Rd.own hown5; have hown45 := own_below hown44 hb5; have b5 := b4.trans (hb5.mono b4.size); have v5 := v4.below hb5)
      | (go_at_call 12; (with_reducible refine (Wd.bytes_at A3 A6 c3 c6 (len + n) (len + n) f f true _ (hF.below b6) hB6 hfl hfl hff).mono ?_); rintro e w7 ⟨rfl, rfl⟩)
      | (refine step_append_rd rfl (.tmp 39) (.tmp 40) 24 rfl w3.heap.size 5 i0 _ 1 1 Tryd.underlying24 hi hz0 hz1 hz2 rfl (Nat.lt_succ_self 0) _ 0 [] rfl hE A len c (Lib.byteCells l) rfl hR1 (bc_one l) g63 g47 bE.size ?_; intro A4 c4 w4 hown4 hg4; have hown44 := own_zero hown4; have b4 := bE.grown hg4 bE.size (fun k hk => (hE.lt k hk).1); have v4 := vE.far hg4 (fun k hk => Option.some.inj hk ▸ v1.lt))
      | (refine step_append_rd rfl (.tmp 41) (.tmp 43) 24 rfl w3.heap.size 5 i0 _ 1 1 Tryd.underlying24 hi hz0 hz1 hz2 rfl (Nat.lt_succ_self 0) _ len (Lib.byteCells l) rfl hown45 A5 n c5 (Lib.byteCells q) rfl hR5 (bc_one q) f63 f47 b5.size ?_; intro A6 c6 w6 hown6 hg6; have hB6 := bs_join hown6 hf hfl; have b6 := b5.grown hg6 b5.size (fun k hk => (hown45.lt k hk).1); have v6 := v5.far hg6 (fun k hk => Nat.lt_of_lt_of_le v1.lt (hown45.lt k hk).1)))
  have bb := b.trans (b6.mono b.size)
  clear hown4 hown44 hown45 hown5 hown6 hg4 hg6 b4 b5 b6 v4 v5 v6 hB6 hF hb5 hR5 hE bE vE hR1 hff g63 g47 f63 f47 v1 b hrb
  go_wp2_with fail
  have hgm := vget_any B d blen m _ (hb0.below bb) hblen (by omega)
  refine hgm.mono ?_
  rintro e w7 ⟨rfl, hb7⟩
  have b7 := bb.trans (hb7.mono bb.size)
  clear hgm bb hb7
  have hrg := fun W (h : Below w.heap.size w W) => rvget_any B d blen m W (hb0.below h) hblen (by omega)
  generalize getV m = R at *
  obtain ⟨RK, RN, RS, Rk, Re⟩ := R
  unfold Rdv.v at *
  simp only at *
  have b8 := b7.alloc b7.size (.cells #[.int .i64 RK, .int .i64 RN, .string RS] 27)
  have v8 := Vx.box w7 27 RK RN RS
  go_wp2_with fail
  refine (hrg _ b8).mono ?_
  rintro e w9 ⟨rfl, hb9⟩
  have v9 := v8.below hb9
  have b9 := b8.trans (hb9.mono b8.size)
  clear hrg v8 hb9 b8 b7
  have c0 := v9.c0
  have c1 := v9.c1
  have c2 := v9.c2
  have lt9 := v9.lt
  go_wp2
  go_ret
  exact ⟨rfl, b9.alloc b9.size _⟩
end Go.Proofs.YtcbnjokojefjmaaDoor.V04
