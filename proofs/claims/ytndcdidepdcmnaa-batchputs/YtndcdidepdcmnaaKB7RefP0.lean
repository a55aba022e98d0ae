/-
  The document's Put of layer 7: what its walk wants.
  The document's Put of layer 7: a span's head, ten rows joined: one piece of the code, by itself.
-/
import Derived.Test.YtndcdidepdcmnaaKB7RefT
import Derived.Test.YtndcdidepdcmnaaKB7Put
import Derived.Test.YtndcdidepdcmnaaKB7Back
import Derived.Test.YtndcdidepdcmnaaKS05RefBytes
section
set_option linter.unusedSimpArgs false
set_option linter.unusedVariables false
namespace Go.Proofs.Ytndcdidepdcmnaa.B07
open Go.RowKit Go.Lib Go.Maps Go.Proofs.Ytndcdidepdcmnaa.Wd Go.Proofs.Ytndcdidepdcmnaa.V01 Go.Proofs.Ytndcdidepdcmnaa.V04 Go.Proofs.Ytndcdidepdcmnaa.P06
open Go.Proofs.Ytndcdidepdcmnaa.S05 (ix tb find_any refbytes_any)

/-- a number and its bytes -/
def Nm (N : Int) (r : List UInt8) : Prop := ∃ n : Nat, N = (n : Int) ∧ n ≤ 18446744073709551615 ∧ vby n = r
theorem rnum_z {N : Int} {r : List UInt8} (h : Nm N r) (w : World) : Calls Try.prog 30 #[.int .u64 N] w fun e w' => V04.Own w w' e r := by
  obtain ⟨n, hN, hn, hr⟩ := h
  exact rnumb_at N n r w hN hr hn
theorem Nm.len {N : Int} {r : List UInt8} (h : Nm N r) : r.length ≤ 10 := by
  obtain ⟨n, _, _, rfl⟩ := h
  exact S05.vby_le n

/-- rows of bytes -/
def Rows (w : World) (L : List (Option Addr × Nat × List UInt8)) : Prop := ∀ x ∈ L, Bs w x.1 x.2.1 x.2.2
theorem Rows.one {w : World} {A : Option Addr} {c : Nat} {r : List UInt8} (h : Bs w A c r) : Rows w [(A, c, r)] := fun x hx => by
  simp only [List.mem_singleton] at hx
  subst hx
  exact h
theorem Rows.below {w w' : World} {L : List (Option Addr × Nat × List UInt8)} (h : Rows w L) (hb : Below w.heap.size w w') : Rows w' L := fun x hx => (h x hx).below hb
theorem Rows.add {w : World} {L : List (Option Addr × Nat × List UInt8)} (h : Rows w L) {B : Nat} {A : Option Addr} {c : Nat} {r : List UInt8} (own : w.ownsRow B 5 1 (.slice A r.length c) r.length (Lib.byteCells r)) : Rows w ((A, c, r) :: L) := fun x hx => by
  rcases List.mem_cons.1 hx with rfl | hx
  · exact Bs.own own
  · exact h x hx
/-- two bytes written out -/
theorem Rows.two {w : World} {L : List (Option Addr × Nat × List UInt8)} (h : Rows w L) (x y : Int) (hx : 0 ≤ x ∧ x ≤ 255) (hy : 0 ≤ y ∧ y ≤ 255) :
    Rows (w.alloc (.cells #[.int .u8 x, .int .u8 y] 5)) [(some ⟨w.heap.size, 0, none⟩, 2, [byte x, byte y])] := by
  refine Rows.one (Bs.own (base := 0) (e := 5) ⟨by simp [Lib.byteCells], .inr ⟨w.heap.size, 2, #[.int .u8 x, .int .u8 y], rfl, Nat.zero_le _, heap_alloc_new w _, Nat.le_refl _, by unfold maxLen; omega, by simp, ?_⟩⟩)
  have e1 : ((byte x).toNat : Int) = x := by unfold byte; rw [UInt8.toNat_ofNat']; omega
  have e2 : ((byte y).toNat : Int) = y := by unfold byte; rw [UInt8.toNat_ofNat']; omega
  simp [Lib.byteCells, e1, e2]
theorem Rows.jn {w : World} {L : List (Option Addr × Nat × List UInt8)} (h : Rows w L) (ls : List (Option Addr × Nat × List UInt8)) (hs : ∀ x ∈ ls, x ∈ L) (cs : Array Value) (T : TypeId) (hc : ∀ i (hi : i < ls.length), cs[i]? = some (.slice ls[i].1 ls[i].2.2.length ls[i].2.1)) :
    Jn (w.alloc (.cells cs T)) w.heap.size ls := by
  refine ⟨fun i hi => ?_, fun i hi => (h _ (hs _ (List.getElem_mem hi))).below (below_box w _ (Nat.le_refl _))⟩
  exact ((Bk.new w T cs).cell i).trans (hc i hi)

theorem sz1 (w : World) (o : Obj) : (w.alloc o).heap.size = w.heap.size + 1 := by simp
theorem join10 {w : World} {G : Nat} {T : TypeId} {A0 A1 A2 A3 A4 A5 A6 A7 A8 A9 : Option Addr} {c0 c1 c2 c3 c4 c5 c6 c7 c8 c9 n0 n6 : Nat} {r0 r6 r1 r2 r3 r4 r5 r7 r8 r9 : List UInt8}
    (h : Rows w [(A9, c9, r9), (A8, c8, r8), (A7, c7, r7), (A5, c5, r5), (A4, c4, r4), (A3, c3, r3), (A2, c2, r2), (A1, c1, r1), (A0, c0, r0)]) (h' : Rows w [(A6, c6, r6)]) (r : List UInt8)
    (hG : w.heap.size = G) (h0 : r0.length = n0) (h6 : r6.length = n6) (hr : r0 ++ (r1 ++ (r2 ++ (r3 ++ (r4 ++ (r5 ++ (r6 ++ (r7 ++ (r8 ++ r9)))))))) = r) (hb : r.length ≤ 1000000000) :
    Calls Try.prog 28 #[.slice (some ⟨G, 0, none⟩) 10 10] (w.alloc (.cells #[.slice A0 n0 c0, .slice A1 r1.length c1, .slice A2 r2.length c2, .slice A3 r3.length c3, .slice A4 r4.length c4, .slice A5 r5.length c5, .slice A6 n6 c6, .slice A7 r7.length c7, .slice A8 r8.length c8, .slice A9 r9.length c9] T)) fun e w' =>
      V04.Own (w.alloc (.cells #[.slice A0 n0 c0, .slice A1 r1.length c1, .slice A2 r2.length c2, .slice A3 r3.length c3, .slice A4 r4.length c4, .slice A5 r5.length c5, .slice A6 n6 c6, .slice A7 r7.length c7, .slice A8 r8.length c8, .slice A9 r9.length c9] T)) w' e r := by
  have hall : Rows w ((A6, c6, r6) :: [(A9, c9, r9), (A8, c8, r8), (A7, c7, r7), (A5, c5, r5), (A4, c4, r4), (A3, c3, r3), (A2, c2, r2), (A1, c1, r1), (A0, c0, r0)]) := fun x hx => by
    rcases List.mem_cons.1 hx with rfl | hx
    · exact h' _ (List.mem_singleton.2 rfl)
    · exact h x hx
  have hs : ∀ x ∈ [(A0, c0, r0), (A1, c1, r1), (A2, c2, r2), (A3, c3, r3), (A4, c4, r4), (A5, c5, r5), (A6, c6, r6), (A7, c7, r7), (A8, c8, r8), (A9, c9, r9)], x ∈ ((A6, c6, r6) :: [(A9, c9, r9), (A8, c8, r8), (A7, c7, r7), (A5, c5, r5), (A4, c4, r4), (A3, c3, r3), (A2, c2, r2), (A1, c1, r1), (A0, c0, r0)]) := fun x hx => by
    simp only [List.mem_cons, List.not_mem_nil, or_false] at hx
    rcases hx with rfl | rfl | rfl | rfl | rfl | rfl | rfl | rfl | rfl | rfl <;> simp
  subst hG h0 h6
  refine join_any _ w.heap.size 10 10 _ r (by simp) (hall.jn _ hs _ T ?_) rfl (by omega) ?_ hb
  · intro i hi
    match i, hi with
    | 0, _ => rfl
    | 1, _ => rfl
    | 2, _ => rfl
    | 3, _ => rfl
    | 4, _ => rfl
    | 5, _ => rfl
    | 6, _ => rfl
    | 7, _ => rfl
    | 8, _ => rfl
    | 9, _ => rfl
  · rw [← hr]
    simp [jo]
theorem join3 {w : World} {T : TypeId} {A0 A1 A2 : Option Addr} {c0 c1 c2 n0 : Nat} {r0 r1 r2 : List UInt8} (h : Rows w [(A2, c2, r2), (A1, c1, r1), (A0, c0, r0)]) (r : List UInt8)
    (h0 : r0.length = n0) (hr : r0 ++ (r1 ++ r2) = r) (hb : r.length ≤ 1000000000) :
    Calls Try.prog 28 #[.slice (some ⟨w.heap.size, 0, none⟩) 3 3] (w.alloc (.cells #[.slice A0 n0 c0, .slice A1 r1.length c1, .slice A2 r2.length c2] T)) fun e w' =>
      V04.Own (w.alloc (.cells #[.slice A0 n0 c0, .slice A1 r1.length c1, .slice A2 r2.length c2] T)) w' e r := by
  subst h0
  refine join_any _ w.heap.size 3 3 [(A0, c0, r0), (A1, c1, r1), (A2, c2, r2)] r (by simp) (h.jn _ (by simp) _ T ?_) rfl (by omega) ?_ hb
  · intro i hi
    match i, hi with
    | 0, _ => rfl
    | 1, _ => rfl
    | 2, _ => rfl
  · rw [← hr]
    simp [jo]

/-- the ten numbers of a span -/
theorem nums {s : Sp} {t : List ByteArray} {m q3 q4 : Nat} (hn : OkN s) (h16 : m ≤ 16) (ht : t.length ≤ 4096) (h3 : ix t s.sv = q3) (h4 : ix t s.nm = q4) (l3 : q3 < t.length) (l4 : q4 < t.length) (o : List UInt8) :
    ∃ r1 r2 r3 r4 r5 r7 r8 r9 : List UInt8, Nm s.T r1 ∧ Nm s.I r2 ∧ Nm s.P r3 ∧ Nm (q3 : Int) r4 ∧ Nm (q4 : Int) r5 ∧ Nm s.t0 r7 ∧ Nm s.t1 r8 ∧ Nm (m : Int) r9 ∧
      o ++ (r1 ++ (r2 ++ (r3 ++ (r4 ++ (r5 ++ ([byte s.kd, byte s.st] ++ (r7 ++ (r8 ++ r9)))))))) = o ++ (headB s ++ twoB t s ++ midB s m) := by
  have z : ∀ {N : Int}, 0 ≤ N → N ≤ 18446744073709551615 → Nm N (vby N.toNat) := fun h1 h2 => ⟨_, by omega, by omega, rfl⟩
  refine ⟨vby s.T.toNat, vby s.I.toNat, vby s.P.toNat, vby q3, vby q4, vby s.t0.toNat, vby s.t1.toNat, vby m, z hn.a0 hn.a1, z hn.b0 hn.b1, z hn.c0 hn.c1, ⟨_, rfl, by omega, rfl⟩, ⟨_, rfl, by omega, rfl⟩, z hn.d0 hn.d1, z hn.e0 hn.e1, ⟨_, rfl, by omega, rfl⟩, ?_⟩
  subst h3 h4
  simp [headB, twoB, midB]
theorem ck_span {s : Sp} {l : List At} (h : ck (s, l) = 0) : (0 ≤ s.kd ∧ s.kd ≤ 255) ∧ (0 ≤ s.st ∧ s.st ≤ 255) ∧ l.length ≤ 16 := by
  obtain ⟨hb, hl⟩ := ck_ok h
  simp only [bad, inB, Bool.or_eq_false_iff, Bool.not_eq_false', decide_eq_true_eq] at hb
  simp only [lng, Bool.or_eq_false_iff, decide_eq_false_iff_not] at hl
  exact ⟨hb.1.1, hb.1.2, by omega⟩
theorem sps_len (t : List ByteArray) : ∀ (L : List Pn), (∀ x ∈ L, x.2.length ≤ 16) → (L.flatMap (spB t)).length ≤ L.length * 80260
  | [], _ => by simp
  | x :: L, h => by
    have h1 := sps_len t L fun y hy => h y (by simp [hy])
    have h2 := spB_len t x
    have h3 := h x (by simp)
    simp only [List.flatMap_cons, List.length_append, List.length_cons, Nat.add_mul]
    omega
theorem head_len (t : List ByteArray) (s : Sp) (m : Nat) : (headB s ++ twoB t s ++ midB s m).length ≤ 100 := by
  have a1 := vby_le s.T.toNat
  have a2 := vby_le s.I.toNat
  have a3 := vby_le s.P.toNat
  have a4 := vby_le s.t0.toNat
  have a5 := vby_le s.t1.toNat
  have a6 := vby_le (ix t s.sv)
  have a7 := vby_le (ix t s.nm)
  have a8 := vby_le m
  simp only [headB, twoB, midB, List.length_append, List.length_cons, List.length_nil]
  omega
end Go.Proofs.Ytndcdidepdcmnaa.B07
end

section
set_option linter.unusedSimpArgs false
set_option linter.unusedVariables false
namespace Go.Proofs.Ytndcdidepdcmnaa.B07
open Go.RowKit Go.Lib Go.Maps Go.Proofs.Ytndcdidepdcmnaa.Wd Go.Proofs.Ytndcdidepdcmnaa.V01 Go.Proofs.Ytndcdidepdcmnaa.V04 Go.Proofs.Ytndcdidepdcmnaa.P06
open Go.Proofs.Ytndcdidepdcmnaa.S05 (ix tb find_any refbytes_any)

/-- a piece of a body, by its number -/
def rg (id : Nat) : Code → Option Code
  | .region i ops d => if i == id then some (.region i ops d) else none
  | .seq a b => match rg id a with | some c => some c | none => rg id b
  | .cond _ a b => match rg id a with | some c => some c | none => rg id b
  | .block _ a => rg id a
  | .loop a => rg id a
  | .scope a => rg id a
  | _ => none

set_option maxRecDepth 20000 in
set_option maxHeartbeats 40000000 in
theorem reg27 (C : Code) (hC : Try.f11.body.bind (rg 27) = some C) (Q : Exit → Act → World → Prop) (B : Nat) (wC : World) (u0 u1 u2 u3 u4 u5 u6 u7 u8 u9 u11 u14 u15 u16 u17 u18 u19 u20 u21 u22 u23 u24 u25 u26 u27 u28 u29 u30 u31 u32 u33 u34 u35 u36 u37 u38 u39 u40 u41 u42 u43 u44 u45 u46 u47 u48 u49 u50 u51 u52 u53 u54 u55 u56 u57 u58 u59 u60 u61 u62 u63 u64 u65 u66 u67 u68 u69 u70 u71 u72 u73 u74 u75 u76 u77 u78 u79 u80 u81 u82 u83 u84 u85 u86 u87 u88 u89 u90 u91 u92 u93 u94 u95 u96 u97 u98 u99 u100 u101 u102 u103 u104 u105 u106 u107 u108 u109 u110 u111 u112 u113 u114 u115 u116 u117 u118 u119 u120 u121 u122 u123 u124 u125 u126 u127 u128 u129 u130 u131 u132 u133 u134 u135 u136 u137 u138 u139 u140 u141 u142 u143 u144 u145 u146 u147 u148 u149 u150 u151 u152 u153 u154 u155 u156 u157 u158 u159 u160 u161 u162 u163 u164 u165 u166 u167 u168 u169 u170 u171 u172 u173 u174 u175 u176 u177 u178 u179 u180 u181 u182 u183 u184 u185 u186 u187 u188 u189 u190 u191 u192 u193 u194 u195 : Value) (Ao A1 : Option Addr) (co lo g gt m c1 q3 q4 n1 : Nat) (s : Sp) (t : List ByteArray) (o o1 : List UInt8)
    (hokn : OkN s) (hkd : 0 ≤ s.kd ∧ s.kd ≤ 255) (hst : 0 ≤ s.st ∧ s.st ≤ 255) (h16 : m ≤ 16) (ht : t.length ≤ 4096) (hq3 : ix t s.sv = q3) (hq4 : ix t s.nm = q4) (hlt3 : q3 < t.length) (hlt4 : q4 < t.length) (hlo : o.length = lo) (ho1 : o ++ (headB s ++ twoB t s ++ midB s m) = o1) (hn1 : o1.length = n1) (hn1b : n1 ≤ 1000000000)
    (owno3 : wC.ownsRow B 5 1 (.slice Ao lo co) lo (Lib.byteCells o)) (hKc : Bk wC g 53 (spc s (.slice A1 m c1))) (hKt : Bk wC gt 3 #[.int .i64 (q3 : Int), .int .i64 (q4 : Int)]) (hwC : B ≤ wC.heap.size)
    (hQ : ∀ (A' : Option Addr) (c' : Nat) (wc : World) (v125 v126 v127 v128 v129 v130 v131 v132 v133 v134 v135 v136 v137 v138 v139 v140 v141 v142 v143 v144 v145 v146 v147 v148 v149 v150 v151 v152 v153 v154 v155 v156 v157 v158 v159 v160 v161 v162 v163 v164 : Value), wc.ownsRow B 5 1 (.slice A' n1 c') n1 (Lib.byteCells o1) → Below wC.heap.size wC wc → Q .normal { tmps := #[u0, u1, u2, u3, u4, u5, u6, u7, u8, u9, Value.slice A' n1 c', u11, Value.pointer (some ⟨g, 0, none⟩), Value.slice (some ⟨gt, 0, none⟩) 2 2, u14, u15, u16, u17, u18, u19, u20, u21, u22, u23, u24, u25, u26, u27, u28, u29, u30, u31, u32, u33, u34, u35, u36, u37, u38, u39, u40, u41, u42, u43, u44, u45, u46, u47, u48, u49, u50, u51, u52, u53, u54, u55, u56, u57, u58, u59, u60, u61, u62, u63, u64, u65, u66, u67, u68, u69, u70, u71, u72, u73, u74, u75, u76, u77, u78, u79, u80, u81, u82, u83, u84, u85, u86, u87, u88, u89, u90, u91, u92, u93, u94, u95, u96, u97, u98, u99, u100, u101, u102, u103, u104, u105, u106, u107, u108, u109, u110, u111, u112, u113, u114, u115, u116, u117, u118, u119, u120, u121, u122, u123, u124, v125, v126, v127, v128, v129, v130, v131, v132, v133, v134, v135, v136, v137, v138, v139, v140, v141, v142, v143, v144, v145, v146, v147, v148, v149, v150, v151, v152, v153, v154, v155, v156, v157, v158, v159, v160, v161, v162, v163, v164, u165, u166, u167, u168, u169, u170, u171, u172, u173, u174, u175, u176, u177, u178, u179, u180, u181, u182, u183, u184, u185, u186, u187, u188, u189, u190, u191, u192, u193, u194, u195], defers := [] } wc) :
    C.wp Try.prog Q { tmps := #[u0, u1, u2, u3, u4, u5, u6, u7, u8, u9, Value.slice Ao lo co, u11, Value.pointer (some ⟨g, 0, none⟩), Value.slice (some ⟨gt, 0, none⟩) 2 2, u14, u15, u16, u17, u18, u19, u20, u21, u22, u23, u24, u25, u26, u27, u28, u29, u30, u31, u32, u33, u34, u35, u36, u37, u38, u39, u40, u41, u42, u43, u44, u45, u46, u47, u48, u49, u50, u51, u52, u53, u54, u55, u56, u57, u58, u59, u60, u61, u62, u63, u64, u65, u66, u67, u68, u69, u70, u71, u72, u73, u74, u75, u76, u77, u78, u79, u80, u81, u82, u83, u84, u85, u86, u87, u88, u89, u90, u91, u92, u93, u94, u95, u96, u97, u98, u99, u100, u101, u102, u103, u104, u105, u106, u107, u108, u109, u110, u111, u112, u113, u114, u115, u116, u117, u118, u119, u120, u121, u122, u123, u124, u125, u126, u127, u128, u129, u130, u131, u132, u133, u134, u135, u136, u137, u138, u139, u140, u141, u142, u143, u144, u145, u146, u147, u148, u149, u150, u151, u152, u153, u154, u155, u156, u157, u158, u159, u160, u161, u162, u163, u164, u165, u166, u167, u168, u169, u170, u171, u172, u173, u174, u175, u176, u177, u178, u179, u180, u181, u182, u183, u184, u185, u186, u187, u188, u189, u190, u191, u192, u193, u194, u195], defers := [] } wC := by
  unfold Try.f11 at hC
  simp only [rg, Option.bind_some, Nat.reduceBEq, Bool.false_eq_true, if_false, if_true] at hC
  injection hC with hC
  subst hC
  have HQ := Lib.hid hQ
  have HLO := Lib.hid hlo
  have HN1 := Lib.hid hn1
  obtain ⟨r1, r2, r3, r4, r5, r7, r8, r9, nm1, nm2, nm3, nm4, nm5, nm7, nm8, nm9, hr⟩ := nums hokn h16 ht hq3 hq4 hlt3 hlt4 o
  rw [ho1] at hr
  have hrb : o1.length ≤ 1000000000 := by rw [hn1]; omega
  have hq : Rows wC.drew [(Ao, co, o)] := Rows.one ((Bs.own (by rw [hlo]; exact owno3)).below (⟨rfl, rfl, rfl, Nat.le_refl _, fun _ _ => rfl⟩ : Below wC.heap.size wC wC.drew))
  have bb : Below wC.heap.size wC wC.drew := ⟨rfl, rfl, rfl, Nat.le_refl _, fun _ _ => rfl⟩
  have hw3 : IntKind.u64.wrap (q3 : Int) = (q3 : Int) := IntWalk.u64_in _ (by omega)
  have hw4 : IntKind.u64.wrap (q4 : Int) = (q4 : Int) := IntWalk.u64_in _ (by omega)
  have hw9 : IntKind.u64.wrap (m : Int) = (m : Int) := IntWalk.u64_in _ (by omega)
  have hwk : IntKind.u8.wrap s.kd = s.kd := IntWalk.u8_in _ (by omega)
  have hws : IntKind.u8.wrap s.st = s.st := IntWalk.u8_in _ (by omega)
  have g1 := hKc.lt
  have g2 := hKt.lt
  have kf : ∀ w' : World, Below wC.heap.size wC w' → w'.cell? ⟨g, 0, none⟩ = some (.int .u64 s.T) ∧ w'.cell? ⟨g, 1, none⟩ = some (.int .u64 s.I) ∧ w'.cell? ⟨g, 2, none⟩ = some (.int .u64 s.P) ∧ w'.cell? ⟨g, 5, none⟩ = some (.int .i64 s.kd) ∧ w'.cell? ⟨g, 6, none⟩ = some (.int .i64 s.st) ∧ w'.cell? ⟨g, 7, none⟩ = some (.int .u64 s.t0) ∧ w'.cell? ⟨g, 8, none⟩ = some (.int .u64 s.t1) ∧ w'.cell? ⟨g, 9, none⟩ = some (.slice A1 m c1) ∧ w'.cell? ⟨gt, 0, none⟩ = some (.int .i64 (q3 : Int)) ∧ w'.cell? ⟨gt, 1, none⟩ = some (.int .i64 (q4 : Int)) := fun W hb => ⟨(hKc.below hb).cell 0, (hKc.below hb).cell 1, (hKc.below hb).cell 2, (hKc.below hb).cell 5, (hKc.below hb).cell 6, (hKc.below hb).cell 7, (hKc.below hb).cell 8, (hKc.below hb).cell 9, (hKt.below hb).cell 0, (hKt.below hb).cell 1⟩
  have HL2 : Hid ([byte s.kd, byte s.st].length = 2) := Lib.hid rfl
  have HR := Lib.hid hr
  have HRB := Lib.hid hrb
  have HKF := Lib.hid kf
  obtain ⟨x0, x1, x2, x3, x4, x5, x6, x7, x8, x9⟩ := kf _ bb
  clear hr hrb kf hokn owno3 hKc hKt hQ hlo hn1 hq3 hq4 ho1 hlt3 hlt4 ht
  go_region_held3 (fun w' => w'.cell? ⟨g, 0, none⟩ = some (.int .u64 s.T) ∧ w'.cell? ⟨g, 1, none⟩ = some (.int .u64 s.I) ∧ w'.cell? ⟨g, 2, none⟩ = some (.int .u64 s.P) ∧ w'.cell? ⟨g, 5, none⟩ = some (.int .i64 s.kd) ∧ w'.cell? ⟨g, 6, none⟩ = some (.int .i64 s.st) ∧ w'.cell? ⟨g, 7, none⟩ = some (.int .u64 s.t0) ∧ w'.cell? ⟨g, 8, none⟩ = some (.int .u64 s.t1) ∧ w'.cell? ⟨g, 9, none⟩ = some (.slice A1 m c1) ∧ w'.cell? ⟨gt, 0, none⟩ = some (.int .i64 (q3 : Int)) ∧ w'.cell? ⟨gt, 1, none⟩ = some (.int .i64 (q4 : Int)))
      (first | exact HKF.out _ bb | exact HKF.out _ (bb.alloc bb.size _) | exact HKF.out _ ((bb.alloc bb.size _).alloc (bb.alloc bb.size _).size _) | go_keep)
      (first
        | (go_at_call 30; (with_reducible refine (rnum_z (by assumption) _).mono ?_); rintro e wn ⟨An, cn, rfl, own, b⟩; (first | (replace hqm := hqm.below b; replace hq := (hq.below b).add own; replace bb := bb.trans (b.mono bb.size)) | (replace hq := (hq.below b).add own; replace bb := bb.trans (b.mono bb.size)) | (have hqm := (hq.two s.kd s.st hkd hst).below b; (try change Rows _ [(some ⟨wC.heap.size, 0, none⟩, 2, _)] at hqm); replace hq := ((hq.below (below_box _ _ (Nat.le_refl _))).below b).add own; replace bb := (bb.alloc bb.size _).trans (b.mono (bb.alloc bb.size _).size))); clear own b)
        | (go_at_call 28; (first | (with_reducible refine (join10 hq hqm o1 rfl HLO.out HL2.out HR.out HRB.out).mono ?_) | (with_reducible refine (join10 (hq.below (below_box _ _ (Nat.le_refl _))) (hq.two s.kd s.st hkd hst) o1 (sz1 _ _) HLO.out HL2.out HR.out HRB.out).mono ?_)); rintro e wj ⟨Aj, cj, rfl, ownj, bj⟩; rw [HN1.out] at ownj ⊢; (first | (have ownz := own_base ownj (Nat.le_trans hwC (bb.alloc bb.size _).size); replace bb := (bb.alloc bb.size _).trans (bj.mono (bb.alloc bb.size _).size)) | (have ownz := own_base ownj (Nat.le_trans hwC ((bb.alloc bb.size _).alloc (bb.alloc bb.size _).size _).size); replace bb := ((bb.alloc bb.size _).alloc (bb.alloc bb.size _).size _).trans (bj.mono ((bb.alloc bb.size _).alloc (bb.alloc bb.size _).size _).size))); clear ownj bj))
  all_goals
    exact HQ.out Aj cj wj _ _ _ _ _ _ _ _ _ _ _ _ _ _ _ _ _ _ _ _ _ _ _ _ _ _ _ _ _ _ _ _ _ _ _ _ _ _ _ _ ownz bb
end Go.Proofs.Ytndcdidepdcmnaa.B07
end
