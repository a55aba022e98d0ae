/-
  Until of the queue.
-/
import Derived.Test.YtephbjomplmkgaaU12Sort
import Derived.Test.YtephbjomplmkgaaU12Its
import Derived.Laws.MakeOwn
set_option linter.unusedSimpArgs false
set_option linter.unusedVariables false
namespace Go.Proofs.Ytephbjomplmkgaa.U12
open Go.RowKit Go.Lib Go.Maps Go.Proofs.Ytephbjomplmkgaa.Wd

/-- 'make' of m elements, the length spelled as the walk spells it -/
theorem make_n {t e : TypeId} {i : TypeInfo} {z : Value} (ht : Try.prog.underlying t = some (.slice e)) (hi : Try.prog.info? e = some i) (hz : i.zero = some z) (m : Nat) (hm : m ≤ 100000) (hb : i.bytes ≤ 1000) (X : Int) (hX : (m : Int) = X) (W : World) :
    (Instr.makeSlice t (.int .i64 X) (.int .i64 X)).run Try.prog W = .ok (.slice (some ⟨W.heap.size, 0, none⟩) m m) (W.alloc (.cells (madeCells z.cells (m * i.size)) e)) := by
  subst hX
  have few : i.bytes * m ≤ 1000 * 100000 := Nat.mul_le_mul hb hm
  have few2 : (i.bytes : Int) * (m : Int) ≤ 281474976710656 := by
    rw [← Int.natCast_mul]
    omega
  simpa using run_make (P := Try.prog) W t e i z ht hi hz .i64 .i64 m m (by omega) (by omega) few2 (by omega)
theorem u64_info : (Try.prog.info? 27).map (fun i => (i.zero, i.size, i.bytes)) = some (some (.int .u64 0), 1, 8) := by kernel_rfl
def zrow (n : Nat) : Obj := .cells (madeCells #[.int .u64 0] (n * 1)) 27
theorem make_ids (n : Nat) (hn : n ≤ 100000) (W : World) : (Instr.makeSlice 37 (.int .i64 (n : Int)) (.int .i64 (n : Int))).run Try.prog W = .ok (.slice (some ⟨W.heap.size, 0, none⟩) n n) (W.alloc (zrow n)) := by
  obtain ⟨i0, hi, hz0, hz1, hz2⟩ := info_of u64_info
  have := make_n (t := 37) (e := 27) Try.underlying37 hi hz0 n hn (by omega) _ rfl W
  rw [hz1] at this
  exact this
/-- a number's cell -/
def uc (x : Nat) : Value := .int .u64 (x : Int)
/-- the ids told so far, the rest 0 -/
def fill (ids : List Nat) (k : Nat) : List Value := (ids.take k).map uc ++ List.replicate (ids.length - k) (.int .u64 0)
theorem fill_step (ids : List Nat) (k : Nat) (h : k < ids.length) : (fill ids k).set k (uc ids[k]) = fill ids (k + 1) := by
  unfold fill
  have e1 : ids.length - k = (ids.length - (k + 1)) + 1 := by omega
  have e2 : ((ids.take k).map uc).length = k := by simp; omega
  rw [e1, List.replicate_succ, List.set_append_right _ _ (by omega), e2, Nat.sub_self, List.set_cons_zero, List.take_succ_eq_append_getElem h, List.map_append, List.append_assoc]
  rfl
theorem fill_start (ids : List Nat) (n : Nat) (h : ids.length = n) (hm : n ≤ 100000) (w : World) : (w.alloc (zrow n)).ownsRow w.heap.size 27 1 (.slice (some ⟨w.heap.size, 0, none⟩) n n) n (fill ids 0) := by
  have h1 := World.ownsRow_lit (base := w.heap.size) (e := 27) (size := 1) w (madeCells #[.int .u64 0] (n * 1)) n (Nat.le_refl _) (by unfold maxLen; omega) (by simp [madeCells])
  rw [toList_madeCells_one, Nat.mul_one] at h1
  unfold fill
  simpa [h, zrow] using h1
theorem fill_end (ids : List Nat) : fill ids ids.length = ids.map uc := by unfold fill; simp
/-- what Until tells -/
def UtOut (w : World) (ids : List Nat) (e : Ending) (w' : World) : Prop := ∃ U d, e = .returned (.slice U ids.length d) ∧ Us w' U d ids ∧ Below w.heap.size w w'
section
variable {w w' : World} {q : Nat} {o : List Nat} {m : List It}
set_option maxRecDepth 20000 in
set_option maxHeartbeats 2000000 in
theorem qunt_core (t n p : Nat) (qv : Value) (v : World) (ha : Calls Try.prog 19 #[qv] v fun e w' => e = .returned (.pointer (some ⟨p, 0, none⟩)) ∧ w = w') (h : Ob w p o m) (ht : (t : Int) ≤ 18446744073709551615) (hn : ((due m t).map (·.1)).length = n) :
    Calls Try.prog 14 #[qv, .int .u64 (t : Int)] v (UtOut w ((due m t).map (·.1))) := by
  have hnum := h.num
  obtain ⟨A, c, b, N, K, D, h1, hP, hH, hM, rfl⟩ := h
  have hlen := ul_len (t := t) hM hH (f := N) (Nat.le_refl _)
  have hperm := ul_perm (t := t) hM hH (f := N) (Nat.le_refl _)
  have hN := h1.few
  have hu := until_at (base := w.heap.size) t ht N 0 none 0 0 [] w (by omega) h1 h1.lt (Nat.le_refl _) (World.ownsRow_nil _ _ _ _) rfl (by simp; omega) (by omega)
  rw [List.nil_append] at hu
  have HE := Lib.hid (show ∀ l' : List It, l'.Perm (ul K N t N 0) → l'.Pairwise Le → l' = due m t from fun l' p1 p2 => sorted_one _ _ (p1.trans hperm) p2 (due_sorted hM.sorted t))
  have hln : (ul K N t N 0).length = n := by rw [hperm.length_eq, ← hn, List.length_map]
  have HN := Lib.hid hn
  have HU := Lib.hid (show ∀ x : Nat, x ∈ (due m t).map (·.1) → (x : Int) ≤ 18446744073709551615 from fun x hx => by
    obtain ⟨y, hy, rfl⟩ := List.mem_map.1 hx
    exact (hnum y (List.mem_filter.1 hy).1).1)
  have hn5 : n ≤ 1000 := by omega
  clear h1 hP hH hM hperm hlen hnum hn
  generalize hll : ul K N t N 0 = ll at *
  clear hll
  generalize hdd : due m t = dd at *
  clear hdd
  generalize hids : dd.map (·.1) = ids at *
  have HI := Lib.hid hids
  have HDD := Lib.hid (show ∀ k (hk : k < dd.length) (hk2 : k < ids.length), dd[k].1 = ids[k] from fun k hk hk2 => by subst hids; simp)
  clear hids
  go_enter Try.func14, Try.ntmps14
  go_wp2_with fail
  refine ha.mono ?_
  rintro e w1 ⟨rfl, rfl⟩
  clear ha
  go_wp2_with fail
  refine hu.mono ?_
  rintro e w2 ⟨B, n2, d, rfl, hn2, hown, hb2⟩
  have e2 : n2 = n := hn2.symm.trans hln
  subst e2
  have hs := sort_at hown hn2 (by omega)
  have hbB : ∀ k ∈ (B.map (·.block)).toList, w.heap.size ≤ k := fun k hk => by
    cases B with
    | none => simp at hk
    | some a =>
      simp at hk
      subst hk
      exact (hown.lt _ rfl).1
  clear hu hown hln
  go_wp2_with fail
  refine hs.mono ?_
  rintro e w3 ⟨rfl, l', p1, p2, hrd, hF⟩
  have e3 := HE.out l' p1 p2
  subst e3
  have hb3 : Below w.heap.size w w3 := hb2.trans (hF.below hb2.size hbB)
  have HB3 := Lib.hid hb3
  have hmk := fun W => make_ids n2 (by omega) W
  have hits : Its w3 B d l' := by
    unfold Its
    have : l'.length = n2 := by rw [← HN.out, ← HI.out, List.length_map]
    rw [this]
    exact hrd
  clear hs p1 p2 hrd hF hb2 hb3 hn2 HE hbB
  go_wp2_with fail
  have HR0 := Lib.hid (fill_start ids n2 HN.out (by omega) w3)
  have HB0 := Lib.hid (show Below w3.heap.size w3 (w3.alloc (zrow n2)) from (Below.refl _ _).alloc (Nat.le_refl _) _)
  have hit2 := Lib.hid hits
  obtain ⟨gi, hgi⟩ : ∃ gi, w3.heap.size = gi := ⟨_, rfl⟩
  rw [hgi] at HR0 HB0 ⊢
  have HG := Lib.hid hgi
  have hll : l'.length = n2 := by rw [← HN.out, ← HI.out, List.length_map]
  have HLL := Lib.hid hll
  clear hits hmk hgi hll
  generalize w3.alloc (zrow n2) = w4 at *
  go_loopw [20] (fun v wr => ∃ k : Nat, v = .int .i64 (k : Int) ∧ k ≤ n2 ∧ Hid (wr.ownsRow gi 27 1 (.slice (some ⟨gi, 0, none⟩) n2 n2) n2 (fill ids k)) ∧ Hid (Below gi w3 wr)) (fun v _ => n2 - (intOf v).toNat)
  case atStart => exact ⟨0, rfl, Nat.zero_le _, HR0, HB0⟩
  case round =>
    clear HR0 HB0 w4
    obtain ⟨k, rfl, hk, HR, HB⟩ := hrel
    by_cases hkn : k < n2
    · have hb : Below w3.heap.size w3 wr := by rw [HG.out]; exact HB.out
      have hkl : k < l'.length := by rw [HLL.out]; exact hkn
      obtain ⟨ad, pp, rfl, hpp, x0, x1⟩ := (Its.below hit2.out hb).get hkl
      have hid := HDD.out k hkl (by rw [HN.out]; exact hkn)
      have hki : k < ids.length := by rw [HN.out]; exact hkn
      have hcell : wr.cell? ⟨gi, k, none⟩ = (fill ids k)[k]? := HR.out.cellAt k (by omega)
      have hfz := HR.out.frozenAt k
      obtain ⟨u0, hu0⟩ : ∃ u0, (fill ids k)[k]? = some u0 := ⟨_, List.getElem?_eq_getElem (by rw [HR.out.1]; omega)⟩
      rw [hu0] at hcell
      have hst := (HR.out.stored k (uc ids[k])).1
      rw [fill_step ids k hki] at hst
      have hgl : gi < wr.heap.size := World.block_lt_of_cell? _ _ hcell
      have hbs : Below gi w3 (wr.setCell ⟨gi, k, none⟩ (uc ids[k])) := HB.out.setCell (by show gi ≤ gi; omega) _
      obtain ⟨z0, hz0⟩ : ∃ z : Int, (l'[k].1 : Int) = z := ⟨_, rfl⟩
      obtain ⟨z1, hz1⟩ : ∃ z : Int, (l'[k].2 : Int) = z := ⟨_, rfl⟩
      have hz : uc ids[k] = .int .u64 z0 := by unfold uc; rw [← hid, hz0]
      rw [hz0] at x0
      rw [hz1] at x1
      rw [hz] at hst hbs
      have HS2 := Lib.hid (hst.alloc (.cells #[.int .u64 z0, .int .u64 z1] 53))
      have HB2 := Lib.hid (hbs.alloc (by simp; omega) (.cells #[.int .u64 z0, .int .u64 z1] 53))
      have y2 : (0 : Int) ≤ (k : Int) := by omega
      have y3 : ((k : Int)).toNat = k := by omega
      clear hb hid hki hu0 hst hbs hz0 hz1 hz HR HB
      go_wp2
      go_roundw
      case rel => exact ⟨k + 1, by go_num, by omega, HS2, HB2⟩
      case measure => first | go_num | (simp [intOf]; omega)
    · have e : k = n2 := by omega
      subst e
      have hout := Lib.hid (show UtOut w ids (.returned (.slice (some ⟨gi, 0, none⟩) k k)) wr from by
        have h1 := HR.out
        have h2 := fill_end ids
        rw [HN.out] at h2
        rw [h2] at h1
        have hb : Below w3.heap.size w3 wr := by rw [HG.out]; exact HB.out
        have hu : Us wr (some ⟨gi, 0, none⟩) k ids := ⟨by rw [HN.out]; exact Rd.own h1, HU.out⟩
        refine ⟨some ⟨gi, 0, none⟩, k, by rw [HN.out], hu, HB3.out.trans (hb.mono HB3.out.size)⟩)
      clear HR HB
      go_wp2
      go_ret
      exact hout.out
theorem qunt_at (t n : Nat) (h0 : Qu w q o m) (ht : (t : Int) ≤ 18446744073709551615) (hn : ((due m t).map (·.1)).length = n) :
    Calls Try.prog 14 #[.pointer (some ⟨q, 0, none⟩), .int .u64 (t : Int)] w (UtOut w ((due m t).map (·.1))) := by
  obtain ⟨p, o, h, rfl⟩ := h0
  exact qunt_core t n p _ w (all_at h.c) h.ob ht hn
end
end Go.Proofs.Ytephbjomplmkgaa.U12
