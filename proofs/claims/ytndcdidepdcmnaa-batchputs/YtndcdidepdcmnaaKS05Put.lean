/-
  What add and Put of strtab do.
-/
import Derived.Test.YtndcdidepdcmnaaKS05Shelf
namespace Go.Proofs.Ytndcdidepdcmnaa.S05
open Go.RowKit Go.Lib Go.Maps Go.Proofs.Ytndcdidepdcmnaa.Wd

/-- the table behind 't.numbers = map[string]int{}' -/
theorem made {w : World} {p : Nat} {A : Option Addr} {c : Nat} (h : Tb w p [] A c none) : Tb ((w.alloc (.map #[] 0)).setCell ⟨p, 1, none⟩ (.map (some w.heap.size))) p [] A c (some w.heap.size) ∧
    Fr (own p A none) w ((w.alloc (.map #[] 0)).setCell ⟨p, 1, none⟩ (.map (some w.heap.size))) := by
  have hp : p < w.heap.size := h.lt p (own_p _ _ _)
  have hbox : (w.alloc (.map #[] 0)).heap[p]? = some (.cells #[.slice A 0 c, .map none] 94 (0, 0)) := (Below.heap_alloc w _ p hp).trans h.box
  refine ⟨⟨?_, ?_, .inr ⟨w.heap.size, .map [], rfl, ?_, Tells.empty⟩, h.apart, h.nodup, h.len, h.size⟩, ?_⟩
  · rw [heap_setCell_same _ p 1 _ _ _ hbox]
    simp
  · refine row_kept h.row fun k hk => ?_
    have hkl : k < w.heap.size ∧ k ≠ p := by
      cases A with
      | none => cases hk
      | some a =>
        injection hk with hk
        subst hk
        exact ⟨h.lt _ (own_row _ _ _), h.apart a rfl⟩
    rw [heap_setCell_other _ _ k _ hkl.2, Below.heap_alloc w _ k hkl.1]
  · exact map_kept (World.ownsMap_made w _ _ _) (heap_setCell_other _ _ _ _ (by simp; omega))
  · exact (Fr.of_below _ ((Below.refl _ _).alloc (Nat.le_refl _) _)).trans (Fr.setCell (o := own p A none) _ _ _ (own_p _ _ _)) (Sub.refl _ _)

/-- the table behind 't.texts = append(t.texts, s)' and 't.numbers[s] = n' -/
theorem grown {w w2 w4 : World} {p : Nat} {L : List ByteArray} {A A' : Option Addr} {c c' bm : Nat} {s : ByteArray} {D : DataW Unit} (h : Tb w p L A c (some bm)) (hs : s ∉ L) (hz : s.size ≤ 4096) (hl : L.length + 1 ≤ 4096)
    (hT : Tells D L) (hown : Own w bm L.length D)
    (hrow : w2.ownsRow 0 9 1 (.slice A' (L.length + 1) c') (L.length + 1) (sc L ++ [.string s])) (hg : (w.alloc (.cells #[.string s] 9)).grownBy w2 (Value.slice A L.length c).ownBlock)
    (hat : (Value.slice A' (L.length + 1) c').ownBlock = (Value.slice A L.length c).ownBlock ∨ (Value.slice A' (L.length + 1) c').ownBlock = some (w.alloc (.cells #[.string s] 9)).heap.size)
    (hown4 : Own w4 bm (L.length + 1) (D.put (kl s) (num L.length))) (hg4 : (w2.setCell ⟨p, 0, none⟩ (.slice A' (L.length + 1) c')).grownBy w4 (some bm)) :
    Tb w4 p (L ++ [s]) A' c' (some bm) ∧ Fr (own p A (some bm)) w w4 ∧ Sub w (own p A' (some bm)) (own p A (some bm)) := by
  have hp : p < w.heap.size := h.lt p (own_p _ _ _)
  have hbm : bm < w.heap.size := h.lt bm (own_map _ _ _)
  have hpb : p ≠ bm := fun e => by
    obtain ⟨es, cl, hb, _⟩ := hown
    rw [← e, h.box] at hb
    cases hb
  have hrn : ∀ k, (Value.slice A L.length c).ownBlock = some k → k ∈ own p A (some bm) ∧ k ≠ p ∧ k < w.heap.size := fun k hk => by
    cases A with
    | none => cases hk
    | some a =>
      injection hk with hk
      subst hk
      exact ⟨own_row _ _ _, h.apart a rfl, h.lt _ (own_row _ _ _)⟩
  have ha' : ∀ a, A' = some a → a.block ≠ p ∧ (a.block ∈ own p A (some bm) ∨ w.heap.size ≤ a.block) ∧ a.block < w2.heap.size := fun a e => by
    subst e
    have hlt : a.block < w2.heap.size := by
      rcases hrow.2 with ⟨hv, _⟩ | ⟨g, cap, cur, hv, _, hg, _⟩
      · cases hv
      · injection hv with h1
        cases h1
        exact lt_of_block hg
    rcases hat with h1 | h1
    · obtain ⟨h2, h3, h4⟩ := hrn a.block h1.symm
      exact ⟨h3, .inl h2, hlt⟩
    · injection h1 with h1
      simp at h1
      exact ⟨by omega, .inr (by omega), hlt⟩
  have hbox2 : w2.heap[p]? = some (.cells #[.slice A L.length c, .map (some bm)] 94 (0, 0)) := by
    rw [hg.block p (by simp; omega) (fun e => (hrn p e.symm).2.1 rfl), Below.heap_alloc w _ p hp]
    exact h.box
  have hbox3 : (w2.setCell ⟨p, 0, none⟩ (.slice A' (L.length + 1) c')).heap[p]? = some (.cells #[.slice A' (L.length + 1) c', .map (some bm)] 94 (0, 0)) := by
    rw [heap_setCell_same _ p 0 _ _ _ hbox2]
    simp
  have hrowmap : ∀ a, A' = some a → a.block ≠ bm := fun a e eb => by
    subst e
    rcases hrow.2 with ⟨hv, _⟩ | ⟨g, cap, cur, hv, _, hgg, _⟩
    · cases hv
    · injection hv with h1
      cases h1
      have eb' : g = bm := eb
      subst eb'
      have e2 : w2.heap[g]? = w.heap[g]? := by
        rw [hg.block g (by simp; omega) (fun e => ?_), Below.heap_alloc w _ g hbm]
        have h3 := h.row
        rcases h3.2 with ⟨hv, _⟩ | ⟨g', cap', cur', hv', _, hg', _⟩
        · rw [hv] at e; cases e
        · rw [hv'] at e
          injection e with e
          have e' : g = g' := e
          rw [← e'] at hg'
          obtain ⟨es, cl, hb, _⟩ := hown
          rw [hb] at hg'
          cases hg'
      obtain ⟨es, cl, hb, _⟩ := hown
      rw [e2, hb] at hgg
      cases hgg
  refine ⟨⟨?_, ?_, .inr ⟨bm, _, rfl, ?_, hT.put s hs⟩, fun a e => (ha' a e).1, ?_, by simp; omega, ?_⟩, ?_, ?_⟩
  · rw [List.length_append, List.length_singleton, hg4.block p (by simp; exact Nat.lt_of_lt_of_le (by simpa using Nat.lt_succ_of_lt hp) hg.size) (fun e => hpb (by injection e))]
    exact hbox3
  · rw [List.length_append, List.length_singleton, sc_app]
    refine row_kept hrow fun k hk => ?_
    cases A' with
    | none => cases hk
    | some a =>
      injection hk with hk
      subst hk
      rw [hg4.block _ (by simpa using (ha' a rfl).2.2) (fun e => hrowmap a rfl (by injection e)), heap_setCell_other _ _ _ _ (ha' a rfl).1]
  · rw [List.length_append, List.length_singleton]
    exact hown4
  · rw [List.nodup_append]
    refine ⟨h.nodup, by simp, fun a ha b hb e => ?_⟩
    simp only [List.mem_singleton] at hb
    subst hb; subst e
    exact hs ha
  · intro t ht
    rcases List.mem_append.1 ht with h1 | h1
    · exact h.size t h1
    · simp only [List.mem_singleton] at h1
      rw [h1]; exact hz
  · refine (((Fr.of_below _ ((Below.refl _ _).alloc (Nat.le_refl _) _)).trans (Fr.of_grown (o := own p A (some bm)) hg (fun k hk => (hrn k hk).1)) (Sub.refl _ _)).trans (Fr.setCell (o := own p A (some bm)) _ _ _ (own_p _ _ _)) (Sub.refl _ _)).trans (Fr.of_grown (o := own p A (some bm)) hg4 (fun k hk => ?_)) (Sub.refl _ _)
    injection hk with hk
    subst hk
    exact own_map _ _ _
  · intro x hx
    rcases own_cases hx with rfl | ⟨a, rfl, rfl⟩ | e
    · exact .inl (own_p _ _ _)
    · exact (ha' a rfl).2.1
    · injection e with e
      subst e
      exact .inl (own_map _ _ _)

/-- 'append(own, x)' of one element of one cell, with where the new row lies -/
theorem wpList_append_one_at {P : Program} (w : World) {ops : Array Oper} {rest : List Oper} {o : Oper} {a : Act} {Q : Exit → Act → World → Prop} (hgd : o.guard = none) (s x : Operand) (t : TypeId)
    (ho : o.op = .call { callee := .builtin .append, args := #[s, x], argTypes := #[t, t] })
    (base : Nat) (e : TypeId) (i : TypeInfo) (z : Value) (bytes : Nat) (ht : P.underlying t = some (.slice e)) (hi : P.info? e = some i) (hz : i.zero = some z)
    (hsize : i.size = 1) (hby : i.bytes = bytes) (hzs : z.cells.size = 1)
    (v : Value) (n : Nat) (xs : List Value) (hs : a.eval s = v) (hown : w.ownsRow base e 1 v n xs)
    (u : Value) (b : Nat) (hb : b = w.heap.size) (hx : a.eval x = .slice (some ⟨b, 0, none⟩) 1 1) (h1 : u.oneCell' = true)
    (h63 : n + 1 ≤ maxLen) (hbytes : (n + 1) * bytes ≤ 140737488355328) (hbase : base ≤ w.heap.size)
    (h : ∀ A' c' w', w'.ownsRow base e 1 (.slice A' (n + 1) c') (n + 1) (xs ++ [u]) → (w.alloc (.cells #[u] e)).grownBy w' v.ownBlock →
      ((Value.slice A' (n + 1) c').ownBlock = v.ownBlock ∨ (Value.slice A' (n + 1) c').ownBlock = some (w.alloc (.cells #[u] e)).heap.size) → wpList P ops Q rest (a.put o.dst (.slice A' (n + 1) c')) w') :
    wpList P ops Q (o :: rest) a (w.alloc (.cells #[u] e)) := by
  subst hb
  refine wpList_append_own_at _ hgd s x t ho base e i z 1 bytes ht hi hz hsize hby hzs (by decide) v n xs hs (hown.alloc _) ⟨w.heap.size, 0, none⟩ 1 1 [u] hx rfl ?_ ?_ h63 hbytes ?_ fun v' w' h2 h3 _ h5 => ?_
  · exact cell_one_new _ _ _
  · intro q hq
    simp only [List.mem_singleton] at hq
    subst hq
    exact h1
  · simp; omega
  · obtain ⟨A1, c1, hv⟩ := own_form h2
    subst hv
    exact h A1 c1 w' h2 h3 h5

/-- what is behind the store of the row, ahead of the map's -/
theorem mid {w w2 : World} {p : Nat} {L : List ByteArray} {A : Option Addr} {c bm : Nat} {s : ByteArray} (v : Value) (h : Tb w p L A c (some bm)) (hg : (w.alloc (.cells #[.string s] 9)).grownBy w2 (Value.slice A L.length c).ownBlock)
    {D : DataW Unit} (hown : Own w bm L.length D) :
    w2.cell? ⟨p, 0, none⟩ = some (.slice A L.length c) ∧ w2.cell? ⟨p, 1, none⟩ = some (.map (some bm)) ∧ w2.frozen? ⟨p, 0, none⟩ = false ∧ Own (w2.setCell ⟨p, 0, none⟩ v) bm L.length D := by
  have hp : p < w.heap.size := h.lt p (own_p _ _ _)
  have hbm : bm < w.heap.size := h.lt bm (own_map _ _ _)
  have hpb : p ≠ bm := fun e => by
    obtain ⟨es, cl, hb, _⟩ := hown
    rw [← e, h.box] at hb
    cases hb
  have hne : ∀ k, (Value.slice A L.length c).ownBlock = some k → k ≠ p := fun k hk => by
    cases A with
    | none => cases hk
    | some a =>
      injection hk with hk
      subst hk
      exact h.apart a rfl
  have hbox2 : w2.heap[p]? = some (.cells #[.slice A L.length c, .map (some bm)] 94 (0, 0)) := by
    rw [hg.block p (by simp; omega) (fun e => hne p e.symm rfl), Below.heap_alloc w _ p hp]
    exact h.box
  refine ⟨by simp [World.cell?, hbox2], by simp [World.cell?, hbox2], by simp [World.frozen?, hbox2], ?_⟩
  refine map_kept hown ?_
  rw [heap_setCell_other _ _ _ _ (fun e => hpb e.symm), hg.block bm (by simp; omega) (fun e => ?_), Below.heap_alloc w _ bm hbm]
  rcases h.row.2 with ⟨hv, _⟩ | ⟨g', cap', cur', hv', _, hg', _⟩
  · rw [hv] at e; cases e
  · rw [hv'] at e
    injection e with e
    have e' : bm = g' := e
    rw [← e'] at hg'
    obtain ⟨es, cl, hb, _⟩ := hown
    rw [hb] at hg'
    cases hg'

theorem map_is (w : World) (bm : Nat) : (binOp .eql 92 (.map (some bm)) (.map none)).run Try.prog w = .ok (.bool false) w := by kernel_rfl
theorem map_not (w : World) : (binOp .eql 92 (.map none) (.map none)).run Try.prog w = .ok (.bool true) w := by kernel_rfl

set_option maxRecDepth 20000 in
set_option maxHeartbeats 1000000 in
theorem add_some (w : World) (p : Nat) (L : List ByteArray) (A : Option Addr) (c bm : Nat) (s : ByteArray) (h : Tb w p L A c (some bm)) (hs : s ∉ L) (hz : s.size ≤ 4096) (hl : L.length + 1 ≤ 4096) :
    Calls Try.prog 68 #[.pointer (some ⟨p, 0, none⟩), .string s] w fun e w' =>
      e = .returned (.int .i64 L.length) ∧ ∃ o', Tab w' p (L ++ [s]) o' ∧ Fr (own p A (some bm)) w w' ∧ Sub w o' (own p A (some bm)) := by
  obtain ⟨i0, hi, hz0, hz1, hz2⟩ := info_parts text_info
  have c0 := h.c0
  have c1 := h.c1
  have hp : p < w.heap.size := h.lt p (own_p _ _ _)
  obtain ⟨D, hown, hT⟩ : ∃ D, Own w bm L.length D ∧ Tells D L := by
    rcases h.map with ⟨hm, _⟩ | ⟨bm', D, hm, h1, h2⟩
    · cases hm
    · cases hm
      exact ⟨D, h1, h2⟩
  have hrow := h.row
  obtain ⟨n, hn⟩ : ∃ n, L.length = n := ⟨_, rfl⟩
  have HN := Lib.hid hn
  rw [hn] at c0 hrow hl ⊢
  clear hn
  have hmp := map_is w bm
  go_enter Try.func68, Try.ntmps68
  go_wp2_with (at_builtin; refine wpList_append_one_at _ rfl (.tmp 24) (.tmp 26) 69 rfl 0 9 i0 _ 16 Try.underlying69 hi hz0 hz1 hz2 rfl _ n (sc L) rfl hrow (.string s) _ rfl rfl rfl ?d1 ?d2 ?d3 ?_)
  case d1 => unfold maxLen; omega
  case d2 => omega
  case d3 => omega
  intro A' c' w2 hrow2 hg2 hat
  have hg2' : (w.alloc (.cells #[.string s] 9)).grownBy w2 (Value.slice A L.length c).ownBlock := by rw [HN.out]; exact hg2
  obtain ⟨k0, k1, kf, hown3⟩ := mid (.slice A' (n + 1) c') h hg2' hown
  rw [HN.out] at k0 hown3
  clear c0 c1
  go_wp2_with (at_mapUpdate; refine wpList_mapUpdate_own _ rfl _ _ _ 92 rfl 9 3 law Try.underlying92 _ bm n D rfl hown3 ?d4 _ _ _ rfl rfl (key_ok (s := s) (by omega)) _ [] (plainElem_int Try.underlying3 (a := (n : Int)) ?d5) ?_)
  case d4 => unfold maxLen; omega
  case d5 => exact WalkArith.wf_i64 (by omega)
  intro w4 hown4 hg4
  have G := grown (A' := A') (c' := c') (w2 := w2) (w4 := w4) h hs hz (by rw [HN.out]; exact hl) hT hown (by rw [HN.out]; exact hrow2) hg2' (by rw [HN.out, show (w.alloc (.cells #[.string s] 9)).heap.size = w.heap.size + 1 from by simp]; exact hat) (by rw [HN.out]; exact hown4) (by rw [HN.out]; exact hg4)
  clear hown4 hg4 hown3 hat hrow2 hg2 k0 k1 kf hrow hown
  go_wp2
  go_ret
  exact ⟨rfl, _, ⟨_, _, _, G.1, rfl⟩, G.2.1, G.2.2⟩

set_option maxRecDepth 20000 in
set_option maxHeartbeats 1000000 in
theorem add_none (w : World) (p : Nat) (A : Option Addr) (c : Nat) (s : ByteArray) (h0 : Tb w p [] A c none) (hz : s.size ≤ 4096) :
    Calls Try.prog 68 #[.pointer (some ⟨p, 0, none⟩), .string s] w fun e w' =>
      e = .returned (.int .i64 0) ∧ ∃ o', Tab w' p [s] o' ∧ Fr (own p A none) w w' ∧ Sub w o' (own p A none) := by
  obtain ⟨i0, hi, hz0, hz1, hz2⟩ := info_parts text_info
  have hmm := @run_makeMap Try.prog
  have c0 := h0.c0
  have c1 := h0.c1
  have f1 := h0.f 1
  have hp : p < w.heap.size := h0.lt p (own_p _ _ _)
  have hmp := map_not w
  obtain ⟨h, hF⟩ := made h0
  rw [World.setCell_alloc_past (w := w) (.map #[] 0) p 1 (.map (some w.heap.size)) hp] at h hF
  have hsz1 : ((w.setCell ⟨p, 1, none⟩ (.map (some w.heap.size))).alloc (.map #[] 0)).heap.size = w.heap.size + 1 := by simp
  have hown : Own ((w.setCell ⟨p, 1, none⟩ (.map (some w.heap.size))).alloc (.map #[] 0)) w.heap.size 0 (.map []) := by
    rcases h.map with ⟨hm, _⟩ | ⟨bm', D, hm, h1, h2⟩
    · cases hm
    · cases hm
      have := World.ownsMap_made (w.setCell ⟨p, 1, none⟩ (.map (some w.heap.size))) Try.prog 9 (plainElem (H := Unit) Try.prog 3)
      simpa using this
  have hrow : ((w.setCell ⟨p, 1, none⟩ (.map (some w.heap.size))).alloc (.map #[] 0)).ownsRow 0 9 1 (.slice A 0 c) 0 [] := h.row
  go_enter Try.func68, Try.ntmps68
  go_wp2_with (at_builtin; refine wpList_append_one_at ((w.setCell ⟨p, 1, none⟩ (.map (some w.heap.size))).alloc (.map #[] 0)) rfl (.tmp 24) (.tmp 26) 69 rfl 0 9 i0 _ 16 Try.underlying69 hi hz0 hz1 hz2 rfl (.slice A 0 c) 0 [] rfl hrow (.string s) _ hsz1.symm rfl rfl ?d1 ?d2 ?d3 ?_)
  case d1 => unfold maxLen; omega
  case d2 => omega
  case d3 => omega
  intro A' c' w2 hrow2 hg2 hat
  obtain ⟨k0, k1, kf, hown3⟩ := mid (.slice A' 1 c') h hg2 hown
  have HO := Lib.hid hown
  have HS := Lib.hid hsz1
  have HG := Lib.hid hg2
  have HA := Lib.hid hat
  have HR := Lib.hid hrow2
  clear c0 c1 hg2 hat hown hsz1 hrow hrow2
  go_wp2_with (at_mapUpdate; refine wpList_mapUpdate_own _ rfl _ _ _ 92 rfl 9 3 law Try.underlying92 _ w.heap.size 0 (.map []) rfl hown3 ?d4 _ _ _ rfl rfl (key_ok (s := s) (by omega)) _ [] (plainElem_int Try.underlying3 (a := 0) ?d5) ?_)
  case d4 => unfold maxLen; omega
  case d5 => exact WalkArith.wf_i64 (by omega)
  intro w4 hown4 hg4
  have G := grown (A' := A') (c' := c') (w2 := w2) (w4 := w4) (L := []) (s := s) h (by simp) hz (by simp) Tells.empty HO.out HR.out HG.out (by rw [show (((w.setCell ⟨p, 1, none⟩ (.map (some w.heap.size))).alloc (.map #[] 0)).alloc (.cells #[.string s] 9)).heap.size = w.heap.size + 1 + 1 from by simp]; exact HA.out) hown4 hg4
  clear hown4 hg4 hown3 k0 k1 kf
  go_wp2
  go_ret
  have hsub : Sub w (own p A (some w.heap.size)) (own p A none) := fun x hx => by
    rcases own_cases hx with rfl | ⟨a, rfl, rfl⟩ | e
    · exact .inl (own_p _ _ _)
    · exact .inl (own_row _ _ _)
    · injection e with e
      exact .inr (by omega)
  exact ⟨rfl, _, ⟨_, _, _, G.1, rfl⟩, hF.trans G.2.1 hsub, hsub.trans G.2.2 (by rw [HS.out]; omega)⟩

theorem add_any (w : World) (p : Nat) (L : List ByteArray) (o : List Nat) (s : ByteArray) (n : Nat) (h : Tab w p L o) (hs : s ∉ L) (hz : s.size ≤ 4096) (hn : L.length = n) (hl : n + 1 ≤ 4096) :
    Calls Try.prog 68 #[.pointer (some ⟨p, 0, none⟩), .string s] w fun e w' =>
      e = .returned (.int .i64 n) ∧ ∃ o', Tab w' p (L ++ [s]) o' ∧ Fr o w w' ∧ Sub w o' o := by
  subst hn
  obtain ⟨A, c, M, h, rfl⟩ := h
  cases M with
  | some bm => exact add_some w p L A c bm s h hs hz hl
  | none =>
    have hL : L = [] := by
      rcases h.map with ⟨_, h1⟩ | ⟨bm, D, h1, _⟩
      · exact h1
      · cases h1
    subst hL
    exact add_none w p A c s h hz

/-- what 'v, there := t.numbers[s]' tells -/
theorem look_nil (w : World) (s : ByteArray) (hz : s.size ≤ 4096) : (Instr.lookup 92 (.map none) (.string s) true).run Try.prog w = .ok (.tuple #[.int .i64 0, .bool false]) w := by
  rw [Maps.look_nil true law Try.underlying92 (zero_int w) (key_ok (s := s) (by omega))]
  rfl
theorem look_not {w : World} {bm n : Nat} {D : DataW Unit} {L : List ByteArray} (hown : Own w bm n D) (hT : Tells D L) {s : ByteArray} (hs : s ∉ L) (hz : s.size ≤ 4096) :
    ∃ c : Int, (Instr.lookup 92 (.map (some bm)) (.string s) true).run Try.prog w = .ok (.tuple #[.int .i64 c, .bool false]) w := by
  obtain ⟨v, ps, hrun, hv⟩ := hown.look_ok law Try.underlying92 (zero_int w) (plainElem_int Try.underlying3 (by decide)) (key_ok (s := s) (by omega))
  obtain ⟨c, rfl, _, _⟩ := plainElem_int_inv Try.underlying3 hv
  have hh : Maps.has D (kl s) = false := by
    cases hb : Maps.has D (kl s)
    · rfl
    · exact absurd ((hT.has s).1 hb) hs
  rw [hh] at hrun
  exact ⟨c, hrun⟩
set_option maxRecDepth 20000 in
theorem look_there {w : World} {bm n : Nat} {D : DataW Unit} {L : List ByteArray} (hown : Own w bm n D) (hT : Tells D L) {s : ByteArray} (hs : s ∈ L) (hz : s.size ≤ 4096) :
    (Instr.lookup 92 (.map (some bm)) (.string s) true).run Try.prog w = .ok (.tuple #[.int .i64 (ix L s), .bool true]) w := by
  obtain ⟨v, ps, hrun, hv⟩ := hown.look_ok law Try.underlying92 (zero_int w) (plainElem_int Try.underlying3 (by decide)) (key_ok (s := s) (by omega))
  obtain ⟨c, rfl, hc, _⟩ := plainElem_int_inv Try.underlying3 hv
  have hat := hT.at_ (ix L s) (ix_lt hs)
  rw [ix_get hs] at hat
  have hc' := congrArg Prod.fst hc
  have e : num (ix L s) = .lit (.int .i64 c) := hat.symm.trans hc'
  unfold num at e
  injection e with e
  injection e with _ e
  rw [(hT.has s).2 hs, ← e] at hrun
  exact hrun


set_option maxRecDepth 20000 in
theorem put_there (w : World) (p : Nat) (L : List ByteArray) (o : List Nat) (s : ByteArray) (n : Nat) (h : Tab w p L o) (hs : s ∈ L) (hn : ix L s = n) :
    Calls Try.prog 58 #[.pointer (some ⟨p, 0, none⟩), .string s] w fun e w' => e = .returned (.tuple #[.int .i64 n, .int .i64 0]) ∧ w = w' := by
  have hz := h.size s hs
  obtain ⟨A, c, M, h, rfl⟩ := h
  have c1 := h.c1
  rcases h.map with ⟨_, h1⟩ | ⟨bm, D, rfl, hown, hT⟩
  · rw [h1] at hs; cases hs
  · have hk := look_there hown hT hs hz
    rw [hn] at hk
    clear h hn
    go_enter Try.func58, Try.ntmps58
    go_wp2
    go_ret2
    exact ⟨rfl, rfl⟩
set_option maxRecDepth 20000 in
theorem put_long (w : World) (p : Nat) (s : ByteArray) (hz : 4096 < s.size) (hm : s.size ≤ 65536) :
    Calls Try.prog 58 #[.pointer (some ⟨p, 0, none⟩), .string s] w fun e w' => e = .returned (.tuple #[.int .i64 0, .int .i64 2]) ∧ w = w' := by
  have h1 : (4096 : Int) < s.size := by omega
  go_enter Try.func58, Try.ntmps58
  go_wp2
  go_ret2
  exact ⟨rfl, rfl⟩
theorem put_nil (w : World) (s : ByteArray) :
    Calls Try.prog 58 #[.pointer none, .string s] w fun e w' => e = .returned (.tuple #[.int .i64 0, .int .i64 3]) ∧ w = w' := by
  go_enter Try.func58, Try.ntmps58
  go_wp2
  go_ret2
  exact ⟨rfl, rfl⟩
set_option maxRecDepth 20000 in
theorem put_new (w : World) (p : Nat) (L : List ByteArray) (o : List Nat) (s : ByteArray) (n : Nat) (h : Tab w p L o) (hs : s ∉ L) (hz : s.size ≤ 4096) (hn : L.length = n) (hl : n + 1 ≤ 4096) :
    Calls Try.prog 58 #[.pointer (some ⟨p, 0, none⟩), .string s] w fun e w' =>
      e = .returned (.tuple #[.int .i64 n, .int .i64 0]) ∧ ∃ o', Tab w' p (L ++ [s]) o' ∧ Fr o w w' ∧ Sub w o' o := by
  have h0 := h
  obtain ⟨A, c, M, h, rfl⟩ := h
  have c0 := h.c0
  have c1 := h.c1
  rw [hn] at c0
  obtain ⟨q, hk⟩ : ∃ q : Int, (Instr.lookup 92 (.map M) (.string s) true).run Try.prog w = .ok (.tuple #[.int .i64 q, .bool false]) w := by
    rcases h.map with ⟨rfl, _⟩ | ⟨bm, D, rfl, hown, hT⟩
    · exact ⟨0, look_nil w s hz⟩
    · exact look_not hown hT hs hz
  have HN := Lib.hid hn
  clear h hn
  go_enter Try.func58, Try.ntmps58
  go_wp2_with fail
  refine (Try.clone_any s _ (by omega)).mono ?_
  rintro e w1 ⟨rfl, hb⟩
  have h1 := h0.below hb
  clear hk c0 c1
  go_wp2_with fail
  refine (add_any _ p L _ s n h1 hs hz HN.out hl).mono ?_
  rintro e w2 ⟨rfl, o', hT, hF, hS⟩
  go_wp2
  go_ret2
  exact ⟨rfl, o', hT, (Fr.of_below _ hb).trans hF (Sub.refl _ _), (Sub.refl w _).trans hS hb.size⟩
end Go.Proofs.Ytndcdidepdcmnaa.S05
