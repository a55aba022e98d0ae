/-
  shard.empty, shard.New.
-/
import Derived.Test.YtdmibolbpgondaaGreatKX15SortS
import Derived.BigRegion
import Derived.Deep.RegionHeld3
set_option linter.unusedSimpArgs false
set_option linter.unusedVariables false
namespace Go.Proofs.YtdmibolbpgondaaGreat.X15
open Go.RowKit Go.Lib Go.Maps Go.Proofs.YtdmibolbpgondaaGreat.Wd Go.Proofs.YtdmibolbpgondaaGreat.P06
open Go.Proofs.YtdmibolbpgondaaGreat.B07 (Pn OkN OkA OkP Spn)
open Go.Proofs.YtdmibolbpgondaaGreat.U12 (It Lt Qu NwOut new_at)

/-- an empty room -/
structure Emp (p : Pr) (G S B : Nat) : Prop where
  G : p.G = G
  S : p.S = S
  B : p.B = B
  n : p.n = 0
  h : p.h = 0
  bi : p.bi = fun _ => none
  qi : p.qi = fun _ => none
  nt : p.Nt = 0
  ne : p.Ne = 0
  dq : p.dq = []
def EmOut (w : World) (G S B : Nat) (e : Ending) (w' : World) : Prop :=
  ∃ col p, e = .returned (.pointer (some ⟨p.r, 0, none⟩)) ∧ Rx w' col p ∧ Emp p G S B ∧ (∀ x, col x ≠ 0 → w.heap.size ≤ x) ∧ Below w.heap.size w w'
theorem mp_block {w : World} {b : Nat} (h : w.heap[b]? = some (.map #[] 0)) : Mp w b (fun _ => none) 0 :=
  ⟨.map [], ⟨#[], 0, h, ⟨by simp, MapKept.stamped_empty 0, by simp⟩, Nat.le_refl _, rfl⟩, tidy_empty, rfl, fun x => by simp [Maps.has], fun _ _ h => by cases h⟩
theorem em_of {w w' : World} {G S B r bt be q : Nat} {o : List Nat} (hr : w'.heap[r]? = some (.cells #[.int .u64 (G : Int), .int .i64 (S : Int), .int .i64 (B : Int), .int .i64 0, .int .i64 0, .map (some bt), .pointer (some ⟨q, 0, none⟩), .map (some be)] 103 (0, 0)))
    (hb1 : w'.heap[bt]? = some (.map #[] 0)) (hb2 : w'.heap[be]? = some (.map #[] 0)) (hq : Qu w' q o []) (h1 : bt ≠ be) (h2 : bt ∉ o) (h3 : be ∉ o) (h4 : r ∉ o) (hbl : Below w.heap.size w w') (hlo : ∀ x ∈ o, w.heap.size ≤ x) (l1 : w.heap.size ≤ bt) (l2 : w.heap.size ≤ be) (l3 : w.heap.size ≤ r) :
    EmOut w G S B (.returned (.pointer (some ⟨r, 0, none⟩))) w' := by
  have n1 : r ≠ bt := fun e => by subst e; rw [hr] at hb1; cases hb1
  have n2 : r ≠ be := fun e => by subst e; rw [hr] at hb2; cases hb2
  have cell : ∀ j u, #[Value.int .u64 (G : Int), .int .i64 (S : Int), .int .i64 (B : Int), .int .i64 0, .int .i64 0, .map (some bt), .pointer (some ⟨q, 0, none⟩), .map (some be)][j]? = some u → w'.cell? ⟨r, j, none⟩ = some u := fun j u hu => by simp [World.cell?, hr, hu]
  have d1 : ∀ x, x ∈ o → x ≠ r ∧ x ≠ bt ∧ x ≠ be := fun x hx => ⟨fun e => h4 (e ▸ hx), fun e => h2 (e ▸ hx), fun e => h3 (e ▸ hx)⟩
  refine ⟨fun x => if x = r then 1 else if x = bt then 2 else if x = be then 3 else if x ∈ o then 4 else 0, ⟨r, bt, be, q, G, S, B, 0, 0, fun _ => none, fun _ => none, 0, 0, fun _ _ => none, fun _ => 0, fun _ => [], []⟩, rfl, ⟨⟨cell 0 _ rfl, cell 1 _ rfl, cell 2 _ rfl, cell 3 _ rfl, cell 4 _ rfl, cell 5 _ rfl, cell 6 _ rfl, cell 7 _ rfl, fun j => by simp [World.frozen?, hr]⟩, by simp, mp_block hb1, by simp [n1.symm], mp_block hb2, by simp [n2.symm, h1.symm], ⟨o, hq, fun x hx => by simp [d1 x hx, hx]⟩, fun t b hb => (by cases hb), fun t q hq => (by cases hq), fun x hx => ?_⟩, ⟨rfl, rfl, rfl, rfl, rfl, rfl, rfl, rfl, rfl, rfl⟩, fun x hx => ?_, hbl⟩
  · by_cases e1 : x = r
    · subst e1; exact (Array.getElem?_eq_some_iff.1 hr).1
    · by_cases e2 : x = bt
      · subst e2; exact (Array.getElem?_eq_some_iff.1 hb1).1
      · by_cases e3 : x = be
        · subst e3; exact (Array.getElem?_eq_some_iff.1 hb2).1
        · by_cases e4 : x ∈ o
          · exact hq.lt x e4
          · simp [e1, e2, e3, e4] at hx
  · by_cases e1 : x = r
    · subst e1; exact l3
    · by_cases e2 : x = bt
      · subst e2; exact l1
      · by_cases e3 : x = be
        · subst e3; exact l2
        · by_cases e4 : x ∈ o
          · exact hlo x e4
          · simp [e1, e2, e3, e4] at hx
abbrev zm : Obj := .map #[] 0
/-- the box of 'most', and the empty maps made so far -/
structure Es (w : World) (g : Nat) (S B : Nat) (l : List Nat) (W : World) : Prop where
  x0 : W.cell? ⟨g, 0, none⟩ = some (.int .i64 (S : Int))
  x1 : W.cell? ⟨g, 1, none⟩ = some (.int .i64 (B : Int))
  b : Below w.heap.size w W
  m : ∀ x ∈ l, W.heap[x]? = some zm ∧ w.heap.size ≤ x
  nd : l.Nodup
section
variable {w W W' : World} {g S B q : Nat} {l o : List Nat}
theorem Es.cells (h : Es w g S B l W) : W.cell? ⟨g, 0, none⟩ = some (.int .i64 (S : Int)) ∧ W.cell? ⟨g, 1, none⟩ = some (.int .i64 (B : Int)) := ⟨h.x0, h.x1⟩
theorem Es.below (h : Es w g S B l W) (hb : Below W.heap.size W W') : Es w g S B l W' :=
  ⟨(hb.cell (World.block_lt_of_cell? _ _ h.x0)).trans h.x0, (hb.cell (World.block_lt_of_cell? _ _ h.x1)).trans h.x1, h.b.trans (hb.mono h.b.size), fun x hx => ⟨(hb.block x (Array.getElem?_eq_some_iff.1 (h.m x hx).1).1).trans (h.m x hx).1, (h.m x hx).2⟩, h.nd⟩
theorem Es.box (h : Es w g S B l W) (ob : Obj) : Es w g S B l (W.alloc ob) := h.below ((Below.refl _ _).alloc (Nat.le_refl _) ob)
theorem Es.drew (h : Es w g S B l W) : Es w g S B l W.drew := h.below (Below.refl _ _).drew
theorem Es.al (h : Es w g S B l W) : Es w g S B (W.heap.size :: l) (W.alloc zm) := by
  have k := h.box zm
  refine ⟨k.x0, k.x1, k.b, fun x hx => ?_, List.nodup_cons.2 ⟨fun hm => ?_, h.nd⟩⟩
  · rcases List.mem_cons.1 hx with rfl | hx
    · exact ⟨World.alloc_heap_new W _, h.b.size⟩
    · exact k.m x hx
  · have := (Array.getElem?_eq_some_iff.1 (h.m _ hm).1).1
    omega
theorem Es.al2 (h : Es w g S B l W) : Es w g S B ((W.heap.size + 1) :: W.heap.size :: l) ((W.alloc zm).alloc zm) := by
  have := h.al.al
  rwa [World.size_alloc] at this
/-- and the queue -/
structure E1 (w : World) (g : Nat) (S B : Nat) (l : List Nat) (q : Nat) (o : List Nat) (W : World) : Prop where
  s : Es w g S B l W
  hq : Qu W q o []
  no : ∀ x ∈ l, x ∉ o
  ge : ∀ x ∈ o, w.heap.size ≤ x
theorem E1.of (h : Es w g S B l W) (hq : Qu W' q o []) (ho : ∀ x ∈ o, W.heap.size ≤ x) (hb : Below W.heap.size W W') : E1 w g S B l q o W' :=
  ⟨h.below hb, hq, fun x hx hm => by have := (Array.getElem?_eq_some_iff.1 (h.m x hx).1).1; have := ho x hm; omega, fun x hx => Nat.le_trans h.b.size (ho x hx)⟩
theorem E1.box (h : E1 w g S B l q o W) (ob : Obj) : E1 w g S B l q o (W.alloc ob) := ⟨h.s.box ob, h.hq.below ((Below.refl _ _).alloc (Nat.le_refl _) ob), h.no, h.ge⟩
theorem E1.al (h : E1 w g S B l q o W) : E1 w g S B (W.heap.size :: l) q o (W.alloc zm) :=
  ⟨h.s.al, (h.box zm).hq, fun x hx hm => by
    rcases List.mem_cons.1 hx with rfl | hx
    · have := h.hq.lt _ hm; omega
    · exact h.no x hx hm, h.ge⟩
theorem E1.al2 (h : E1 w g S B l q o W) : E1 w g S B ((W.heap.size + 1) :: W.heap.size :: l) q o ((W.alloc zm).alloc zm) := by
  have := h.al.al
  rwa [World.size_alloc] at this
theorem E1.cells (h : E1 w g S B l q o W) : W.cell? ⟨g, 0, none⟩ = some (.int .i64 (S : Int)) ∧ W.cell? ⟨g, 1, none⟩ = some (.int .i64 (B : Int)) := h.s.cells
theorem E1.fin {x y G r : Nat} (h : E1 w g S B [x, y] q o W) (hr : W.heap.size = r) : EmOut w G S B (.returned (.pointer (some ⟨r, 0, none⟩))) (W.alloc (.cells #[.int .u64 (G : Int), .int .i64 (S : Int), .int .i64 (B : Int), .int .i64 0, .int .i64 0, .map (some x), .pointer (some ⟨q, 0, none⟩), .map (some y)] 103)) := by
  subst hr
  have k := h.box (.cells #[.int .u64 (G : Int), .int .i64 (S : Int), .int .i64 (B : Int), .int .i64 0, .int .i64 0, .map (some x), .pointer (some ⟨q, 0, none⟩), .map (some y)] 103)
  have h1 := k.s.m x (by simp)
  have h2 := k.s.m y (by simp)
  have hn := k.s.nd
  simp at hn
  exact em_of (World.alloc_heap_new W _) h1.1 h2.1 k.hq hn (k.no x (by simp)) (k.no y (by simp)) (fun hm => by have := h.hq.lt _ hm; omega) k.s.b k.ge h1.2 h2.2 h.s.b.size
theorem E1.swap {x y : Nat} (h : E1 w g S B [x, y] q o W) : E1 w g S B [y, x] q o W :=
  ⟨⟨h.s.x0, h.s.x1, h.s.b, fun z hz => h.s.m z (by simp at hz ⊢; exact hz.symm), by have := h.s.nd; simp at this ⊢; exact fun e => this e.symm⟩, h.hq, fun z hz => h.no z (by simp at hz ⊢; exact hz.symm), h.ge⟩
end
set_option maxRecDepth 20000 in
set_option maxHeartbeats 4000000 in
theorem empty_at (G S B : Nat) (w : World) : Calls Tryz.prog 28 #[.int .u64 (G : Int), .agg #[.int .i64 (S : Int), .int .i64 (B : Int)]] w (EmOut w G S B) := by
  have hmm := @run_makeMap Tryz.prog
  have hnew := fun W => new_at W
  go_enter Tryz.func28, Tryz.ntmps28
  go_wp2_with fail
  obtain ⟨V, hV⟩ : ∃ V, w.alloc (.cells #[.int .i64 (S : Int), .int .i64 (B : Int)] 75) = V := ⟨_, rfl⟩
  have x0 : V.cell? ⟨w.heap.size, 0, none⟩ = some (.int .i64 (S : Int)) := by subst hV; simp
  have x1 : V.cell? ⟨w.heap.size, 1, none⟩ = some (.int .i64 (B : Int)) := by subst hV; simp
  have b0 : Below w.heap.size w V := by subst hV; exact (Below.refl _ _).alloc (Nat.le_refl _) _
  have S9 : Es w w.heap.size S B [] V := ⟨x0, x1, b0, (fun x hx => by cases hx), List.nodup_nil⟩
  rw [hV]
  clear hV x0 x1 b0
  generalize hg : w.heap.size = g at *
  have S0 := S9.drew
  have Z1 := S9.al.drew
  have Z2 := S9.al2.drew
  have hgl : g < V.heap.size := World.block_lt_of_cell? _ _ S9.x0
  have x0 := S9.x0
  have x1 := S9.x1
  clear S9
  go_region_held3 (fun w' => w'.cell? ⟨g, 0, none⟩ = some (.int .i64 (S : Int)) ∧ w'.cell? ⟨g, 1, none⟩ = some (.int .i64 (B : Int)))
    (first | (with_reducible exact S1.cells) | (with_reducible exact S1.al.cells) | (with_reducible exact S1.al2.cells) | (with_reducible exact (S1.box _).cells) | (with_reducible exact (S1.al.box _).cells) | (with_reducible exact (S1.al2.box _).cells) | (with_reducible exact S0.cells) | (with_reducible exact Z1.cells) | (with_reducible exact Z2.cells))
    (first
      | (go_at_call 49; (with_reducible refine (hnew _).mono ?_); rintro e w1 ⟨q, o, rfl, hQ, ho, hb⟩; have S1 := E1.of S0 hQ ho hb)
      | (go_at_call 49; (with_reducible refine (hnew _).mono ?_); rintro e w1 ⟨q, o, rfl, hQ, ho, hb⟩; have S1 := E1.of Z1 hQ ho hb)
      | (go_at_call 49; (with_reducible refine (hnew _).mono ?_); rintro e w1 ⟨q, o, rfl, hQ, ho, hb⟩; have S1 := E1.of Z2 hQ ho hb))
  all_goals go_wp2
  all_goals go_ret
  all_goals first
    | exact S1.fin (by simp)
    | exact S1.swap.fin (by simp)
    | exact S1.al.fin (by simp)
    | exact S1.al.swap.fin (by simp)
    | exact S1.al2.fin (by simp)
    | exact S1.al2.swap.fin (by simp)
end Go.Proofs.YtdmibolbpgondaaGreat.X15
