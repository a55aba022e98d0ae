/-
  shard.empty, shard.New.
  shard.New, all, Held, Deadline, Due; what none answers.
  Lists of spans that are told: slices that nobody writes any more; what the room's maps tell of a span.
-/
import Derived.Test.YtdmibolbpgondaaGreatKX15SortS
import Derived.BigRegion
import Derived.Deep.RegionHeld3
import Derived.Test.YtdmibolbpgondaaGreatKU12Until
import Derived.BigQuiet
import Derived.Deep.QuietTactic
import Derived.Test.YtdmibolbpgondaaGreatKX15Set
import Derived.Test.YtdmibolbpgondaaGreatKB7Ten
section
set_option linter.unusedSimpArgs false
set_option linter.unusedVariables false
namespace Go.Proofs.YtdmibolbpgondaaGreat.X15
open Go.RowKit Go.Lib Go.Maps Go.Proofs.YtdmibolbpgondaaGreat.Wd Go.Proofs.YtdmibolbpgondaaGreat.P06
open Go.Proofs.YtdmibolbpgondaaGreat.B07 (Pn OkN OkA OkP Spn)
open Go.Proofs.YtdmibolbpgondaaGreat.U12 (It Lt Qu NwOut new_at)

/-- an empty room -/
structure Emp (p : Pr) (G S B : Nat) : Prop where
  G : p.G = G
  S : p.S = S
  B : p.B = B
  n : p.n = 0
  h : p.h = 0
  bi : p.bi = fun _ => none
  qi : p.qi = fun _ => none
  nt : p.Nt = 0
  ne : p.Ne = 0
  dq : p.dq = []
def EmOut (w : World) (G S B : Nat) (e : Ending) (w' : World) : Prop :=
  ∃ col p, e = .returned (.pointer (some ⟨p.r, 0, none⟩)) ∧ Rx w' col p ∧ Emp p G S B ∧ (∀ x, col x ≠ 0 → w.heap.size ≤ x) ∧ Below w.heap.size w w'
theorem mp_block {w : World} {b : Nat} (h : w.heap[b]? = some (.map #[] 0)) : Mp w b (fun _ => none) 0 :=
  ⟨.map [], ⟨#[], 0, h, ⟨by simp, MapKept.stamped_empty 0, by simp⟩, Nat.le_refl _, rfl⟩, tidy_empty, rfl, fun x => by simp [Maps.has], fun _ _ h => by cases h⟩
theorem em_of {w w' : World} {G S B r bt be q : Nat} {o : List Nat} (hr : w'.heap[r]? = some (.cells #[.int .u64 (G : Int), .int .i64 (S : Int), .int .i64 (B : Int), .int .i64 0, .int .i64 0, .map (some bt), .pointer (some ⟨q, 0, none⟩), .map (some be)] 103 (0, 0)))
    (hb1 : w'.heap[bt]? = some (.map #[] 0)) (hb2 : w'.heap[be]? = some (.map #[] 0)) (hq : Qu w' q o []) (h1 : bt ≠ be) (h2 : bt ∉ o) (h3 : be ∉ o) (h4 : r ∉ o) (hbl : Below w.heap.size w w') (hlo : ∀ x ∈ o, w.heap.size ≤ x) (l1 : w.heap.size ≤ bt) (l2 : w.heap.size ≤ be) (l3 : w.heap.size ≤ r) :
    EmOut w G S B (.returned (.pointer (some ⟨r, 0, none⟩))) w' := by
  have n1 : r ≠ bt := fun e => by subst e; rw [hr] at hb1; cases hb1
  have n2 : r ≠ be := fun e => by subst e; rw [hr] at hb2; cases hb2
  have cell : ∀ j u, #[Value.int .u64 (G : Int), .int .i64 (S : Int), .int .i64 (B : Int), .int .i64 0, .int .i64 0, .map (some bt), .pointer (some ⟨q, 0, none⟩), .map (some be)][j]? = some u → w'.cell? ⟨r, j, none⟩ = some u := fun j u hu => by simp [World.cell?, hr, hu]
  have d1 : ∀ x, x ∈ o → x ≠ r ∧ x ≠ bt ∧ x ≠ be := fun x hx => ⟨fun e => h4 (e ▸ hx), fun e => h2 (e ▸ hx), fun e => h3 (e ▸ hx)⟩
  refine ⟨fun x => if x = r then 1 else if x = bt then 2 else if x = be then 3 else if x ∈ o then 4 else 0, ⟨r, bt, be, q, G, S, B, 0, 0, fun _ => none, fun _ => none, 0, 0, fun _ _ => none, fun _ => 0, fun _ => [], []⟩, rfl, ⟨⟨cell 0 _ rfl, cell 1 _ rfl, cell 2 _ rfl, cell 3 _ rfl, cell 4 _ rfl, cell 5 _ rfl, cell 6 _ rfl, cell 7 _ rfl, fun j => by simp [World.frozen?, hr]⟩, by simp, mp_block hb1, by simp [n1.symm], mp_block hb2, by simp [n2.symm, h1.symm], ⟨o, hq, fun x hx => by simp [d1 x hx, hx]⟩, fun t b hb => (by cases hb), fun t q hq => (by cases hq), fun x hx => ?_⟩, ⟨rfl, rfl, rfl, rfl, rfl, rfl, rfl, rfl, rfl, rfl⟩, fun x hx => ?_, hbl⟩
  · by_cases e1 : x = r
    · subst e1; exact (Array.getElem?_eq_some_iff.1 hr).1
    · by_cases e2 : x = bt
      · subst e2; exact (Array.getElem?_eq_some_iff.1 hb1).1
      · by_cases e3 : x = be
        · subst e3; exact (Array.getElem?_eq_some_iff.1 hb2).1
        · by_cases e4 : x ∈ o
          · exact hq.lt x e4
          · simp [e1, e2, e3, e4] at hx
  · by_cases e1 : x = r
    · subst e1; exact l3
    · by_cases e2 : x = bt
      · subst e2; exact l1
      · by_cases e3 : x = be
        · subst e3; exact l2
        · by_cases e4 : x ∈ o
          · exact hlo x e4
          · simp [e1, e2, e3, e4] at hx
abbrev zm : Obj := .map #[] 0
/-- the box of 'most', and the empty maps made so far -/
structure Es (w : World) (g : Nat) (S B : Nat) (l : List Nat) (W : World) : Prop where
  x0 : W.cell? ⟨g, 0, none⟩ = some (.int .i64 (S : Int))
  x1 : W.cell? ⟨g, 1, none⟩ = some (.int .i64 (B : Int))
  b : Below w.heap.size w W
  m : ∀ x ∈ l, W.heap[x]? = some zm ∧ w.heap.size ≤ x
  nd : l.Nodup
section
variable {w W W' : World} {g S B q : Nat} {l o : List Nat}
theorem Es.cells (h : Es w g S B l W) : W.cell? ⟨g, 0, none⟩ = some (.int .i64 (S : Int)) ∧ W.cell? ⟨g, 1, none⟩ = some (.int .i64 (B : Int)) := ⟨h.x0, h.x1⟩
theorem Es.below (h : Es w g S B l W) (hb : Below W.heap.size W W') : Es w g S B l W' :=
  ⟨(hb.cell (World.block_lt_of_cell? _ _ h.x0)).trans h.x0, (hb.cell (World.block_lt_of_cell? _ _ h.x1)).trans h.x1, h.b.trans (hb.mono h.b.size), fun x hx => ⟨(hb.block x (Array.getElem?_eq_some_iff.1 (h.m x hx).1).1).trans (h.m x hx).1, (h.m x hx).2⟩, h.nd⟩
theorem Es.box (h : Es w g S B l W) (ob : Obj) : Es w g S B l (W.alloc ob) := h.below ((Below.refl _ _).alloc (Nat.le_refl _) ob)
theorem Es.drew (h : Es w g S B l W) : Es w g S B l W.drew := h.below (Below.refl _ _).drew
theorem Es.al (h : Es w g S B l W) : Es w g S B (W.heap.size :: l) (W.alloc zm) := by
  have k := h.box zm
  refine ⟨k.x0, k.x1, k.b, fun x hx => ?_, List.nodup_cons.2 ⟨fun hm => ?_, h.nd⟩⟩
  · rcases List.mem_cons.1 hx with rfl | hx
    · exact ⟨World.alloc_heap_new W _, h.b.size⟩
    · exact k.m x hx
  · have := (Array.getElem?_eq_some_iff.1 (h.m _ hm).1).1
    omega
theorem Es.al2 (h : Es w g S B l W) : Es w g S B ((W.heap.size + 1) :: W.heap.size :: l) ((W.alloc zm).alloc zm) := by
  have := h.al.al
  rwa [World.size_alloc] at this
/-- and the queue -/
structure E1 (w : World) (g : Nat) (S B : Nat) (l : List Nat) (q : Nat) (o : List Nat) (W : World) : Prop where
  s : Es w g S B l W
  hq : Qu W q o []
  no : ∀ x ∈ l, x ∉ o
  ge : ∀ x ∈ o, w.heap.size ≤ x
theorem E1.of (h : Es w g S B l W) (hq : Qu W' q o []) (ho : ∀ x ∈ o, W.heap.size ≤ x) (hb : Below W.heap.size W W') : E1 w g S B l q o W' :=
  ⟨h.below hb, hq, fun x hx hm => by have := (Array.getElem?_eq_some_iff.1 (h.m x hx).1).1; have := ho x hm; omega, fun x hx => Nat.le_trans h.b.size (ho x hx)⟩
theorem E1.box (h : E1 w g S B l q o W) (ob : Obj) : E1 w g S B l q o (W.alloc ob) := ⟨h.s.box ob, h.hq.below ((Below.refl _ _).alloc (Nat.le_refl _) ob), h.no, h.ge⟩
theorem E1.al (h : E1 w g S B l q o W) : E1 w g S B (W.heap.size :: l) q o (W.alloc zm) :=
  ⟨h.s.al, (h.box zm).hq, fun x hx hm => by
    rcases List.mem_cons.1 hx with rfl | hx
    · have := h.hq.lt _ hm; omega
    · exact h.no x hx hm, h.ge⟩
theorem E1.al2 (h : E1 w g S B l q o W) : E1 w g S B ((W.heap.size + 1) :: W.heap.size :: l) q o ((W.alloc zm).alloc zm) := by
  have := h.al.al
  rwa [World.size_alloc] at this
theorem E1.cells (h : E1 w g S B l q o W) : W.cell? ⟨g, 0, none⟩ = some (.int .i64 (S : Int)) ∧ W.cell? ⟨g, 1, none⟩ = some (.int .i64 (B : Int)) := h.s.cells
theorem E1.fin {x y G r : Nat} (h : E1 w g S B [x, y] q o W) (hr : W.heap.size = r) : EmOut w G S B (.returned (.pointer (some ⟨r, 0, none⟩))) (W.alloc (.cells #[.int .u64 (G : Int), .int .i64 (S : Int), .int .i64 (B : Int), .int .i64 0, .int .i64 0, .map (some x), .pointer (some ⟨q, 0, none⟩), .map (some y)] 103)) := by
  subst hr
  have k := h.box (.cells #[.int .u64 (G : Int), .int .i64 (S : Int), .int .i64 (B : Int), .int .i64 0, .int .i64 0, .map (some x), .pointer (some ⟨q, 0, none⟩), .map (some y)] 103)
  have h1 := k.s.m x (by simp)
  have h2 := k.s.m y (by simp)
  have hn := k.s.nd
  simp at hn
  exact em_of (World.alloc_heap_new W _) h1.1 h2.1 k.hq hn (k.no x (by simp)) (k.no y (by simp)) (fun hm => by have := h.hq.lt _ hm; omega) k.s.b k.ge h1.2 h2.2 h.s.b.size
theorem E1.swap {x y : Nat} (h : E1 w g S B [x, y] q o W) : E1 w g S B [y, x] q o W :=
  ⟨⟨h.s.x0, h.s.x1, h.s.b, fun z hz => h.s.m z (by simp at hz ⊢; exact hz.symm), by have := h.s.nd; simp at this ⊢; exact fun e => this e.symm⟩, h.hq, fun z hz => h.no z (by simp at hz ⊢; exact hz.symm), h.ge⟩
end
set_option maxRecDepth 20000 in
set_option maxHeartbeats 4000000 in
theorem empty_at (G S B : Nat) (w : World) : Calls Tryz.prog 28 #[.int .u64 (G : Int), .agg #[.int .i64 (S : Int), .int .i64 (B : Int)]] w (EmOut w G S B) := by
  have hmm := @run_makeMap Tryz.prog
  have hnew := fun W => new_at W
  go_enter Tryz.func28, Tryz.ntmps28
  go_wp2_with fail
  obtain ⟨V, hV⟩ : ∃ V, w.alloc (.cells #[.int .i64 (S : Int), .int .i64 (B : Int)] 75) = V := ⟨_, rfl⟩
  have x0 : V.cell? ⟨w.heap.size, 0, none⟩ = some (.int .i64 (S : Int)) := by subst hV; simp
  have x1 : V.cell? ⟨w.heap.size, 1, none⟩ = some (.int .i64 (B : Int)) := by subst hV; simp
  have b0 : Below w.heap.size w V := by subst hV; exact (Below.refl _ _).alloc (Nat.le_refl _) _
  have S9 : Es w w.heap.size S B [] V := ⟨x0, x1, b0, (fun x hx => by cases hx), List.nodup_nil⟩
  rw [hV]
  clear hV x0 x1 b0
  generalize hg : w.heap.size = g at *
  have S0 := S9.drew
  have Z1 := S9.al.drew
  have Z2 := S9.al2.drew
  have hgl : g < V.heap.size := World.block_lt_of_cell? _ _ S9.x0
  have x0 := S9.x0
  have x1 := S9.x1
  clear S9
  go_region_held3 (fun w' => w'.cell? ⟨g, 0, none⟩ = some (.int .i64 (S : Int)) ∧ w'.cell? ⟨g, 1, none⟩ = some (.int .i64 (B : Int)))
    (first | (with_reducible exact S1.cells) | (with_reducible exact S1.al.cells) | (with_reducible exact S1.al2.cells) | (with_reducible exact (S1.box _).cells) | (with_reducible exact (S1.al.box _).cells) | (with_reducible exact (S1.al2.box _).cells) | (with_reducible exact S0.cells) | (with_reducible exact Z1.cells) | (with_reducible exact Z2.cells))
    (first
      | (go_at_call 49; (with_reducible refine (hnew _).mono ?_); rintro e w1 ⟨q, o, rfl, hQ, ho, hb⟩; have S1 := E1.of S0 hQ ho hb)
      | (go_at_call 49; (with_reducible refine (hnew _).mono ?_); rintro e w1 ⟨q, o, rfl, hQ, ho, hb⟩; have S1 := E1.of Z1 hQ ho hb)
      | (go_at_call 49; (with_reducible refine (hnew _).mono ?_); rintro e w1 ⟨q, o, rfl, hQ, ho, hb⟩; have S1 := E1.of Z2 hQ ho hb))
  all_goals go_wp2
  all_goals go_ret
  all_goals first
    | exact S1.fin (by simp)
    | exact S1.swap.fin (by simp)
    | exact S1.al.fin (by simp)
    | exact S1.al.swap.fin (by simp)
    | exact S1.al2.fin (by simp)
    | exact S1.al2.swap.fin (by simp)
end Go.Proofs.YtdmibolbpgondaaGreat.X15
end

section
set_option linter.unusedSimpArgs false
set_option linter.unusedVariables false
namespace Go.Proofs.YtdmibolbpgondaaGreat.X15
open Go.RowKit Go.Lib Go.Maps Go.Proofs.YtdmibolbpgondaaGreat.Wd Go.Proofs.YtdmibolbpgondaaGreat.P06
open Go.Proofs.YtdmibolbpgondaaGreat.B07 (Pn OkN OkA OkP Spn)
open Go.Proofs.YtdmibolbpgondaaGreat.U12 (It Lt Qu at_in at_out isin_false isin_true isin qunt_at UtOut)

/-- a room whose numbers are those of its spans -/
structure Rm (w : World) (col : Nat → Nat) (p : Pr) (L : List Pn) : Prop where
  rx : Rx w col p
  sm : Sm w col p L (trs L)
  n : p.n = L.length
  h : p.h = held L
/-- the shard in block sp -/
structure Sd (w : World) (col : Nat → Nat) (sp : Nat) (p : Pr) (L : List Pn) : Prop where
  rm : Rm w col p L
  c : w.cell? ⟨sp, 0, none⟩ = some (.pointer (some ⟨p.r, 0, none⟩))
  k : col sp = 0
section
variable {w w' : World} {col col' : Nat → Nat} {p : Pr} {L : List Pn} {sp : Nat}
theorem Rx.new0' (h : Rx w col p) : col w.heap.size = 0 := by
  by_cases e : col w.heap.size = 0
  · exact e
  · have := h.lt _ e; omega
theorem Rm.below (h : Rm w col p L) (hb : Below w.heap.size w w') : Rm w' col p L := ⟨h.rx.below hb, h.sm.fs (Fs.below hb), h.n, h.h⟩
theorem Sd.below (h : Sd w col sp p L) (hb : Below w.heap.size w w') : Sd w' col sp p L := ⟨h.rm.below hb, (hb.cell (World.block_lt_of_cell? _ _ h.c)).trans h.c, h.k⟩
theorem Emp.sm {G S B : Nat} (h : Emp p G S B) : Sm w col p [] (trs []) := by
  refine ⟨List.Pairwise.nil, fun x hx => (by cases hx), fun t => ?_, fun t => ?_, h.nt, h.ne, fun t ht => (by cases ht), fun t ht => (by cases ht), fun t ht => (by cases ht), fun t ht => (by cases ht), h.dq⟩
  · rw [h.bi]; simp [trs]
  · rw [h.qi]; simp [trs]
theorem Emp.rm {G S B : Nat} (h : Emp p G S B) (hR : Rx w col p) : Rm w col p [] := ⟨hR, h.sm, h.n, h.h⟩
/-- what all tells -/
def Alp (w : World) (pr : Pr → Prop) (e : Ending) (w' : World) : Prop := ∃ col p, e = .returned (.pointer (some ⟨p.r, 0, none⟩)) ∧ Rx w' col p ∧ pr p ∧ Below w.heap.size w w'
theorem sall_at {r : Nat} (h : w.cell? ⟨sp, 0, none⟩ = some (.pointer (some ⟨r, 0, none⟩))) : Calls Tryz.prog 31 #[.pointer (some ⟨sp, 0, none⟩)] w fun e w' => e = .returned (.pointer (some ⟨r, 0, none⟩)) ∧ w = w' := by
  go_enter Tryz.func31, Tryz.ntmps31
  go_wp2
  go_ret
  exact ⟨rfl, rfl⟩
theorem Sd.all (h : Sd w col sp p L) : Calls Tryz.prog 31 #[.pointer (some ⟨sp, 0, none⟩)] w (Alp w fun p' => p' = p) :=
  (sall_at h.c).mono fun e w' ⟨h1, h2⟩ => by subst h2; exact ⟨col, p, h1, h.rm.rx, rfl, Below.refl _ _⟩
theorem sall_nil (w : World) : Calls Tryz.prog 31 #[.pointer none] w (Alp w fun p' => Emp p' 0 0 0) := by
  have he := empty_at 0 0 0 w
  go_enter Tryz.func31, Tryz.ntmps31
  go_wp2_with fail
  refine he.mono ?_
  rintro e w1 ⟨col, p, rfl, h1, h2, h3, h4⟩
  have H := Lib.hid (show Alp w (fun p' => Emp p' 0 0 0) (.returned (.pointer (some ⟨p.r, 0, none⟩))) w1 from ⟨col, p, rfl, h1, h2, h4⟩)
  clear he h1 h2 h3 h4
  go_wp2
  go_returns
  exact H.out
/-- New, of numbers that may be -/
def NwS (w : World) (G S B : Nat) (e : Ending) (w' : World) : Prop := ∃ sp col p, e = .returned (.tuple #[.pointer (some ⟨sp, 0, none⟩), .int .i64 0]) ∧ Sd w' col sp p [] ∧ p.G = G ∧ p.S = S ∧ p.B = B ∧ (∀ x, col x ≠ 0 → w.heap.size ≤ x) ∧ w.heap.size ≤ sp ∧ Below w.heap.size w w'
set_option maxRecDepth 20000 in
set_option maxHeartbeats 2000000 in
theorem snew_right (G S B : Nat) (w : World) (hG : G ≤ MT) (hS : 1 ≤ S ∧ S ≤ 65536) (hB : 1 ≤ B ∧ B ≤ MT) : Calls Tryz.prog 8 #[.int .u64 (G : Int), .int .i64 (S : Int), .int .i64 (B : Int)] w (NwS w G S B) := by
  have he := empty_at G S B w
  unfold MT at hG hB
  have k1 : ¬ (4611686018427387904 : Int) < (G : Int) := by omega
  have k2 : ¬ (S : Int) < 1 := by omega
  have k3 : ¬ (65536 : Int) < (S : Int) := by omega
  have k4 : ¬ (B : Int) < 1 := by omega
  have k5 : ¬ (4611686018427387904 : Int) < (B : Int) := by omega
  clear hG hS hB
  go_enter Tryz.func8, Tryz.ntmps8
  go_wp2_with fail
  refine he.mono ?_
  rintro e w1 ⟨col, p, rfl, h1, h2, h3, h4⟩
  have b2 : Below w1.heap.size w1 (w1.alloc (.cells #[.pointer (some ⟨p.r, 0, none⟩)] 77)) := (Below.refl _ _).alloc (Nat.le_refl _) _
  have H := Lib.hid (show NwS w G S B (.returned (.tuple #[.pointer (some ⟨w1.heap.size, 0, none⟩), .int .i64 0])) (w1.alloc (.cells #[.pointer (some ⟨p.r, 0, none⟩)] 77)) from
    ⟨w1.heap.size, col, p, rfl, ⟨(h2.rm h1).below b2, by simp, h1.new0'⟩, h2.G, h2.S, h2.B, h3, h4.size, h4.trans (b2.mono h4.size)⟩)
  clear he h1 h2 h3 h4 b2
  go_wp2
  go_ret2
  exact H.out
end
end Go.Proofs.YtdmibolbpgondaaGreat.X15
end

section
set_option linter.unusedSimpArgs false
set_option linter.unusedVariables false
namespace Go.Proofs.YtdmibolbpgondaaGreat.X15
open Go.RowKit Go.Lib Go.Maps Go.Proofs.YtdmibolbpgondaaGreat.Wd Go.Proofs.YtdmibolbpgondaaGreat.P06
open Go.Proofs.YtdmibolbpgondaaGreat.B07 (Pn OkN OkA OkP Spn Sps pns tenA ten ten_len tm_len Rd.lit10)
section
variable {w w' : World} {col col' : Nat → Nat} {p : Pr} {L : List Pn}
theorem set_at (h : Rx w col p) (hS : Sm w col p L (trs L)) (y : Spn) (n : Nat) (hn : y.l.length = n) (hok : Okx y.pn) (hd : Hd 0 w y.A y.c y.l) (hc : ∀ a, y.A = some a → col a.block = 0) (hfew : L.length ≤ 500) (hG : p.G ≤ MT) :
    Calls Tryz.prog 52 #[.pointer (some ⟨p.r, 0, none⟩), spv y.s (.slice y.A n y.c)] w (StOut w col p (X15.put L y.pn)) := by
  obtain ⟨⟨T, I, P, sv, nm, kd, st, t0, t1⟩, A, c, l⟩ := y
  obtain ⟨t, rfl⟩ := Int.eq_ofNat_of_zero_le hok.n.a0
  obtain ⟨i, rfl⟩ := Int.eq_ofNat_of_zero_le hok.n.b0
  obtain ⟨e1, rfl⟩ := Int.eq_ofNat_of_zero_le hok.n.e0
  by_cases hin : t ∈ trs L
  · exact set_old h hS t i e1 P sv nm kd st t0 A c n l hn hok hd hc hfew hG hin
  · exact set_new h hS t i e1 P sv nm kd st t0 A c n l hn hok hd hc hfew hG hin
theorem zero_span (w : World) : (zeroValue 45).run Tryz.prog w = .ok (.agg zsp) w := by kernel_rfl
/-- of a span that is not there -/
theorem Rm.look_no (h : Rm w col p L) {x : Pn} (hok : Okx x) (hf : fnd L x = none) : ∃ mv, (∀ W, Below w.heap.size w W → (Instr.lookup 99 (.map (some p.bt)) (.int .u64 x.1.T) false).run Tryz.prog W = .ok mv W) ∧
    ∀ W, Below w.heap.size w W → (Instr.lookup 98 mv (.int .u64 x.1.I) true).run Tryz.prog W = .ok (.tuple #[.agg zsp, .bool false]) W := by
  have hT := hok.tn
  have hI := hok.idn
  rw [← hT.1, ← hI.1]
  cases hb : p.bi (tn x) with
  | none =>
    refine ⟨.map none, fun W hW => (h.rx.below hW).look99 hT.2 (by rw [hb]; rfl), fun W hW => ?_⟩
    exact look_none true Tryz.underlying98 (zero_span W) hI.2
  | some b =>
    refine ⟨.map (some b), fun W hW => (h.rx.below hW).look99 hT.2 (by rw [hb]; rfl), fun W hW => ?_⟩
    have hin := (h.sm.bi (tn x)).1 (by rw [hb]; rfl)
    have hno : p.fi (tn x) (idn x) = none := by
      cases e : p.fi (tn x) (idn x) with
      | none => rfl
      | some v =>
        obtain ⟨z, h1, h2⟩ := h.sm.fn _ hin _ _ e
        obtain ⟨h3, h4⟩ := mem_trace.1 h1
        exact absurd ((ke_nat (h.sm.ok z h3) hok).2 ⟨h4, h2⟩) (fnd_none hf z h3)
    have := ((h.rx.below hW).im _ _ hb).1.look Tryz.underlying98 (zero_span W) hI.2
    rw [hno] at this
    exact this
/-- of one that is there -/
theorem Rm.look_yes (h : Rm w col p L) {x z : Pn} (hok : Okx x) (hf : fnd L x = some z) : ∃ b y, B07.Spn.pn y = z ∧ Hd 0 w y.A y.c y.l ∧ (∀ a, y.A = some a → col a.block = 0) ∧ (∀ W, Below w.heap.size w W → (Instr.lookup 99 (.map (some p.bt)) (.int .u64 x.1.T) false).run Tryz.prog W = .ok (.map (some b)) W) ∧
    ∀ W, Below w.heap.size w W → (Instr.lookup 98 (.map (some b)) (.int .u64 x.1.I) true).run Tryz.prog W = .ok (.tuple #[sval y, .bool true]) W := by
  have hT := hok.tn
  have hI := hok.idn
  rw [← hT.1, ← hI.1]
  obtain ⟨h1, h2⟩ := fnd_some hf
  have hk := (ke_nat (h.sm.ok z h1) hok).1 h2
  have hin : tn x ∈ trs L := mem_trs.2 ⟨z, h1, hk.1⟩
  obtain ⟨b, hb⟩ := Option.isSome_iff_exists.1 ((h.sm.bi _).2 hin)
  obtain ⟨y, h3, h4, h5, h6⟩ := h.sm.fi _ hin z (mem_trace.2 ⟨h1, hk.1⟩)
  refine ⟨b, y, h3, h5, h6, fun W hW => (h.rx.below hW).look99 hT.2 (by rw [hb]; rfl), fun W hW => ?_⟩
  have := ((h.rx.below hW).im _ _ hb).1.look Tryz.underlying98 (zero_span W) hI.2
  rw [hk.2] at h4
  rw [h4] at this
  exact this

/-- a list of spans that was told: nobody's block is the room's -/
structure Out (w : World) (col : Nat → Nat) (A : Option Addr) (c : Nat) (M : List Spn) : Prop where
  rd : Rd 10 w A M.length c (M.flatMap ten)
  hd : ∀ y ∈ M, Hd 0 w y.A y.c y.l
  a0 : ∀ a, A = some a → col a.block = 0 ∧ a.block < w.heap.size
  c0 : ∀ y ∈ M, ∀ a, y.A = some a → col a.block = 0
theorem rd_block {sz n c : Nat} {A : Option Addr} {xs : List Value} (h : Rd sz w A n c xs) (hk : ∀ a, A = some a → w'.heap[a.block]? = w.heap[a.block]?) : Rd sz w' A n c xs :=
  ⟨h.len, h.none_, h.cap, h.max, fun ad ha i u hu => by
    have e : w'.cell? (ad.add i) = w.cell? (ad.add i) := World.cell?_of_block (by rw [add_block]; exact hk ad ha)
    rw [e]
    exact h.at_ ad ha i u hu⟩
theorem Out.nil (w : World) (col : Nat → Nat) : Out w col none 0 [] := ⟨Rd.nil 10 w, fun y hy => (by cases hy), fun a ha => (by cases ha), fun y hy => (by cases hy)⟩
theorem Out.sps {A : Option Addr} {c : Nat} {M : List Spn} (h : Out w col A c M) : Sps w A c M := ⟨h.rd, fun y hy => (h.hd y hy).ats⟩
theorem Out.fs {A : Option Addr} {c : Nat} {M : List Spn} (h : Out w col A c M) (F : Fs w w' col col') : Out w' col' A c M := by
  refine ⟨rd_block h.rd fun a ha => F.fr.block _ (h.a0 a ha).2 fun hm => (mem_ow.1 hm).2.1 (h.a0 a ha).1, fun y hy => (hd_fs (h.hd y hy) F (h.c0 y hy)).1, fun a ha => ⟨?_, Nat.lt_of_lt_of_le (h.a0 a ha).2 F.fr.size⟩, fun y hy => (hd_fs (h.hd y hy) F (h.c0 y hy)).2⟩
  by_cases e : col' a.block = 0
  · exact e
  · exact absurd (h.a0 a ha).1 ((F.old _ (h.a0 a ha).2).1 e)
theorem Out.below {A : Option Addr} {c : Nat} {M : List Spn} (h : Out w col A c M) (hb : Below w.heap.size w w') : Out w' col A c M := h.fs (Fs.below hb)
theorem Out.one {y : Spn} (hR : Rx w col p) (hd : Hd 0 w y.A y.c y.l) (hc : ∀ a, y.A = some a → col a.block = 0) : Out (w.alloc (.cells (tenA y) 45)) col (some ⟨w.heap.size, 0, none⟩) 1 [y] := by
  have hb : Below w.heap.size w (w.alloc (.cells (tenA y) 45)) := (Below.refl _ _).alloc (Nat.le_refl _) _
  refine ⟨by simpa using Rd.lit10 w 45 y, fun z hz => ?_, fun a ha => ?_, fun z hz => ?_⟩
  · simp at hz; subst hz; exact hd.below hb
  · cases ha; exact ⟨hR.new0, by simp⟩
  · simp at hz; subst hz; exact hc
end
end Go.Proofs.YtdmibolbpgondaaGreat.X15
end
