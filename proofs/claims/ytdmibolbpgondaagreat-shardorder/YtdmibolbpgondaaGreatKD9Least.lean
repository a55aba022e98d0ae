/-
  Which of several spans is preferred, in plain lists; the two cells in which the law keeps them.
-/
import Derived.Test.YtdmibolbpgondaaGreatKD9Prefer
import Derived.Test.YtdmibolbpgondaaGreatKB7Sps
set_option linter.unusedSimpArgs false
set_option linter.unusedVariables false
namespace Go.Proofs.YtdmibolbpgondaaGreat.D09
open Go.Shelf Go.RowKit Go.Lib Go.Sort Go.Proofs.YtdmibolbpgondaaGreat.Wd Go.Proofs.YtdmibolbpgondaaGreat.V04 Go.Proofs.YtdmibolbpgondaaGreat.P06 Go.Proofs.YtdmibolbpgondaaGreat.B07
open Go.Proofs.YtdmibolbpgondaaGreat.S05 (Fr Sub)

def cp (x y : Pn) : Int := cmpS x.1 y.1 x.2 y.2
theorem cp_neg (x y : Pn) : cp y x = -cp x y := cmpS_neg _ _ _ _
theorem cp_self (x : Pn) : cp x x = 0 := cmpS_self _ _
theorem cp_trans {x y z : Pn} (h1 : cp x y ≤ 0) (h2 : cp y z ≤ 0) : cp x z ≤ 0 := (cmpS_t3 x.1 y.1 z.1 x.2 y.2 z.2 h1 h2).1
/-- of the two the first, if it is less -/
def pick (x y : Pn) : Pn := if cp x y < 0 then x else y
theorem pick_le (x y : Pn) : cp (pick x y) x ≤ 0 ∧ cp (pick x y) y ≤ 0 := by
  unfold pick
  split
  · exact ⟨by rw [cp_self]; exact Int.le_refl _, by omega⟩
  · exact ⟨by rw [cp_neg]; omega, by rw [cp_self]; exact Int.le_refl _⟩
theorem pick_or (x y : Pn) : pick x y = x ∨ pick x y = y := by
  unfold pick
  split
  · exact .inl rfl
  · exact .inr rfl
theorem pick_len {x y : Pn} {s : Sp} {q : List At} {m n : Nat} (h : pick x y = (s, q)) (hm : q.length = m) (h1 : x.2.length ≤ n) (h2 : y.2.length ≤ n) : m ≤ n := by
  subst hm
  rcases pick_or x y with e | e
  · rw [← e, h] at h1; exact h1
  · rw [← e, h] at h2; exact h2
/-- one of P, not greater than those at f 0 .. -/
structure Least (P : List Pn) (f : Nat → Nat) (i : Nat) (x : Pn) : Prop where
  mem : x ∈ P
  le : ∀ j, j < i → ∀ h : f j < P.length, cp x P[f j] ≤ 0
theorem Least.start {P : List Pn} {f : Nat → Nat} {x : Pn} (h : x ∈ P) : Least P f 0 x := ⟨h, fun j hj => by omega⟩
theorem Least.step {P : List Pn} {f : Nat → Nat} {i : Nat} {x y : Pn} (h : Least P f i x) (hi : f i < P.length) (hy : y = x ∨ y = P[f i]) (h1 : cp y x ≤ 0) (h2 : cp y P[f i] ≤ 0) : Least P f (i + 1) y := by
  refine ⟨?_, fun j hj hf => ?_⟩
  · rcases hy with rfl | rfl
    · exact h.mem
    · exact List.getElem_mem _
  · by_cases e : j = i
    · subst e
      exact h2
    · exact cp_trans h1 (h.le j (by omega) hf)
theorem Least.left {P : List Pn} {f : Nat → Nat} {i : Nat} {x : Pn} (h : Least P f i x) (hi : f i < P.length) : Least P f (i + 1) (pick P[f i] x) :=
  h.step hi (pick_or _ _).symm (pick_le _ _).2 (pick_le _ _).1
theorem Least.right {P : List Pn} {f : Nat → Nat} {i : Nat} {x : Pn} (h : Least P f i x) (hi : f i < P.length) : Least P f (i + 1) (pick x P[f i]) :=
  h.step hi (pick_or _ _) (pick_le _ _).1 (pick_le _ _).2
theorem Least.all {P : List Pn} {f : Nat → Nat} {x : Pn} (h : Least P f P.length x) (hf : ∀ k, k < P.length → ∃ j, j < P.length ∧ f j = k) : ∀ z ∈ P, cp x z ≤ 0 := fun z hz => by
  obtain ⟨k, hk, rfl⟩ := List.mem_iff_getElem.1 hz
  obtain ⟨j, hj, rfl⟩ := hf k hk
  exact h.le j hj hk
/-- the way back begins behind k -/
def way (n k j : Nat) : Nat := (n - 1 - j + k) % n
theorem way_lt {n : Nat} (k j : Nat) (h : 0 < n) : way n k j < n := Nat.mod_lt _ h
theorem way_all {n k : Nat} (hk : k < n) (z : Nat) (hz : z < n) : ∃ j, j < n ∧ way n k j = z := by
  unfold way
  by_cases h : k ≤ z
  · refine ⟨n - 1 + k - z, by omega, ?_⟩
    rw [show n - 1 - (n - 1 + k - z) + k = z by omega, Nat.mod_eq_of_lt hz]
  · refine ⟨k - 1 - z, by omega, ?_⟩
    rw [show n - 1 - (k - 1 - z) + k = n + z by omega, Nat.add_mod_left, Nat.mod_eq_of_lt hz]
theorem same_least {P : List Pn} {x y : Pn} (hx : ∀ z ∈ P, cp x z ≤ 0) (hy : ∀ z ∈ P, cp y z ≤ 0) (mx : x ∈ P) (my : y ∈ P) : cp x y = 0 := by
  have h1 := hx y my
  have h2 := hy x mx
  rw [cp_neg] at h2
  omega

/-- f tells whether one of those ahead of j is as x is -/
def Seen (P : List Pn) (x : Pn) (j : Nat) (f : Bool) : Prop := (∃ i, i < j ∧ ∃ h : i < P.length, cp P[i] x = 0) → f = true
theorem Seen.start {P : List Pn} {x : Pn} {f : Bool} : Seen P x 0 f := fun ⟨i, hi, _⟩ => by omega
theorem Seen.yes {P : List Pn} {x : Pn} {j : Nat} : Seen P x j true := fun _ => rfl
theorem Seen.no {P : List Pn} {x : Pn} {j : Nat} {f : Bool} (h : Seen P x j f) (hj : j < P.length) (hc : cp P[j] x ≠ 0) : Seen P x (j + 1) f := fun ⟨i, hi, hl, he⟩ => by
  by_cases e : i = j
  · subst e
    exact absurd he hc
  · exact h ⟨i, by omega, hl, he⟩
theorem Seen.fin {P : List Pn} {x : Pn} {f : Bool} (h : Seen P x P.length f) (hx : x ∈ P) : f = true := by
  obtain ⟨i, hi, rfl⟩ := List.mem_iff_getElem.1 hx
  exact h ⟨i, hi, hi, cp_self _⟩
theorem prefer_at (s t : Sp) (A1 A2 : Option Addr) (c1 c2 : Nat) (l m : List At) (n1 n2 : Nat) (w : World) (h1 : Hd 0 w A1 c1 l) (h2 : Hd 0 w A2 c2 m) (hn1 : l.length = n1) (hn2 : m.length = n2) (z1 : n1 ≤ 40) (z2 : n2 ≤ 40) {x : Sp} {q : List At} {k : Nat} (hx : pick (t, m) (s, l) = (x, q)) (hk : q.length = k) :
    Calls Tryz.prog 54 #[spv s (.slice A1 n1 c1), spv t (.slice A2 n2 c2)] w (OfOut w x k q) := by
  unfold pick cp at hx
  dsimp only at hx
  by_cases h : cmpS t s m l < 0
  · rw [if_pos h] at hx
    injection hx with e1 e2
    subst e1 e2
    have e := hn2.symm.trans hk
    subst e
    exact prefer_b s t A1 A2 c1 c2 l m n1 n2 w h1 h2 hn1 hn2 z1 z2 h
  · rw [if_neg h] at hx
    injection hx with e1 e2
    subst e1 e2
    have e := hn1.symm.trans hk
    subst e
    exact prefer_a s t A1 A2 c1 c2 l m n1 n2 w h1 h2 hn1 hn2 z1 z2 h

theorem fr_put10 (w : World) (g : Nat) (s : Sp) (v : Value) : Fr [g] w (P06.put10 w g s v) := by
  obtain ⟨e1, e2, e3⟩ := put10_os w g s v
  exact ⟨e1, e2, e3, by rw [size_put10]; exact Nat.le_refl _, fun k _ hk => heap_put10 _ _ _ _ _ (fun e => hk (by rw [e]; exact List.mem_singleton.2 rfl))⟩
/-- two spans in their cells, each with attributes of its own -/
structure PrR (w1 : World) (ga gb : Nat) (x y : Spn) (W : World) : Prop where
  ka : Bk W ga 45 (tenA x)
  kb : Bk W gb 45 (tenA y)
  ha : Hd w1.heap.size W x.A x.c x.l
  hb : Hd w1.heap.size W y.A y.c y.l
  za : x.l.length ≤ 40
  zb : y.l.length ≤ 40
  pa : ∀ p, x.A = some p → p.block ≠ ga ∧ p.block ≠ gb
  pb : ∀ p, y.A = some p → p.block ≠ ga ∧ p.block ≠ gb
  bel : Below w1.heap.size w1 W
  la : w1.heap.size ≤ ga
  lb : ga < gb
theorem PrR.below {w1 : World} {ga gb : Nat} {x y : Spn} {W W' : World} (h : PrR w1 ga gb x y W) (hb : Below W.heap.size W W') : PrR w1 ga gb x y W' :=
  ⟨h.ka.below hb, h.kb.below hb, h.ha.below hb, h.hb.below hb, h.za, h.zb, h.pa, h.pb, h.bel.trans (hb.mono h.bel.size), h.la, h.lb⟩
theorem below_drew (W : World) : Below W.heap.size W W.drew := ⟨rfl, rfl, rfl, Nat.le_refl _, fun _ _ => rfl⟩
theorem PrR.drew {w1 : World} {ga gb : Nat} {x y : Spn} {W : World} (h : PrR w1 ga gb x y W) : PrR w1 ga gb x y W.drew := h.below (below_drew W)
theorem PrR.seta {w1 : World} {ga gb : Nat} {x y : Spn} {W : World} (h : PrR w1 ga gb x y W) (z : Spn) {B : Nat} (hB : gb < B) (hz : Hd B W z.A z.c z.l) (h40 : z.l.length ≤ 40) : PrR w1 ga gb z y (P06.put10 W ga z.s (.slice z.A z.l.length z.c)) := by
  have hlt := B07.Hd.lt hz
  have hlb := h.lb
  have hla := h.la
  have pz : ∀ p, z.A = some p → p.block ≠ ga ∧ p.block ≠ gb := fun p hp => by have := (hlt p hp).1; omega
  have f := fr_put10 W ga z.s (.slice z.A z.l.length z.c)
  refine ⟨bk_put10 h.ka _ _, ?_, ?_, ?_, h40, h.zb, pz, h.pb, below_put10 h.bel _ _ h.la, h.la, h.lb⟩
  · unfold Bk
    rw [heap_put10 _ _ _ _ _ (by omega)]
    exact h.kb
  · exact B07.Hd.fr (hz.low (B' := w1.heap.size) (by omega)) f fun a ha => by have := (pz a ha).1; simpa using this
  · exact B07.Hd.fr h.hb f fun a ha => by have := (h.pb a ha).1; simpa using this
theorem PrR.setb {w1 : World} {ga gb : Nat} {x y : Spn} {W : World} (h : PrR w1 ga gb x y W) (z : Spn) {B : Nat} (hB : gb < B) (hz : Hd B W z.A z.c z.l) (h40 : z.l.length ≤ 40) : PrR w1 ga gb x z (P06.put10 W gb z.s (.slice z.A z.l.length z.c)) := by
  have hlt := B07.Hd.lt hz
  have hlb := h.lb
  have hla := h.la
  have pz : ∀ p, z.A = some p → p.block ≠ ga ∧ p.block ≠ gb := fun p hp => by have := (hlt p hp).1; omega
  have f := fr_put10 W gb z.s (.slice z.A z.l.length z.c)
  refine ⟨?_, bk_put10 h.kb _ _, ?_, ?_, h.za, h40, h.pa, pz, below_put10 h.bel _ _ (by omega), h.la, h.lb⟩
  · unfold Bk
    rw [heap_put10 _ _ _ _ _ (by omega)]
    exact h.ka
  · exact B07.Hd.fr h.ha f fun a ha => by have := (h.pa a ha).2; simpa using this
  · exact B07.Hd.fr (hz.low (B' := w1.heap.size) (by omega)) f fun a ha => by have := (pz a ha).2; simpa using this
/-- a span in a row -/
structure TenW (W : World) (p : Addr) (s : Sp) (v : Value) : Prop where
  c0 : W.cell? p = some (.int .u64 s.T)
  c1 : W.cell? ⟨p.block, p.off + 1, none⟩ = some (.int .u64 s.I)
  c2 : W.cell? ⟨p.block, p.off + 2, none⟩ = some (.int .u64 s.P)
  c3 : W.cell? ⟨p.block, p.off + 3, none⟩ = some (.string s.sv)
  c4 : W.cell? ⟨p.block, p.off + 4, none⟩ = some (.string s.nm)
  c5 : W.cell? ⟨p.block, p.off + 5, none⟩ = some (.int .i64 s.kd)
  c6 : W.cell? ⟨p.block, p.off + 6, none⟩ = some (.int .i64 s.st)
  c7 : W.cell? ⟨p.block, p.off + 7, none⟩ = some (.int .u64 s.t0)
  c8 : W.cell? ⟨p.block, p.off + 8, none⟩ = some (.int .u64 s.t1)
  c9 : W.cell? ⟨p.block, p.off + 9, none⟩ = some (v)
theorem TenW.below {W W' : World} {p : Addr} {s : Sp} {v : Value} (h : TenW W p s v) (hb : Below W.heap.size W W') : TenW W' p s v :=
  ⟨(hb.cell (World.block_lt_of_cell? _ _ h.c0)).trans h.c0, (hb.cell (World.block_lt_of_cell? _ _ h.c1)).trans h.c1, (hb.cell (World.block_lt_of_cell? _ _ h.c2)).trans h.c2, (hb.cell (World.block_lt_of_cell? _ _ h.c3)).trans h.c3, (hb.cell (World.block_lt_of_cell? _ _ h.c4)).trans h.c4, (hb.cell (World.block_lt_of_cell? _ _ h.c5)).trans h.c5, (hb.cell (World.block_lt_of_cell? _ _ h.c6)).trans h.c6, (hb.cell (World.block_lt_of_cell? _ _ h.c7)).trans h.c7, (hb.cell (World.block_lt_of_cell? _ _ h.c8)).trans h.c8, (hb.cell (World.block_lt_of_cell? _ _ h.c9)).trans h.c9⟩
theorem TenW.of {W : World} {p : Addr} {s : Sp} {A : Option Addr} {c n : Nat} {l : List At} (h : Ten W p ⟨s, A, c, l⟩) (hn : l.length = n) : TenW W p s (.slice A n c) := by
  subst hn
  exact ⟨h.c0, h.c1, h.c2, h.c3, h.c4, h.c5, h.c6, h.c7, h.c8, h.c9⟩
theorem twenty_at {W : World} {g : Nat} {t : TypeId} {p : Addr} {s s' : Sp} {v v' : Value} (h : Bk W g t (spc s v)) (h' : TenW W p s' v') : W.cell? ⟨g, 0, none⟩ = some (.int .u64 s.T) ∧ W.cell? ⟨g, 1, none⟩ = some (.int .u64 s.I) ∧ W.cell? ⟨g, 2, none⟩ = some (.int .u64 s.P) ∧ W.cell? ⟨g, 3, none⟩ = some (.string s.sv) ∧ W.cell? ⟨g, 4, none⟩ = some (.string s.nm) ∧ W.cell? ⟨g, 5, none⟩ = some (.int .i64 s.kd) ∧ W.cell? ⟨g, 6, none⟩ = some (.int .i64 s.st) ∧ W.cell? ⟨g, 7, none⟩ = some (.int .u64 s.t0) ∧ W.cell? ⟨g, 8, none⟩ = some (.int .u64 s.t1) ∧ W.cell? ⟨g, 9, none⟩ = some (v) ∧ W.cell? p = some (.int .u64 s'.T) ∧ W.cell? ⟨p.block, p.off + 1, none⟩ = some (.int .u64 s'.I) ∧ W.cell? ⟨p.block, p.off + 2, none⟩ = some (.int .u64 s'.P) ∧ W.cell? ⟨p.block, p.off + 3, none⟩ = some (.string s'.sv) ∧ W.cell? ⟨p.block, p.off + 4, none⟩ = some (.string s'.nm) ∧ W.cell? ⟨p.block, p.off + 5, none⟩ = some (.int .i64 s'.kd) ∧ W.cell? ⟨p.block, p.off + 6, none⟩ = some (.int .i64 s'.st) ∧ W.cell? ⟨p.block, p.off + 7, none⟩ = some (.int .u64 s'.t0) ∧ W.cell? ⟨p.block, p.off + 8, none⟩ = some (.int .u64 s'.t1) ∧ W.cell? ⟨p.block, p.off + 9, none⟩ = some (v') :=
  ⟨h.cell 0, h.cell 1, h.cell 2, h.cell 3, h.cell 4, h.cell 5, h.cell 6, h.cell 7, h.cell 8, h.cell 9, h'.c0, h'.c1, h'.c2, h'.c3, h'.c4, h'.c5, h'.c6, h'.c7, h'.c8, h'.c9⟩
theorem twenty_bk {W : World} {g g' : Nat} {t t' : TypeId} {s s' : Sp} {v v' : Value} (h : Bk W g t (spc s v)) (h' : Bk W g' t' (spc s' v')) : W.cell? ⟨g, 0, none⟩ = some (.int .u64 s.T) ∧ W.cell? ⟨g, 1, none⟩ = some (.int .u64 s.I) ∧ W.cell? ⟨g, 2, none⟩ = some (.int .u64 s.P) ∧ W.cell? ⟨g, 3, none⟩ = some (.string s.sv) ∧ W.cell? ⟨g, 4, none⟩ = some (.string s.nm) ∧ W.cell? ⟨g, 5, none⟩ = some (.int .i64 s.kd) ∧ W.cell? ⟨g, 6, none⟩ = some (.int .i64 s.st) ∧ W.cell? ⟨g, 7, none⟩ = some (.int .u64 s.t0) ∧ W.cell? ⟨g, 8, none⟩ = some (.int .u64 s.t1) ∧ W.cell? ⟨g, 9, none⟩ = some (v) ∧ W.cell? ⟨g', 0, none⟩ = some (.int .u64 s'.T) ∧ W.cell? ⟨g', 1, none⟩ = some (.int .u64 s'.I) ∧ W.cell? ⟨g', 2, none⟩ = some (.int .u64 s'.P) ∧ W.cell? ⟨g', 3, none⟩ = some (.string s'.sv) ∧ W.cell? ⟨g', 4, none⟩ = some (.string s'.nm) ∧ W.cell? ⟨g', 5, none⟩ = some (.int .i64 s'.kd) ∧ W.cell? ⟨g', 6, none⟩ = some (.int .i64 s'.st) ∧ W.cell? ⟨g', 7, none⟩ = some (.int .u64 s'.t0) ∧ W.cell? ⟨g', 8, none⟩ = some (.int .u64 s'.t1) ∧ W.cell? ⟨g', 9, none⟩ = some (v') :=
  ⟨h.cell 0, h.cell 1, h.cell 2, h.cell 3, h.cell 4, h.cell 5, h.cell 6, h.cell 7, h.cell 8, h.cell 9, h'.cell 0, h'.cell 1, h'.cell 2, h'.cell 3, h'.cell 4, h'.cell 5, h'.cell 6, h'.cell 7, h'.cell 8, h'.cell 9⟩
end Go.Proofs.YtdmibolbpgondaaGreat.D09
