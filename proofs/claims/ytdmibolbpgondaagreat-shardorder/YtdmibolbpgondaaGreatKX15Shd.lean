/-
  shard.New, all, Held, Deadline, Due; what none answers.
  Lists of spans that are told: slices that nobody writes any more; what the room's maps tell of a span.
-/
import Derived.Test.YtdmibolbpgondaaGreatKX15New
import Derived.Test.YtdmibolbpgondaaGreatKU12Until
import Derived.BigQuiet
import Derived.Deep.QuietTactic
import Derived.Test.YtdmibolbpgondaaGreatKX15Set
import Derived.Test.YtdmibolbpgondaaGreatKB7Ten
section
set_option linter.unusedSimpArgs false
set_option linter.unusedVariables false
namespace Go.Proofs.YtdmibolbpgondaaGreat.X15
open Go.RowKit Go.Lib Go.Maps Go.Proofs.YtdmibolbpgondaaGreat.Wd Go.Proofs.YtdmibolbpgondaaGreat.P06
open Go.Proofs.YtdmibolbpgondaaGreat.B07 (Pn OkN OkA OkP Spn)
open Go.Proofs.YtdmibolbpgondaaGreat.U12 (It Lt Qu at_in at_out isin_false isin_true isin qunt_at UtOut)

/-- a room whose numbers are those of its spans -/
structure Rm (w : World) (col : Nat → Nat) (p : Pr) (L : List Pn) : Prop where
  rx : Rx w col p
  sm : Sm w col p L (trs L)
  n : p.n = L.length
  h : p.h = held L
/-- the shard in block sp -/
structure Sd (w : World) (col : Nat → Nat) (sp : Nat) (p : Pr) (L : List Pn) : Prop where
  rm : Rm w col p L
  c : w.cell? ⟨sp, 0, none⟩ = some (.pointer (some ⟨p.r, 0, none⟩))
  k : col sp = 0
section
variable {w w' : World} {col col' : Nat → Nat} {p : Pr} {L : List Pn} {sp : Nat}
theorem Rx.new0' (h : Rx w col p) : col w.heap.size = 0 := by
  by_cases e : col w.heap.size = 0
  · exact e
  · have := h.lt _ e; omega
theorem Rm.below (h : Rm w col p L) (hb : Below w.heap.size w w') : Rm w' col p L := ⟨h.rx.below hb, h.sm.fs (Fs.below hb), h.n, h.h⟩
theorem Sd.below (h : Sd w col sp p L) (hb : Below w.heap.size w w') : Sd w' col sp p L := ⟨h.rm.below hb, (hb.cell (World.block_lt_of_cell? _ _ h.c)).trans h.c, h.k⟩
theorem Emp.sm {G S B : Nat} (h : Emp p G S B) : Sm w col p [] (trs []) := by
  refine ⟨List.Pairwise.nil, fun x hx => (by cases hx), fun t => ?_, fun t => ?_, h.nt, h.ne, fun t ht => (by cases ht), fun t ht => (by cases ht), fun t ht => (by cases ht), fun t ht => (by cases ht), h.dq⟩
  · rw [h.bi]; simp [trs]
  · rw [h.qi]; simp [trs]
theorem Emp.rm {G S B : Nat} (h : Emp p G S B) (hR : Rx w col p) : Rm w col p [] := ⟨hR, h.sm, h.n, h.h⟩
/-- what all tells -/
def Alp (w : World) (pr : Pr → Prop) (e : Ending) (w' : World) : Prop := ∃ col p, e = .returned (.pointer (some ⟨p.r, 0, none⟩)) ∧ Rx w' col p ∧ pr p ∧ Below w.heap.size w w'
theorem sall_at {r : Nat} (h : w.cell? ⟨sp, 0, none⟩ = some (.pointer (some ⟨r, 0, none⟩))) : Calls Tryz.prog 31 #[.pointer (some ⟨sp, 0, none⟩)] w fun e w' => e = .returned (.pointer (some ⟨r, 0, none⟩)) ∧ w = w' := by
  go_enter Tryz.func31, Tryz.ntmps31
  go_wp2
  go_ret
  exact ⟨rfl, rfl⟩
theorem Sd.all (h : Sd w col sp p L) : Calls Tryz.prog 31 #[.pointer (some ⟨sp, 0, none⟩)] w (Alp w fun p' => p' = p) :=
  (sall_at h.c).mono fun e w' ⟨h1, h2⟩ => by subst h2; exact ⟨col, p, h1, h.rm.rx, rfl, Below.refl _ _⟩
theorem sall_nil (w : World) : Calls Tryz.prog 31 #[.pointer none] w (Alp w fun p' => Emp p' 0 0 0) := by
  have he := empty_at 0 0 0 w
  go_enter Tryz.func31, Tryz.ntmps31
  go_wp2_with fail
  refine he.mono ?_
  rintro e w1 ⟨col, p, rfl, h1, h2, h3, h4⟩
  have H := Lib.hid (show Alp w (fun p' => Emp p' 0 0 0) (.returned (.pointer (some ⟨p.r, 0, none⟩))) w1 from ⟨col, p, rfl, h1, h2, h4⟩)
  clear he h1 h2 h3 h4
  go_wp2
  go_returns
  exact H.out
/-- New, of numbers that may be -/
def NwS (w : World) (G S B : Nat) (e : Ending) (w' : World) : Prop := ∃ sp col p, e = .returned (.tuple #[.pointer (some ⟨sp, 0, none⟩), .int .i64 0]) ∧ Sd w' col sp p [] ∧ p.G = G ∧ p.S = S ∧ p.B = B ∧ (∀ x, col x ≠ 0 → w.heap.size ≤ x) ∧ w.heap.size ≤ sp ∧ Below w.heap.size w w'
set_option maxRecDepth 20000 in
set_option maxHeartbeats 2000000 in
theorem snew_right (G S B : Nat) (w : World) (hG : G ≤ MT) (hS : 1 ≤ S ∧ S ≤ 65536) (hB : 1 ≤ B ∧ B ≤ MT) : Calls Tryz.prog 8 #[.int .u64 (G : Int), .int .i64 (S : Int), .int .i64 (B : Int)] w (NwS w G S B) := by
  have he := empty_at G S B w
  unfold MT at hG hB
  have k1 : ¬ (4611686018427387904 : Int) < (G : Int) := by omega
  have k2 : ¬ (S : Int) < 1 := by omega
  have k3 : ¬ (65536 : Int) < (S : Int) := by omega
  have k4 : ¬ (B : Int) < 1 := by omega
  have k5 : ¬ (4611686018427387904 : Int) < (B : Int) := by omega
  clear hG hS hB
  go_enter Tryz.func8, Tryz.ntmps8
  go_wp2_with fail
  refine he.mono ?_
  rintro e w1 ⟨col, p, rfl, h1, h2, h3, h4⟩
  have b2 : Below w1.heap.size w1 (w1.alloc (.cells #[.pointer (some ⟨p.r, 0, none⟩)] 77)) := (Below.refl _ _).alloc (Nat.le_refl _) _
  have H := Lib.hid (show NwS w G S B (.returned (.tuple #[.pointer (some ⟨w1.heap.size, 0, none⟩), .int .i64 0])) (w1.alloc (.cells #[.pointer (some ⟨p.r, 0, none⟩)] 77)) from
    ⟨w1.heap.size, col, p, rfl, ⟨(h2.rm h1).below b2, by simp, h1.new0'⟩, h2.G, h2.S, h2.B, h3, h4.size, h4.trans (b2.mono h4.size)⟩)
  clear he h1 h2 h3 h4 b2
  go_wp2
  go_ret2
  exact H.out
end
end Go.Proofs.YtdmibolbpgondaaGreat.X15
end

section
set_option linter.unusedSimpArgs false
set_option linter.unusedVariables false
namespace Go.Proofs.YtdmibolbpgondaaGreat.X15
open Go.RowKit Go.Lib Go.Maps Go.Proofs.YtdmibolbpgondaaGreat.Wd Go.Proofs.YtdmibolbpgondaaGreat.P06
open Go.Proofs.YtdmibolbpgondaaGreat.B07 (Pn OkN OkA OkP Spn Sps pns tenA ten ten_len tm_len Rd.lit10)
section
variable {w w' : World} {col col' : Nat → Nat} {p : Pr} {L : List Pn}
theorem set_at (h : Rx w col p) (hS : Sm w col p L (trs L)) (y : Spn) (n : Nat) (hn : y.l.length = n) (hok : Okx y.pn) (hd : Hd 0 w y.A y.c y.l) (hc : ∀ a, y.A = some a → col a.block = 0) (hfew : L.length ≤ 500) (hG : p.G ≤ MT) :
    Calls Tryz.prog 52 #[.pointer (some ⟨p.r, 0, none⟩), spv y.s (.slice y.A n y.c)] w (StOut w col p (X15.put L y.pn)) := by
  obtain ⟨⟨T, I, P, sv, nm, kd, st, t0, t1⟩, A, c, l⟩ := y
  obtain ⟨t, rfl⟩ := Int.eq_ofNat_of_zero_le hok.n.a0
  obtain ⟨i, rfl⟩ := Int.eq_ofNat_of_zero_le hok.n.b0
  obtain ⟨e1, rfl⟩ := Int.eq_ofNat_of_zero_le hok.n.e0
  by_cases hin : t ∈ trs L
  · exact set_old h hS t i e1 P sv nm kd st t0 A c n l hn hok hd hc hfew hG hin
  · exact set_new h hS t i e1 P sv nm kd st t0 A c n l hn hok hd hc hfew hG hin
theorem zero_span (w : World) : (zeroValue 45).run Tryz.prog w = .ok (.agg zsp) w := by kernel_rfl
/-- of a span that is not there -/
theorem Rm.look_no (h : Rm w col p L) {x : Pn} (hok : Okx x) (hf : fnd L x = none) : ∃ mv, (∀ W, Below w.heap.size w W → (Instr.lookup 99 (.map (some p.bt)) (.int .u64 x.1.T) false).run Tryz.prog W = .ok mv W) ∧
    ∀ W, Below w.heap.size w W → (Instr.lookup 98 mv (.int .u64 x.1.I) true).run Tryz.prog W = .ok (.tuple #[.agg zsp, .bool false]) W := by
  have hT := hok.tn
  have hI := hok.idn
  rw [← hT.1, ← hI.1]
  cases hb : p.bi (tn x) with
  | none =>
    refine ⟨.map none, fun W hW => (h.rx.below hW).look99 hT.2 (by rw [hb]; rfl), fun W hW => ?_⟩
    exact look_none true Tryz.underlying98 (zero_span W) hI.2
  | some b =>
    refine ⟨.map (some b), fun W hW => (h.rx.below hW).look99 hT.2 (by rw [hb]; rfl), fun W hW => ?_⟩
    have hin := (h.sm.bi (tn x)).1 (by rw [hb]; rfl)
    have hno : p.fi (tn x) (idn x) = none := by
      cases e : p.fi (tn x) (idn x) with
      | none => rfl
      | some v =>
        obtain ⟨z, h1, h2⟩ := h.sm.fn _ hin _ _ e
        obtain ⟨h3, h4⟩ := mem_trace.1 h1
        exact absurd ((ke_nat (h.sm.ok z h3) hok).2 ⟨h4, h2⟩) (fnd_none hf z h3)
    have := ((h.rx.below hW).im _ _ hb).1.look Tryz.underlying98 (zero_span W) hI.2
    rw [hno] at this
    exact this
/-- of one that is there -/
theorem Rm.look_yes (h : Rm w col p L) {x z : Pn} (hok : Okx x) (hf : fnd L x = some z) : ∃ b y, B07.Spn.pn y = z ∧ Hd 0 w y.A y.c y.l ∧ (∀ a, y.A = some a → col a.block = 0) ∧ (∀ W, Below w.heap.size w W → (Instr.lookup 99 (.map (some p.bt)) (.int .u64 x.1.T) false).run Tryz.prog W = .ok (.map (some b)) W) ∧
    ∀ W, Below w.heap.size w W → (Instr.lookup 98 (.map (some b)) (.int .u64 x.1.I) true).run Tryz.prog W = .ok (.tuple #[sval y, .bool true]) W := by
  have hT := hok.tn
  have hI := hok.idn
  rw [← hT.1, ← hI.1]
  obtain ⟨h1, h2⟩ := fnd_some hf
  have hk := (ke_nat (h.sm.ok z h1) hok).1 h2
  have hin : tn x ∈ trs L := mem_trs.2 ⟨z, h1, hk.1⟩
  obtain ⟨b, hb⟩ := Option.isSome_iff_exists.1 ((h.sm.bi _).2 hin)
  obtain ⟨y, h3, h4, h5, h6⟩ := h.sm.fi _ hin z (mem_trace.2 ⟨h1, hk.1⟩)
  refine ⟨b, y, h3, h5, h6, fun W hW => (h.rx.below hW).look99 hT.2 (by rw [hb]; rfl), fun W hW => ?_⟩
  have := ((h.rx.below hW).im _ _ hb).1.look Tryz.underlying98 (zero_span W) hI.2
  rw [hk.2] at h4
  rw [h4] at this
  exact this

/-- a list of spans that was told: nobody's block is the room's -/
structure Out (w : World) (col : Nat → Nat) (A : Option Addr) (c : Nat) (M : List Spn) : Prop where
  rd : Rd 10 w A M.length c (M.flatMap ten)
  hd : ∀ y ∈ M, Hd 0 w y.A y.c y.l
  a0 : ∀ a, A = some a → col a.block = 0 ∧ a.block < w.heap.size
  c0 : ∀ y ∈ M, ∀ a, y.A = some a → col a.block = 0
theorem rd_block {sz n c : Nat} {A : Option Addr} {xs : List Value} (h : Rd sz w A n c xs) (hk : ∀ a, A = some a → w'.heap[a.block]? = w.heap[a.block]?) : Rd sz w' A n c xs :=
  ⟨h.len, h.none_, h.cap, h.max, fun ad ha i u hu => by
    have e : w'.cell? (ad.add i) = w.cell? (ad.add i) := World.cell?_of_block (by rw [add_block]; exact hk ad ha)
    rw [e]
    exact h.at_ ad ha i u hu⟩
theorem Out.nil (w : World) (col : Nat → Nat) : Out w col none 0 [] := ⟨Rd.nil 10 w, fun y hy => (by cases hy), fun a ha => (by cases ha), fun y hy => (by cases hy)⟩
theorem Out.sps {A : Option Addr} {c : Nat} {M : List Spn} (h : Out w col A c M) : Sps w A c M := ⟨h.rd, fun y hy => (h.hd y hy).ats⟩
theorem Out.fs {A : Option Addr} {c : Nat} {M : List Spn} (h : Out w col A c M) (F : Fs w w' col col') : Out w' col' A c M := by
  refine ⟨rd_block h.rd fun a ha => F.fr.block _ (h.a0 a ha).2 fun hm => (mem_ow.1 hm).2.1 (h.a0 a ha).1, fun y hy => (hd_fs (h.hd y hy) F (h.c0 y hy)).1, fun a ha => ⟨?_, Nat.lt_of_lt_of_le (h.a0 a ha).2 F.fr.size⟩, fun y hy => (hd_fs (h.hd y hy) F (h.c0 y hy)).2⟩
  by_cases e : col' a.block = 0
  · exact e
  · exact absurd (h.a0 a ha).1 ((F.old _ (h.a0 a ha).2).1 e)
theorem Out.below {A : Option Addr} {c : Nat} {M : List Spn} (h : Out w col A c M) (hb : Below w.heap.size w w') : Out w' col A c M := h.fs (Fs.below hb)
theorem Out.one {y : Spn} (hR : Rx w col p) (hd : Hd 0 w y.A y.c y.l) (hc : ∀ a, y.A = some a → col a.block = 0) : Out (w.alloc (.cells (tenA y) 45)) col (some ⟨w.heap.size, 0, none⟩) 1 [y] := by
  have hb : Below w.heap.size w (w.alloc (.cells (tenA y) 45)) := (Below.refl _ _).alloc (Nat.le_refl _) _
  refine ⟨by simpa using Rd.lit10 w 45 y, fun z hz => ?_, fun a ha => ?_, fun z hz => ?_⟩
  · simp at hz; subst hz; exact hd.below hb
  · cases ha; exact ⟨hR.new0, by simp⟩
  · simp at hz; subst hz; exact hc
end
end Go.Proofs.YtdmibolbpgondaaGreat.X15
end
