/-
  slices.SortedFunc(maps.Values(m), span.Compare).
  room.take: a trace's spans taken off. (Written by gen15/take.py.)
-/
import Derived.Test.YtdmibolbpgondaaGreatKX15IterS
import Derived.Test.YtdmibolbpgondaaGreatKX15SortS
import Derived.Test.YtdmibolbpgondaaGreatKX15Put
section
set_option linter.unusedSimpArgs false
set_option linter.unusedVariables false
namespace Go.Proofs.YtdmibolbpgondaaGreat.X15
open Go.RowKit Go.Lib Go.Maps Go.Shelf Go.Proofs.YtdmibolbpgondaaGreat.Wd Go.Proofs.YtdmibolbpgondaaGreat.P06
open Go.Proofs.YtdmibolbpgondaaGreat.B07 (Spn tenA ten ten_len ten_one Sps pns)
open Go.Proofs.YtdmibolbpgondaaGreat.D09 (cp)
attribute [local go_sem] Oper.semAt_some

/-- what it tells -/
def SfOut (w : World) (f : Nat → Option Value) (g : Nat → Spn) (e : Ending) (w' : World) : Prop :=
  ∃ A c n ks zs, e = .returned (.slice A n c) ∧ List.length zs = n ∧ AllK f ks ∧ zs.Perm (ks.map g) ∧ (zs.Pairwise fun x y => cp x.pn y.pn ≤ 0) ∧ Sps w' A c zs ∧ Below w.heap.size w w' ∧ (∀ a, A = some a → w.heap.size ≤ a.block) ∧ ∀ y ∈ zs, Hd 0 w y.A y.c y.l
theorem ten_sval {x y : Spn} (h : sval x = sval y) : ten x = ten y := by
  have : tenA x = tenA y := by injection h
  unfold ten
  rw [this]
theorem allv_same {f : Nat → Option Value} {g : Nat → Spn} (hg : ∀ i v, f i = some v → v = sval (g i)) : ∀ {ks : List Nat} {ys : List Spn}, (ks.map f = ys.map fun y => some (sval y)) → ys.length = (ks.map g).length ∧ ys.flatMap ten = (ks.map g).flatMap ten
  | [], [], _ => ⟨rfl, rfl⟩
  | [], y :: ys, h => by simp at h
  | k :: ks, [], h => by simp at h
  | k :: ks, y :: ys, h => by
    simp only [List.map_cons, List.cons.injEq] at h
    obtain ⟨i1, i2⟩ := allv_same hg h.2
    have e := ten_sval (hg k _ h.1)
    simp only [List.map_cons, List.length_cons, List.flatMap_cons, i1, i2, e, List.length_map, and_self]
theorem allv_g {f : Nat → Option Value} {g : Nat → Spn} {ys : List Spn} (hg : ∀ i v, f i = some v → v = sval (g i)) (h : AllV f ys) : ∃ ks, AllK f ks ∧ ys.length = (ks.map g).length ∧ ys.flatMap ten = (ks.map g).flatMap ten := by
  obtain ⟨ks, h1, h2⟩ := h
  exact ⟨ks, h1, allv_same hg h2⟩
set_option maxRecDepth 100000 in
set_option maxHeartbeats 2000000 in
theorem sortedf_at {w : World} {b N Bm : Nat} {f : Nat → Option Value} (g : Nat → Spn) (hm : w.cell? ⟨Bm, 0, none⟩ = some (.map (some b))) (h : Mp w b f N) (hN : N ≤ 10000) (hg : ∀ i v, f i = some v → v = sval (g i))
    (hat : ∀ i, (f i).isSome = true → Hd 0 w (g i).A (g i).c (g i).l ∧ (g i).l.length ≤ 40) (hlen : ∀ ks, AllK f ks → ks.length ≤ 10000) :
    Calls Tryz.prog 58 #[.func (.func 78) #[] #[.pointer (some ⟨Bm, 0, none⟩)], .func (.func 53) #[] #[]] w (SfOut w f g) := by
  refine (callsIn_wide (n := 9)).1 ?_
  have hfv : ∀ i v, f i = some v → ∃ y : Spn, v = sval y := fun i v hv => ⟨g i, hg i v hv⟩
  have hBm : Bm < w.heap.size := World.block_lt_of_cell? _ _ hm
  have hst := vals_stops Fence.wide 6 trivial rfl (by omega) Bm b N f hfv w hBm hm h
  have hcol : CallsIn Fence.wide 8 Tryz.prog 76 #[.func (.func 78) #[] #[.pointer (some ⟨Bm, 0, none⟩)]] w fun e w' => ∃ (v : Value) (ys : List Spn), e = .returned v ∧ AllV f ys ∧ w'.ownsRow w.heap.size 45 10 v ys.length (ys.flatMap ten) ∧ Below w.heap.size w w' :=
    cols_in Fence.wide 8 trivial trivial rfl (by omega) _ _ trivial (enters_of Tryz.func78 (by kernel_rfl) rfl) (AllV f) (fun _ => True) N (by omega) w hst
  refine callsIn_of_wp Tryz.func58 rfl trivial ?_ rfl
  simp only [Tryz.ntmps58, List.size_toArray, List.length_cons, List.length_nil, Nat.reduceAdd, Nat.reduceSub, Array.replicate_succ, Array.replicate_zero, List.push_toArray, List.append_toArray, List.nil_append, List.cons_append]
  gi_wp2_with (refine ⟨trivial, ?_⟩; gi_at_call 76; refine hcol.mono ?_; rintro e w1 ⟨v, ys0, rfl, hall0, hrow0, hb⟩; obtain ⟨A, c, rfl⟩ := own_form hrow0)
  obtain ⟨ks, hall, hle, hfe⟩ := allv_g hg hall0
  rw [hfe, hle] at hrow0
  rw [hle]
  obtain ⟨ys, hys⟩ : ∃ ys, ks.map g = ys := ⟨_, rfl⟩
  have hrow := hrow0
  rw [hys] at hrow ⊢
  have hyl : ys.length = ks.length := by rw [← hys, List.length_map]
  have hmem : ∀ y ∈ ys, Hd 0 w y.A y.c y.l ∧ y.l.length ≤ 40 := fun y hy => by
    rw [← hys] at hy
    obtain ⟨i, hi, rfl⟩ := List.mem_map.1 hy
    exact hat i ((hall.2 i).1 hi)
  clear hrow0 hle hfe
  have hso := ssort_at hrow rfl (by have := hlen ks hall; omega) fun y hy => by
    obtain ⟨k1, k2⟩ := hmem y hy
    refine ⟨k1.below hb, k2, fun a ha b hb' e => ?_⟩
    have h1 := (B07.Hd.lt k1 a ha).2
    have h2 := (hrow.lt b.block (by rw [hb']; rfl)).1
    omega
  gi_wp2_with (refine ⟨trivial, ?_⟩; gi_at_call 77; refine (callsIn_wide.2 hso).mono ?_; rintro e w2 ⟨rfl, zs, hp, hsd, hrd, hfr⟩)
  go_ret
  have hA : ∀ a, A = some a → w.heap.size ≤ a.block := fun a ha => (hrow.lt a.block (by rw [ha]; rfl)).1
  have hb2 : Below w.heap.size w w2 := hb.trans (hfr.below hb.size fun x hx => by
    cases A with
    | none => simp at hx
    | some a => simp at hx; subst hx; exact hA a rfl)
  have hhd : ∀ y ∈ zs, Hd 0 w y.A y.c y.l := fun y hy => (hmem y (hp.mem_iff.1 hy)).1
  subst hys
  exact ⟨A, c, ks.length, ks, zs, rfl, by rw [hp.length_eq, List.length_map], hall, hp, hsd, ⟨by rw [hp.length_eq]; first | exact hrd | (rw [List.length_map]; exact hrd), fun y hy => (hhd y hy).ats.below hb2⟩, hb2, hA, hhd⟩
end Go.Proofs.YtdmibolbpgondaaGreat.X15
end

section
set_option linter.unusedSimpArgs false
set_option linter.unusedVariables false
namespace Go.Proofs.YtdmibolbpgondaaGreat.X15
open Go.RowKit Go.Lib Go.Maps Go.Proofs.YtdmibolbpgondaaGreat.Wd Go.Proofs.YtdmibolbpgondaaGreat.P06
open Go.Proofs.YtdmibolbpgondaaGreat.B07 (Pn OkN OkA OkP Spn Sps pns tenA ten Ten)
open Go.Proofs.YtdmibolbpgondaaGreat.D09 (cp cp_neg TenW)
open Go.Proofs.YtdmibolbpgondaaGreat.U12 (It Lt Qu QOut putm dropm isin drop_in isin_true drew_below)
section
variable {w w' : World} {col col' : Nat → Nat} {p : Pr} {L : List Pn}
/-- what take leaves -/
def TkOut (w : World) (col : Nat → Nat) (p : Pr) (L : List Pn) (t : Nat) (e : Ending) (w' : World) : Prop :=
  ∃ A c M col' p', e = .returned (.slice A (trace L t).length c) ∧ pns M = trace L t ∧ Out w' col' A c M ∧ Rm w' col' p' (rest L t) ∧ Fs w w' col col' ∧ Fix p p' ∧ p'.fi = p.fi ∧ ∀ y ∈ M, ∃ i, p.fi t i = some (sval y)
/-- a state of the loop -/
structure Tl (w : World) (col : Nat → Nat) (p : Pr) (L T : List Pn) (A : Option Addr) (c : Nat) (zs : List Spn) (i hi : Nat) (W : World) : Prop where
  sum : hi + held (T.take i) = held L
  rx : Rx W col { p with h := hi }
  fs : Fs w W col col
  out : Out W col A c zs
/-- whose a value is -/
theorem whose (h : Sm w col p L (trs L)) {t : Nat} (ht : t ∈ trs L) : ∃ g : Nat → Spn, ∀ i v, p.fi t i = some v → v = sval (g i) ∧ (g i).pn ∈ trace L t ∧ idn (g i).pn = i ∧ Hd 0 w (g i).A (g i).c (g i).l ∧ ∀ a, (g i).A = some a → col a.block = 0 := by
  have : ∀ i, ∃ y : Spn, ∀ v, p.fi t i = some v → v = sval y ∧ y.pn ∈ trace L t ∧ idn y.pn = i ∧ Hd 0 w y.A y.c y.l ∧ ∀ a, y.A = some a → col a.block = 0 := fun i => by
    cases e : p.fi t i with
    | none => exact ⟨⟨⟨0, 0, 0, ⟨#[]⟩, ⟨#[]⟩, 0, 0, 0, 0⟩, none, 0, []⟩, fun v hv => by cases hv⟩
    | some v =>
      obtain ⟨y, hy⟩ := h.val ht e
      exact ⟨y, fun v' hv => by injection hv with hv; subst hv; exact hy⟩
  exact ⟨fun i => Classical.choose (this i), fun i => Classical.choose_spec (this i)⟩
theorem told_trace (h : Sm w col p L (trs L)) {t : Nat} (ht : t ∈ trs L) {g : Nat → Spn} (hg : ∀ i v, p.fi t i = some v → v = sval (g i) ∧ (g i).pn ∈ trace L t ∧ idn (g i).pn = i ∧ Hd 0 w (g i).A (g i).c (g i).l ∧ ∀ a, (g i).A = some a → col a.block = 0)
    {ks : List Nat} {zs : List Spn} (hk : AllK (p.fi t) ks) (hp : zs.Perm (ks.map g)) (hs : zs.Pairwise fun x y => cp x.pn y.pn ≤ 0) : pns zs = trace L t := by
  have hin : ∀ i, i ∈ ks → (g i).pn ∈ trace L t ∧ idn (g i).pn = i := fun i hi => by
    obtain ⟨v, hv⟩ := Option.isSome_iff_exists.1 ((hk.2 i).1 hi)
    have := hg i v hv
    exact ⟨this.2.1, this.2.2.1⟩
  have hids : (zs.map fun y => idn y.pn).Nodup := by
    have e : (ks.map g).map (fun y => idn y.pn) = ks := by
      rw [List.map_map]
      have : ∀ i ∈ ks, ((fun y : Spn => idn y.pn) ∘ g) i = id i := fun i hi => (hin i hi).2
      rw [List.map_congr_left this, List.map_id]
    refine (hp.map _).nodup_iff.2 ?_
    rw [e]
    exact hk.1
  have hz : ∀ y ∈ zs, y.pn ∈ trace L t := fun y hy => by
    obtain ⟨i, hi, rfl⟩ := List.mem_map.1 (hp.mem_iff.1 hy)
    exact (hin i hi).1
  refine so_one ?_ (trace_so h.so t) fun x => ⟨fun hx => ?_, fun hx => ?_⟩
  · unfold pns
    rw [So, List.pairwise_map]
    have hd : zs.Pairwise fun x y => idn x.pn ≠ idn y.pn := List.pairwise_map.1 hids
    refine (hs.and hd).imp_of_mem ?_
    intro a b ha hb hab
    obtain ⟨h1, h2⟩ := hab
    obtain ⟨a1, a2⟩ := mem_trace.1 (hz a ha)
    obtain ⟨b1, b2⟩ := mem_trace.1 (hz b hb)
    have hne : ¬ Ke a.pn b.pn := fun hk => h2 ((ke_nat (h.ok _ a1) (h.ok _ b1)).1 hk).2
    rcases kl_total hne with k | k
    · exact k
    · have := cp_lt k
      rw [cp_neg] at this
      omega
  · obtain ⟨y, hy, rfl⟩ := List.mem_map.1 hx
    exact hz y hy
  · obtain ⟨y, h1, h2, h3, h4⟩ := h.fi t ht x hx
    have hi : idn x ∈ ks := (hk.2 _).2 (by rw [h2]; rfl)
    have hm : g (idn x) ∈ zs := hp.mem_iff.2 (List.mem_map.2 ⟨_, hi, rfl⟩)
    have e : (g (idn x)).pn = x := same_id h.so h.ok (hin _ hi).1 hx (hin _ hi).2
    exact List.mem_map.2 ⟨_, hm, e⟩
set_option maxRecDepth 20000 in
set_option maxHeartbeats 8000000 in
theorem take_at (h : Rm w col p L) (t : Nat) (ht : t ∈ trs L) (hfew : L.length ≤ 500) :
    Calls Tryz.prog 42 #[.pointer (some ⟨p.r, 0, none⟩), .int .u64 (t : Int)] w (TkOut w col p L t) := by
  have mixed : Tryz.prog.follows .mixedOrders = true := by kernel_rfl
  obtain ⟨x, hx1, hx2⟩ := mem_trs.1 ht
  have hT : (t : Int) ≤ 18446744073709551615 := by rw [← hx2]; exact (h.sm.ok x hx1).tn.2
  clear x hx1 hx2
  obtain ⟨b, hb⟩ := Option.isSome_iff_exists.1 ((h.sm.bi t).2 ht)
  obtain ⟨hmb, hcb⟩ := h.rx.im _ _ hb
  have hlk : ∀ W, Below w.heap.size w W → (Instr.lookup 99 (.map (some p.bt)) (.int .u64 (t : Int)) false).run Tryz.prog W = .ok (.map (some b)) W := fun W hW => (h.rx.below hW).look99 hT (by rw [hb]; rfl)
  have hlk0 := hlk w (Below.refl _ _)
  obtain ⟨g, hg⟩ := whose h.sm ht
  have htl : (trace L t).length ≤ L.length := by have := part_len L t; omega
  have hni := h.sm.ni t ht
  have bx : Below w.heap.size w (w.alloc (.cells #[.map (some b)] 98)) := (Below.refl _ _).alloc (Nat.le_refl _) _
  have hso := sortedf_at (w := w.alloc (.cells #[.map (some b)] 98)) (Bm := w.heap.size) (b := b) (N := p.Ni t) (f := p.fi t) g (by simp) (hmb.below bx) (by omega) (fun i v hv => (hg i v hv).1)
    (fun i hi => by
      obtain ⟨v, hv⟩ := Option.isSome_iff_exists.1 hi
      obtain ⟨h1, h2, h3, h4, h5⟩ := hg i v hv
      exact ⟨h4.below bx, (h.sm.ok _ (mem_trace.1 h2).1).r.few⟩)
    (fun ks hk => by
      have h1 : ks.length ≤ ((trace L t).map idn).length := nodup_len ks _ hk.1 fun i hi => by
        obtain ⟨v, hv⟩ := Option.isSome_iff_exists.1 ((hk.2 i).1 hi)
        obtain ⟨h1, h2, h3, h4⟩ := hg i v hv
        exact List.mem_map.2 ⟨_, h2, h3⟩
      rw [List.length_map] at h1
      omega)
  have c5 := h.rx.cl.c5
  have HG := Lib.hid hg
  clear hg hlk hmb hcb hni htl
  go_enter Tryz.func42, Tryz.ntmps42
  go_wp2_with fail
  refine ((callsIn_wide (n := 8)).1 (vals_in Fence.wide 8 trivial rfl (some b) w)).mono ?_
  rintro e w0 ⟨rfl, rfl⟩
  go_wp2_with fail
  refine hso.mono ?_
  rintro e w1 ⟨A, c, n, ks, zs, rfl, hn, hk, hp, hs, hsp, hb1, hA, hhd⟩
  have htr := told_trace h.sm ht HG.out hk hp hs
  have hn2 : (trace L t).length = n := by rw [← htr, ← hn]; simp [pns]
  have hvs : ∀ y ∈ zs, ∃ i, p.fi t i = some (sval y) := fun y hy => by
    obtain ⟨i, hi, rfl⟩ := List.mem_map.1 (hp.mem_iff.1 hy)
    obtain ⟨v, hv⟩ := Option.isSome_iff_exists.1 ((hk.2 i).1 hi)
    exact ⟨i, by rw [hv, (HG.out i v hv).1]⟩
  have HVS := Lib.hid hvs
  clear hvs
  have hzs : ∀ y ∈ zs, y.pn ∈ trace L t := fun y hy => by rw [← htr]; exact List.mem_map.2 ⟨y, hy, rfl⟩
  have hn0 : 0 < n := by
    obtain ⟨x, hx1, hx2⟩ := mem_trs.1 ht
    have := List.length_pos_of_mem (mem_trace.2 ⟨hx1, hx2⟩)
    omega
  have B1 : Below w.heap.size w w1 := bx.trans (hb1.mono bx.size)
  have hO1 : Out w1 col A c zs := ⟨hsp.rd, fun y hy => (hhd y hy).below hb1, fun a ha => ⟨by
      by_cases e : col a.block = 0
      · exact e
      · have h1 := h.rx.lt _ e
        have h2 := hA a ha
        have h3 := bx.size
        omega, by
      obtain ⟨ad, pp, h1, h2, F⟩ := hsp.get (k := 0) (by omega)
      rw [ha] at h1
      injection h1 with h1
      have := World.block_lt_of_cell? _ _ F.c0
      rw [← h2] at this
      rw [h1]
      exact this⟩, fun y hy a ha => by
      obtain ⟨i, hi, rfl⟩ := List.mem_map.1 (hp.mem_iff.1 hy)
      obtain ⟨v, hv⟩ := Option.isSome_iff_exists.1 ((hk.2 i).1 hi)
      exact (HG.out i v hv).2.2.2.2 a ha⟩
  have hT0 : Tl w col p L (trace L t) A c zs 0 p.h w1 := ⟨by rw [h.h]; simp [held], h.rx.below B1, Fs.below B1, hO1⟩
  have HTR := Lib.hid htr
  have HN := Lib.hid hn
  have HN2 := Lib.hid hn2
  have hnm : n ≤ 500 := by have := part_len L t; omega
  clear htr hn hn2 hk hp hs hsp hb1 hA hhd HG hzs B1 hO1 hso bx c5 hlk0 hb
  go_wp2_with fail
  go_loopw [18] (fun v wr => ∃ k hi : Nat, v = .int .i64 (k : Int) ∧ k ≤ n ∧ Tl w col p L (trace L t) A c zs k hi wr) (fun v _ => n - (intOf v).toNat)
  case atStart => exact ⟨0, p.h, rfl, Nat.zero_le _, hT0⟩
  case round =>
    clear hT0
    obtain ⟨k, hi, rfl, hk, R⟩ := hrel
    by_cases hlt : k < n
    · have hltz : (k : Int) < (n : Int) := by omega
      have hkl : k < zs.length := by rw [HN.out]; exact hlt
      have hkt : k < (trace L t).length := by rw [HN2.out]; exact hlt
      obtain ⟨ad, pp, rfl, hpp, F⟩ := R.out.sps.get hkl
      have hd1 := R.out.hd _ (List.getElem_mem hkl)
      have hx : (trace L t)[k]'hkt = (zs[k].s, zs[k].l) := by
        have : ∀ (T : List Pn) (e : pns zs = T) (h : k < T.length), T[k] = (zs[k].s, zs[k].l) := fun T e h => by subst e; exact B07.pns_get zs hkl
        exact this _ HTR.out hkt
      have hst := held_take hkt
      have hok1 := h.sm.ok _ (mem_trace.1 (List.getElem_mem hkt)).1
      have hle : held ((trace L t).take (k + 1)) ≤ held L := by
        have h1 := part_held L t
        have h2 : held (trace L t) = held ((trace L t).take (k + 1)) + held ((trace L t).drop (k + 1)) := by rw [← held_app, List.take_append_drop]
        omega
      rw [hx] at hst hok1
      obtain ⟨⟨s, A1, c1, l1⟩, hL⟩ : ∃ x, zs[k] = x := ⟨_, rfl⟩
      rw [hL] at F hd1 hst hok1
      dsimp only at hd1 hst hok1
      obtain ⟨m, hm⟩ : ∃ m, l1.length = m := ⟨_, rfl⟩
      have TE := TenW.of F hm
      have e0 := TE.c0
      have e1 := TE.c1
      have e2 := TE.c2
      have e3 := TE.c3
      have e4 := TE.c4
      have e5 := TE.c5
      have e6 := TE.c6
      have e7 := TE.c7
      have e8 := TE.c8
      have e9 := TE.c9
      have hr1 := hok1.r
      have hzl := hr1.sz
      obtain ⟨z, hz⟩ : ∃ z, sz (s, l1) = z := ⟨_, rfl⟩
      rw [hz] at hst hzl
      have hsum := R.sum
      have hzh : z ≤ hi := by omega
      have hil : hi ≤ 500 * 300000 := by
        have := Nat.le_trans (held_le fun x hx => (h.sm.ok x hx).r) (Nat.mul_le_mul_right _ hfew)
        omega
      have hs2 : hi - z + held ((trace L t).take (k + 1)) = held L := by omega
      have HM := Lib.hid hm
      have HZ := Lib.hid hz
      have HS2 := Lib.hid hs2
      have y2 : (0 : Int) ≤ (k : Int) := by omega
      have y3 : ((k : Int)).toNat = k := by omega
      clear F hL hx hst hok1 hle TE hm hz hsum hs2 hkl hkt
      go_wp2_with fail
      obtain ⟨W4, hW4⟩ : ∃ W4, wr.alloc (.cells (spc s (.slice A1 m c1)) 45) = W4 := ⟨_, rfl⟩
      obtain ⟨g, hgw⟩ : ∃ g, wr.heap.size = g := ⟨_, rfl⟩
      have bxr : Below wr.heap.size wr W4 := by rw [← hW4]; exact (Below.refl _ _).alloc (Nat.le_refl _) _
      have bk4 : Bk W4 g 45 (spc s (.slice A1 m c1)) := by rw [← hW4, ← hgw]; exact Bk.new _ _ _
      rw [hW4, hgw]
      have R4 := ((R.rx.below bxr).below (drew_below _))
      have hd4 := (hd1.below bxr).below (drew_below _)
      have O4 := (R.out.below bxr).below (drew_below _)
      have F4 := R.fs.trans ((Fs.below (col := col) bxr).trans (Fs.below (drew_below W4)))
      have c4 : W4.drew.cell? ⟨p.r, 4, none⟩ = some (.int .i64 (hi : Int)) := R4.cl.c4
      have TW : W4.drew.cell? ⟨p.r, 4, none⟩ = some (.int .i64 (hi : Int)) ∧ Bk W4.drew g 45 (spc s (.slice A1 m c1)) := ⟨c4, bk4.below (drew_below _)⟩
      have kw : IntKind.i64.wrap ((hi : Int) - (z : Int)) = (hi : Int) - (z : Int) := by rw [IntKind.wrap_i64]; omega
      have HO4 := Lib.hid O4
      have HF4 := Lib.hid F4
      clear R hd1 bk4 bxr hW4 hgw e0 e1 e2 e3 e4 e5 e6 e7 e8 e9 O4 F4 c4 hpp
      refine wp_zed (S := fun w' => w'.cell? ⟨p.r, 4, none⟩ = some (.int .i64 (hi : Int)) ∧ Bk w' g 45 (spc s (.slice A1 m c1))) (z := 11) mixed ?_
      refine Zed.take (i := 0) (v := .pointer (some ⟨p.r, 0, none⟩)) rfl (by kernel_rfl) rfl (by kernel_rfl) (by kernel_rfl) (by kernel_rfl) (fun _ _ _ h => h) ?_ TW ?_
      · refine .inl ⟨rfl, fun W hW => ?_⟩
        obtain ⟨q1, q2⟩ := hW
        go_simp
      (try simp only [Act.put, List.setIfInBounds_toArray, List.set_cons_zero, List.set_cons_succ])
      refine Zed.take (i := 1) (v := .pointer (some ⟨p.r, 0, none⟩)) rfl (by kernel_rfl) rfl (by kernel_rfl) (by kernel_rfl) (by kernel_rfl) (fun _ _ _ h => h) ?_ TW ?_
      · refine .inl ⟨rfl, fun W hW => ?_⟩
        obtain ⟨q1, q2⟩ := hW
        go_simp
      (try simp only [Act.put, List.setIfInBounds_toArray, List.set_cons_zero, List.set_cons_succ])
      refine Zed.take (i := 2) (v := .pointer (some ⟨p.r, 3, none⟩)) rfl (by kernel_rfl) rfl (by kernel_rfl) (by kernel_rfl) (by kernel_rfl) (fun _ _ _ h => h) ?_ TW ?_
      · refine .inl ⟨rfl, fun W hW => ?_⟩
        obtain ⟨q1, q2⟩ := hW
        go_simp
      (try simp only [Act.put, List.setIfInBounds_toArray, List.set_cons_zero, List.set_cons_succ])
      refine Zed.take (i := 3) (v := .pointer (some ⟨p.r, 4, none⟩)) rfl (by kernel_rfl) rfl (by kernel_rfl) (by kernel_rfl) (by kernel_rfl) (fun _ _ _ h => h) ?_ TW ?_
      · refine .inl ⟨rfl, fun W hW => ?_⟩
        obtain ⟨q1, q2⟩ := hW
        go_simp
      (try simp only [Act.put, List.setIfInBounds_toArray, List.set_cons_zero, List.set_cons_succ])
      refine Zed.take (i := 4) (v := .int .i64 (hi : Int)) rfl (by kernel_rfl) rfl (by kernel_rfl) (by kernel_rfl) (by kernel_rfl) (fun _ _ _ h => h) ?_ TW ?_
      · refine .inl ⟨rfl, fun W hW => ?_⟩
        obtain ⟨q1, q2⟩ := hW
        go_simp
      (try simp only [Act.put, List.setIfInBounds_toArray, List.set_cons_zero, List.set_cons_succ])
      refine Zed.take (i := 5) (v := .agg #[.int .u64 s.T, .int .u64 s.I, .int .u64 s.P, .string s.sv, .string s.nm, .int .i64 s.kd, .int .i64 s.st, .int .u64 s.t0, .int .u64 s.t1, .slice A1 m c1]) rfl (by kernel_rfl) rfl (by kernel_rfl) (by kernel_rfl) (by kernel_rfl) (fun _ _ _ h => h) ?_ TW ?_
      · refine .inl ⟨rfl, fun W hW => ?_⟩
        obtain ⟨q1, q2⟩ := hW
        obtain ⟨x0, x1, x2, x3, x4, x5, x6, x7, x8, x9⟩ := ten_cells q2
        go_simp
      (try simp only [Act.put, List.setIfInBounds_toArray, List.set_cons_zero, List.set_cons_succ])
      refine Zed.step (i := 6) (by kernel_rfl) rfl rfl (fun K hK => ?_)
      go_simp
      refine (size_any s A1 c1 m z l1 _ (hd4.ats) HM.out hr1 HZ.out).mono ?_
      rintro e v2 ⟨rfl, B4⟩
      have q1 := (B4.cell (World.block_lt_of_cell? _ _ TW.1)).trans TW.1
      have q2 := TW.2.below B4
      refine hK _ _ ⟨.inr ⟨q1, q2⟩, ?_⟩
      clear hK K TW
      have TW := And.intro q1 q2
      clear q1 q2
      (try simp only [Act.put, List.setIfInBounds_toArray, List.set_cons_zero, List.set_cons_succ])
      refine Zed.take (i := 7) (v := .int .i64 ((hi : Int) - (z : Int))) rfl (by kernel_rfl) rfl (by kernel_rfl) (by kernel_rfl) (by kernel_rfl) (fun _ _ _ h => h) ?_ TW ?_
      · refine .inl ⟨rfl, fun W hW => ?_⟩
        obtain ⟨q1, q2⟩ := hW
        go_simp
      (try simp only [Act.put, List.setIfInBounds_toArray, List.set_cons_zero, List.set_cons_succ])
      refine Zed.step (i := 8) (by kernel_rfl) rfl rfl (fun K hK => ?_)
      go_simp
      refine hK _ _ ⟨.inr TW, ?_⟩
      clear hK K
      (try simp only [Act.put, List.setIfInBounds_toArray, List.set_cons_zero, List.set_cons_succ])
      refine Zed.step (i := 9) (by kernel_rfl) rfl rfl (fun K hK => ?_)
      go_simp
      refine hK _ _ ⟨.inr TW, ?_⟩
      clear hK K
      (try simp only [Act.put, List.setIfInBounds_toArray, List.set_cons_zero, List.set_cons_succ])
      refine Zed.step (i := 10) (by kernel_rfl) rfl rfl (fun K hK => ?_)
      go_simp
      refine hK _ _ ⟨.inr TW, ?_⟩
      clear hK K
      (try simp only [Act.put, List.setIfInBounds_toArray, List.set_cons_zero, List.set_cons_succ])
      have f4 : v2.frozen? ⟨p.r, 4, none⟩ = false := by have := (R4.below B4).cl.f 4; exact this
      refine Zed.step (i := 11) (by kernel_rfl) rfl rfl (fun K hK => ?_)
      go_simp
      refine hK _ _ ⟨.inl rfl, Zed.done (by kernel_rfl) ?_ _⟩
      clear hK K
      (try simp only [Act.put, List.setIfInBounds_toArray, List.set_cons_zero, List.set_cons_succ])
      obtain ⟨R6, F6⟩ := (R4.below B4).set4 (hi - z)
      have e6 : ((hi - z : Nat) : Int) = (hi : Int) - (z : Int) := by omega
      dsimp only at R6 F6
      rw [e6] at R6 F6
      have T2 : Tl w col p L (trace L t) (some ad) c zs (k + 1) (hi - z) (v2.setCell ⟨p.r, 4, none⟩ (.int .i64 ((hi : Int) - (z : Int)))) := ⟨HS2.out, R6, HF4.out.trans ((Fs.below B4).trans F6), (HO4.out.below B4).fs F6⟩
      clear R4 hd4 B4 R6 F6 TW f4 kw HO4 HF4
      go_wp2
      go_roundw
      case rel => exact ⟨k + 1, hi - z, by go_num, by omega, T2⟩
      case measure => first | go_num | (simp [intOf]; omega)
    · have hltz : ¬ ((k : Int) < (n : Int)) := by omega
      have hkn : k = n := by omega
      subst hkn
      have hpl := part_len L t
      have hph := part_held L t
      have hsum := R.sum
      rw [List.take_of_length_le (by rw [HN2.out]; exact Nat.le_refl _)] at hsum
      have hhi : hi = held (rest L t) := by omega
      obtain ⟨r, hr⟩ : ∃ r, (rest L t).length = r := ⟨_, rfl⟩
      rw [hr, HN2.out] at hpl
      have hpn : p.n = L.length := h.n
      have c3 := R.rx.cl.c3
      dsimp only at c3
      obtain ⟨R7, F7⟩ := R.rx.set3 r
      have e7 : (r : Int) = (p.n : Int) - (k : Int) := by omega
      have k7 : IntKind.i64.wrap ((p.n : Int) - (k : Int)) = (p.n : Int) - (k : Int) := by rw [IntKind.wrap_i64]; omega
      dsimp only at R7 F7
      rw [e7] at R7 F7
      have f3 := R.rx.cl.f 3
      have c5 := R7.cl.c5
      obtain ⟨w8, hdel, R8, F8⟩ := R7.delt hT 0
      have c7 := R8.cl.c7
      obtain ⟨w9, hdel2, R9, F9⟩ := R8.dele hT 0
      have c6 := R9.cl.c6
      dsimp only at hdel hdel2 c5 c6 c7 f3
      obtain ⟨o, hQ, ho⟩ := R9.dl
      have hdq : p.dq = dqs p.G L := h.sm.dq
      have hin : isin p.dq t = true := by
        rw [isin_true, hdq]
        exact ⟨_, mem_dqs.2 ⟨t, ht, rfl⟩, rfl⟩
      have hdrop := drop_in t hQ hT hin
      dsimp only at hdrop
      have FA := R.fs.trans (F7.trans (F8.trans F9))
      have OA := R.out.fs (F7.trans (F8.trans F9))
      have HX := Lib.hid (And.intro R9 (And.intro hQ (And.intro ho (And.intro FA OA))))
      have HR := Lib.hid hr
      have HHI := Lib.hid hhi
      clear R R7 R8 R9 F7 F8 F9 hQ ho FA OA hsum hhi hph hr hdq hin hpn hpl hltz
      go_wp2_with fail
      refine hdrop.mono ?_
      rintro e w10 ⟨rfl, o', hQ', fr, sub⟩
      obtain ⟨R9, hQ, ho, FA, OA⟩ := HX.out
      obtain ⟨R10, F10⟩ := R9.dqs hQ ho hQ' fr sub
      have FB := FA.trans F10
      have HFin := Lib.hid (show TkOut w col p L t (.returned (.slice A k c)) w10 from
        ⟨A, c, zs, _, _, by rw [HN2.out], HTR.out, OA.fs F10, ⟨R10, ((h.sm.fs FB).take ht).nums _ _, HR.out.symm, HHI.out⟩, FB, ⟨rfl, rfl, rfl, rfl⟩, rfl, HVS.out⟩)
      clear R9 hQ ho FA OA R10 F10 FB hQ' fr sub HX
      go_wp2
      go_returns
      exact HFin.out
end
end Go.Proofs.YtdmibolbpgondaaGreat.X15
end
