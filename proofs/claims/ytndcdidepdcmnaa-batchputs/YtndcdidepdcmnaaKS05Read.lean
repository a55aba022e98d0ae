/-
  What readText and Read of strtab do.
-/
import Derived.Test.YtndcdidepdcmnaaKS05Bytes
namespace Go.Proofs.Ytndcdidepdcmnaa.S05
open Go.RowKit Go.Lib Go.Maps Go.Proofs.Ytndcdidepdcmnaa.Wd Go.Proofs.Ytndcdidepdcmnaa.V01

/-- what the map answers of a text -/
theorem look_any {w : World} {p : Nat} {L : List ByteArray} {A : Option Addr} {c : Nat} {M : Option Nat} (h : Tb w p L A c M) (s : ByteArray) (b : Bool) (hz : s.size ≤ 4096) (hb : b = true ↔ s ∈ L) :
    ∃ q : Int, (Instr.lookup 92 (.map M) (.string s) true).run Try.prog w = .ok (.tuple #[.int .i64 q, .bool b]) w := by
  by_cases hs : s ∈ L
  · obtain rfl : b = true := hb.2 hs
    rcases h.map with ⟨_, h1⟩ | ⟨bm, D, rfl, hown, hT⟩
    · rw [h1] at hs; cases hs
    · exact ⟨_, look_there hown hT hs hz⟩
  · obtain rfl : b = false := by cases b; rfl; exact absurd (hb.1 rfl) hs
    rcases h.map with ⟨rfl, _⟩ | ⟨bm, D, rfl, hown, hT⟩
    · exact ⟨0, look_nil w s hz⟩
    · exact look_not hown hT hs hz

set_option maxRecDepth 20000 in
set_option maxHeartbeats 1000000 in
theorem rt_bad (w : World) (p : Nat) (L : List ByteArray) (o : List Nat) (A : Option Addr) (c len : Nat) (l : List UInt8) (k e : Nat) (s : ByteArray) (h : Tab w p L o) (ha : Bs w A c l) (hlen : l.length = len) (hl : len ≤ 65536)
    (hr : rtF L l = (k, e, s)) (he : e ≠ 0) :
    Calls Try.prog 61 #[.pointer (some ⟨p, 0, none⟩), .slice A len c] w fun x w' => x = .returned (.tuple #[.int .i64 0, .int .i64 e]) ∧ w = w' := by
  obtain ⟨TA, tc, M, h, rfl⟩ := h
  have c1 := h.c1
  obtain ⟨m, q, e1, hg⟩ : ∃ m q e1, getF 0 0 (nat8 l) = (m, q, e1) := ⟨_, _, _, rfl⟩
  have hbd := get_bd hg
  rw [hlen] at hbd
  have hget := V01.get_at A c len l m q e1 w ha hlen hl hg
  by_cases he1 : e1 = 0
  · subst he1
    by_cases h1 : 4096 < m
    · rw [rt_great hg h1] at hr; cases hr
      have hni : (4096 : Int) < (m : Int) := by omega
      clear h hg
      go_enter Try.func61, Try.ntmps61
      go_wp2_with fail
      refine hget.mono ?_
      rintro e w1 ⟨rfl, rfl⟩
      go_wp2
      go_ret2
      exact ⟨rfl, rfl⟩
    · by_cases h2 : l.length < q + m
      · rw [rt_short hg h1 h2] at hr; cases hr
        have hsh : (len : Int) < (q : Int) + m := by omega
        clear h hg h2
        go_enter Try.func61, Try.ntmps61
        go_wp2_with fail
        refine hget.mono ?_
        rintro e w1 ⟨rfl, rfl⟩
        go_wp2
        go_ret2
        exact ⟨rfl, rfl⟩
      · by_cases h3 : str ((l.drop q).take m) ∈ L
        · rw [rt_twice hg h1 h2 h3] at hr; cases hr
          have hcut := cut_conv ha q m (by omega)
          have hz : (str ((l.drop q).take m)).size ≤ 4096 := by rw [str_size, List.length_take]; omega
          obtain ⟨z, hk⟩ := look_any h _ true hz ⟨fun _ => h3, fun _ => rfl⟩
          obtain ⟨T, hT⟩ : ∃ T, str ((l.drop q).take m) = T := ⟨_, rfl⟩
          have hc := ha.cap
          rw [hlen] at h2 hc
          rw [hT] at hcut hk
          have p1 : (0 : Int) ≤ (q : Int) := by omega
          have p2 : (q : Int) ≤ (q : Int) + m := by omega
          have p3 : (q : Int) + m ≤ (c : Int) := by omega
          by_cases hck : c = q
          · have hn0 : m = 0 := by omega
            subst hn0
            have hcv := conv_zero A (c - q) w
            have hcv' := conv_zero A 0 w
            have hTe : T = ByteArray.empty := by rw [← hT]; rfl
            subst hTe
            subst hck
            clear hT h hg hcut ha h3
            go_enter Try.func61, Try.ntmps61
            go_wp2_with fail
            refine hget.mono ?_
            rintro e w1 ⟨rfl, rfl⟩
            go_wp2
            go_ret2
            exact ⟨rfl, rfl⟩
          · have hcv := hcut hck
            clear hT h hg hcut ha h3
            go_enter Try.func61, Try.ntmps61
            go_wp2_with fail
            refine hget.mono ?_
            rintro e w1 ⟨rfl, rfl⟩
            go_wp2
            go_ret2
            exact ⟨rfl, rfl⟩
        · rw [rt_ok hg h1 h2 h3] at hr; cases hr; exact absurd rfl he
  · rw [rt_err hg he1] at hr; cases hr
    have hne : ¬ ((e : Int) = 0) := by omega
    clear h hg
    go_enter Try.func61, Try.ntmps61
    go_wp2_with fail
    refine hget.mono ?_
    rintro e w1 ⟨rfl, rfl⟩
    go_wp2
    go_ret2
    exact ⟨rfl, rfl⟩

set_option maxRecDepth 20000 in
set_option maxHeartbeats 1000000 in
theorem rt_good (w : World) (p : Nat) (L : List ByteArray) (o : List Nat) (A : Option Addr) (c len : Nat) (l : List UInt8) (k : Nat) (s : ByteArray) (h0 : Tab w p L o) (ha : Bs w A c l) (hlen : l.length = len) (hl : len ≤ 65536) (hf : L.length + 1 ≤ 4096)
    (hr : rtF L l = (k, 0, s)) :
    Calls Try.prog 61 #[.pointer (some ⟨p, 0, none⟩), .slice A len c] w fun x w' => x = .returned (.tuple #[.int .i64 k, .int .i64 0]) ∧
      ∃ o', Tab w' p (L ++ [s]) o' ∧ Fr o w w' ∧ Sub w o' o := by
  have h := h0
  obtain ⟨TA, tc, M, h, rfl⟩ := h
  have c1 := h.c1
  obtain ⟨m, q, e1, hg⟩ : ∃ m q e1, getF 0 0 (nat8 l) = (m, q, e1) := ⟨_, _, _, rfl⟩
  have hbd := get_bd hg
  rw [hlen] at hbd
  have hget := V01.get_at A c len l m q e1 w ha hlen hl hg
  obtain ⟨rfl, h1, h2, h3, rfl, rfl⟩ : e1 = 0 ∧ ¬ 4096 < m ∧ ¬ l.length < q + m ∧ str ((l.drop q).take m) ∉ L ∧ k = q + m ∧ s = str ((l.drop q).take m) := by
    by_cases he1 : e1 = 0
    · subst he1
      by_cases h1 : 4096 < m
      · rw [rt_great hg h1] at hr; cases hr
      · by_cases h2 : l.length < q + m
        · rw [rt_short hg h1 h2] at hr; cases hr
        · by_cases h3 : str ((l.drop q).take m) ∈ L
          · rw [rt_twice hg h1 h2 h3] at hr; cases hr
          · rw [rt_ok hg h1 h2 h3] at hr; cases hr
            exact ⟨rfl, h1, h2, h3, rfl, rfl⟩
    · rw [rt_err hg he1] at hr; cases hr; exact absurd rfl he1
  have hcut := cut_conv ha q m (by omega)
  have hz : (str ((l.drop q).take m)).size ≤ 4096 := by rw [str_size, List.length_take]; omega
  obtain ⟨z, hk⟩ := look_any h _ false hz ⟨fun e => (by cases e), fun e => absurd e h3⟩
  have hadd := add_any w p L _ (str ((l.drop q).take m)) L.length h0 h3 hz rfl (by omega)
  obtain ⟨T, hT⟩ : ∃ T, str ((l.drop q).take m) = T := ⟨_, rfl⟩
  have hc := ha.cap
  rw [hlen] at h2 hc
  rw [hT] at hcut hk hadd ⊢
  have p1 : (0 : Int) ≤ (q : Int) := by omega
  have p2 : (q : Int) ≤ (q : Int) + m := by omega
  have p3 : (q : Int) + m ≤ (c : Int) := by omega
  by_cases hck : c = q
  · have hn0 : m = 0 := by omega
    subst hn0
    have hcv := conv_zero A (c - q) w
    have hcv' := conv_zero A 0 w
    have hTe : T = ByteArray.empty := by rw [← hT]; rfl
    subst hTe
    subst hck
    clear hT h hg hcut ha h3 h0 hr
    go_enter Try.func61, Try.ntmps61
    go_wp2_with fail
    refine hget.mono ?_
    rintro e w1 ⟨rfl, rfl⟩
    go_wp2_with fail
    refine hadd.mono ?_
    rintro e w2 ⟨rfl, o', g1, g2, g3⟩
    go_wp2
    go_ret2
    exact ⟨by simp, o', g1, g2, g3⟩
  · have hcv := hcut hck
    clear hT h hg hcut ha h3 h0 hr
    go_enter Try.func61, Try.ntmps61
    go_wp2_with fail
    refine hget.mono ?_
    rintro e w1 ⟨rfl, rfl⟩
    go_wp2_with fail
    refine hadd.mono ?_
    rintro e w2 ⟨rfl, o', g1, g2, g3⟩
    go_wp2
    go_ret2
    exact ⟨by simp, o', g1, g2, g3⟩

/-- Read, behind i texts -/
def RRel (b : List UInt8) (n i u : Nat) (L : List ByteArray) : Prop := readF b = rdF (n - i) L b u ∧ L.length = i ∧ u ≤ b.length ∧ i ≤ n
theorem r_start {b : List UInt8} {n k : Nat} (hg : getF 0 0 (nat8 b) = (n, k, 0)) (h : ¬ 4096 < n) : RRel b n 0 k [] := by
  refine ⟨?_, rfl, (get_bd hg).1, Nat.zero_le _⟩
  unfold readF
  rw [hg]
  simp only [ne_eq, not_true_eq_false, if_false, Nat.sub_zero]
  rw [if_neg h]
theorem read_err {b : List UInt8} {n k e : Nat} (hg : getF 0 0 (nat8 b) = (n, k, e)) (h : e ≠ 0) : readF b = ([], 0, e) := by
  unfold readF
  rw [hg]
  simp [h]
theorem read_great {b : List UInt8} {n k : Nat} (hg : getF 0 0 (nat8 b) = (n, k, 0)) (h : 4096 < n) : readF b = ([], 0, 11) := by
  unfold readF
  rw [hg]
  simp [h]
theorem r_bad {b : List UInt8} {n i u : Nat} {L : List ByteArray} (h : RRel b n i u L) (hi : i < n) {k e : Nat} {s : ByteArray} (hr : rtF L (b.drop u) = (k, e, s)) (he : e ≠ 0) : readF b = ([], 0, e) := by
  obtain ⟨m, hm⟩ : ∃ m, n - i = m + 1 := ⟨n - i - 1, by omega⟩
  rw [h.1, hm, rdF, hr]
  simp [he]
theorem r_next {b : List UInt8} {n i u : Nat} {L : List ByteArray} (h : RRel b n i u L) (hi : i < n) {k : Nat} {s : ByteArray} (hr : rtF L (b.drop u) = (k, 0, s)) : RRel b n (i + 1) (u + k) (L ++ [s]) := by
  obtain ⟨m, hm⟩ : ∃ m, n - i = m + 1 := ⟨n - i - 1, by omega⟩
  have hk := (rt_bd hr).1
  rw [List.length_drop] at hk
  have hu := h.2.2.1
  refine ⟨?_, by simp [h.2.1], by omega, hi⟩
  rw [h.1, hm, rdF, hr, show n - (i + 1) = m by omega]
  simp
theorem r_end {b : List UInt8} {n i u : Nat} {L : List ByteArray} (h : RRel b n i u L) (hi : ¬ i < n) : readF b = (L, u, 0) := by
  rw [h.1, show n - i = 0 by omega, rdF]

/-- what Read told: an error, or a table whose blocks are new -/
def Told (w w' : World) (x : Ending) (r : List ByteArray × Nat × Nat) : Prop :=
  (r.2.2 ≠ 0 ∧ x = .returned (.tuple #[.pointer none, .int .i64 0, .int .i64 r.2.2])) ∨
  (r.2.2 = 0 ∧ ∃ p o, x = .returned (.tuple #[.pointer (some ⟨p, 0, none⟩), .int .i64 r.2.1, .int .i64 0]) ∧ Tab w' p r.1 o ∧ ∀ y ∈ o, w.heap.size ≤ y)

set_option maxRecDepth 20000 in
set_option maxHeartbeats 1000000 in
theorem read_any (A : Option Addr) (c len : Nat) (l : List UInt8) (w : World) (ha : Bs w A c l) (hlen : l.length = len) (hl : len ≤ 65536) :
    Calls Try.prog 49 #[.slice A len c] w fun x w' => Told w w' x (readF l) ∧ Below w.heap.size w w' := by
  obtain ⟨n, q, e1, hg⟩ : ∃ m q e1, getF 0 0 (nat8 l) = (m, q, e1) := ⟨_, _, _, rfl⟩
  have hbd := get_bd hg
  rw [hlen] at hbd
  have hget := V01.get_at A c len l n q e1 w ha hlen hl hg
  by_cases he1 : e1 = 0
  · subst he1
    by_cases h1 : 4096 < n
    · rw [read_great hg h1]
      have hni : (4096 : Int) < (n : Int) := by omega
      clear hg
      go_enter Try.func49, Try.ntmps49
      go_wp2_with fail
      refine hget.mono ?_
      rintro e w1 ⟨rfl, rfl⟩
      go_wp2
      go_returns
      exact ⟨.inl ⟨by simp, rfl⟩, Below.refl _ _⟩
    · have R0 := r_start hg h1
      have hc := ha.cap
      rw [hlen] at hc
      clear hg
      go_enter Try.func49, Try.ntmps49
      go_wp2_with fail
      refine hget.mono ?_
      rintro e w1 ⟨rfl, rfl⟩
      go_wp2_with fail
      refine (new_any _).mono ?_
      rintro e w1 ⟨rfl, hT0, hb0⟩
      go_wp2_with fail
      go_loopw [6, 24] (fun v i wr => ∃ (u k : Nat) (L : List ByteArray) (o : List Nat), v = .int .i64 (u : Nat) ∧ i = .int .u64 (k : Nat) ∧ RRel l n k u L ∧ Tab wr w.heap.size L o ∧ (∀ y ∈ o, w.heap.size ≤ y) ∧ Below w.heap.size w wr) (fun _ i _ => n - (RowKit.intOf i).toNat)
      case atStart => exact ⟨q, 0, [], _, rfl, rfl, R0, hT0, by simp, hb0⟩
      case round =>
        obtain ⟨u, k, L, o, rfl, rfl, R, hT, ho, hb⟩ := hrel
        have hu : u ≤ len := by rw [← hlen]; exact R.2.2.1
        have hkn : k ≤ n := R.2.2.2
        by_cases hk : k < n
        · obtain ⟨m, er, s, hr⟩ : ∃ m er s, rtF L (l.drop u) = (m, er, s) := ⟨_, _, _, rfl⟩
          have hB := ((ha.below hb).drop u (by omega))
          have hdl : (l.drop u).length = len - u := by rw [List.length_drop, hlen]
          have hrb := rt_bd hr
          rw [hdl] at hrb
          have q1 : (0 : Int) ≤ (u : Int) := by omega
          have q2 : (u : Int) ≤ (len : Int) := by omega
          have q3 : (u : Int) ≤ (c : Int) := by omega
          by_cases her : er = 0
          · subst her
            have hcall := rt_good wr w.heap.size L o _ _ _ _ m s hT hB hdl (by omega) (by have := R.2.1; omega) hr
            have R2 := r_next R hk hr
            have HR := Lib.hid R2
            clear R R2 hr R0 hT0 hB hdl hT ha
            unfold cutA at hcall
            by_cases hcu : c = u
            · subst hcu
              rw [if_pos rfl, Nat.sub_self, show len - c = 0 by omega] at hcall
              go_wp2_with fail
              refine hcall.mono ?_
              rintro e w2 ⟨rfl, o', g1, g2, g3⟩
              have hb2 : Below w.heap.size w w2 := hb.trans (g2.below hb.size ho)
              have ho2 := g3.above hb.size ho
              go_wp2
              go_roundw
              case rel => exact ⟨c + m, k + 1, L ++ [s], o', by go_num, by go_num, HR.out, g1, ho2, hb2⟩
              case measure => simp [RowKit.intOf]; omega
            · rw [if_neg hcu] at hcall
              go_wp2_with fail
              refine hcall.mono ?_
              rintro e w2 ⟨rfl, o', g1, g2, g3⟩
              have hb2 : Below w.heap.size w w2 := hb.trans (g2.below hb.size ho)
              have ho2 := g3.above hb.size ho
              go_wp2
              go_roundw
              case rel => exact ⟨u + m, k + 1, L ++ [s], o', by go_num, by go_num, HR.out, g1, ho2, hb2⟩
              case measure => simp [RowKit.intOf]; omega
          · have hcall := rt_bad wr w.heap.size L o _ _ _ _ m er s hT hB hdl (by omega) hr her
            have R2 := r_bad R hk hr her
            have hne : ¬ ((er : Int) = 0) := by omega
            have HR := Lib.hid R2
            clear R R2 hr R0 hT0 hB hdl hT ha
            unfold cutA at hcall
            by_cases hcu : c = u
            · subst hcu
              rw [if_pos rfl, Nat.sub_self, show len - c = 0 by omega] at hcall
              go_wp2_with fail
              refine hcall.mono ?_
              rintro e w2 ⟨rfl, rfl⟩
              go_wp2
              go_returns
              rw [HR.out]
              exact ⟨.inl ⟨her, rfl⟩, hb⟩
            · rw [if_neg hcu] at hcall
              go_wp2_with fail
              refine hcall.mono ?_
              rintro e w2 ⟨rfl, rfl⟩
              go_wp2
              go_returns
              rw [HR.out]
              exact ⟨.inl ⟨her, rfl⟩, hb⟩
        · have E := r_end R hk
          have HE := Lib.hid E
          clear R R0 E ha
          go_wp2
          go_returns
          rw [HE.out]
          exact ⟨.inr ⟨rfl, _, _, rfl, hT, ho⟩, hb⟩
  · rw [read_err hg he1]
    have hne : ¬ ((e1 : Int) = 0) := by omega
    clear hg
    go_enter Try.func49, Try.ntmps49
    go_wp2_with fail
    refine hget.mono ?_
    rintro e w1 ⟨rfl, rfl⟩
    go_wp2
    go_returns
    exact ⟨.inl ⟨he1, rfl⟩, Below.refl _ _⟩
end Go.Proofs.Ytndcdidepdcmnaa.S05
