/-
  The walk of StrtabSame: numbers stay.
-/
import Derived.Test.YtfnjpancoemihaaS05Side
import Derived.Deep.QuietTactic
import Derived.BigQuiet
namespace Go.Proofs.Ytfnjpancoemihaa.S05
open Go.RowKit Go.Lib Go.Maps Go.Proofs.Ytfnjpancoemihaa.Wd Go.Proofs.Ytfnjpancoemihaa.V01

theorem int_info : (Try.prog.info? 3).map (fun i => (i.zero, i.size, i.bytes)) = some (some (.int .i64 0), 1, 8) := by kernel_rfl
/-- numbers, as cells -/
def ic (l : List Nat) : List Value := l.map fun (q : Nat) => Value.int .i64 (q : Int)
theorem ic_app (a b : List Nat) : ic (a ++ b) = ic a ++ ic b := by simp [ic]
theorem ic_at (l : List Nat) (k : Nat) (u : Value) (h : (ic l)[k]? = some u) : ∃ hk : k < l.length, u = .int .i64 (l[k] : Int) := by
  simp only [ic, List.getElem?_map, Option.map_eq_some_iff] at h
  obtain ⟨x, h1, h2⟩ := h
  obtain ⟨hk, he⟩ := List.getElem?_eq_some_iff.1 h1
  exact ⟨hk, by rw [← h2, he]⟩
/-- each of the first texts stands in M at its number -/
def Nums (l : List ByteArray) (qs : List Nat) (M : List ByteArray) : Prop := qs.length ≤ l.length ∧ ∀ j (h : j < qs.length) (h2 : j < l.length), M[qs[j]]? = some l[j]
theorem nums_nil (l M : List ByteArray) : Nums l [] M := ⟨by simp, fun j h => by simp at h⟩
theorem nums_step {l M M' : List ByteArray} {qs : List Nat} {s : ByteArray} {q : Nat} (h : Nums l qs M) (hk : qs.length < l.length) (hs : l[qs.length] = s) (hw : with_ M s M') (hq : M'[q]? = some s) : Nums l (qs ++ [q]) M' := by
  refine ⟨by simp; omega, fun j hj h2 => ?_⟩
  by_cases e : j < qs.length
  · rw [List.getElem_append_left e]
    have h1 := h.2 j e h2
    rcases hw with ⟨_, rfl⟩ | ⟨_, rfl⟩
    · exact h1
    · rw [List.getElem?_append_left (by have := (List.getElem?_eq_some_iff.1 h1).1; exact this)]
      exact h1
  · have : j = qs.length := by simp at hj; omega
    subst this
    rw [List.getElem_append_right (Nat.le_refl _)]
    simp only [Nat.sub_self, List.getElem_cons_zero, hs]
    exact hq
theorem nums_eq {M : List ByteArray} (hn : M.Nodup) {a b : Nat} {x y : ByteArray} (ha : M[a]? = some x) (hb : M[b]? = some y) : a = b ↔ x = y := by
  obtain ⟨h1, rfl⟩ := List.getElem?_eq_some_iff.1 ha
  obtain ⟨h2, rfl⟩ := List.getElem?_eq_some_iff.1 hb
  exact ⟨fun e => by subst e; rfl, fun e => nd_inj hn h1 h2 e⟩
theorem nums_ix {M : List ByteArray} (hn : M.Nodup) {a : Nat} {x : ByteArray} (ha : M[a]? = some x) : x ∈ M ∧ ix M x = a ∧ a < M.length := by
  obtain ⟨h1, rfl⟩ := List.getElem?_eq_some_iff.1 ha
  exact ⟨List.getElem_mem h1, ix_of hn h1, h1⟩
theorem not_take {M : List ByteArray} (hn : M.Nodup) {k : Nat} (hk : k < M.length) : M[k] ∉ M.take k := fun hm => by
  obtain ⟨i, hi, he⟩ := List.getElem_of_mem hm
  rw [List.length_take] at hi
  rw [List.getElem_take] at he
  have := nd_inj hn (i := i) (by omega) hk he
  omega

/-- the texts, their numbers and the table, in a world that only grew -/
structure St (w wr : World) (p : Nat) (M : List ByteArray) (o : List Nat) (A : Option Addr) (k c : Nat) (l : List ByteArray) (A2 : Option Addr) (c2 : Nat) (qs : List Nat) : Prop where
  below : Below w.heap.size w wr
  tab : Tab wr p M o
  rd : Rd 1 wr A2 k c2 (ic qs)
  ss : Ss wr A c l
  len : l.length = k
  qlen : qs.length = k
  nums : Nums l qs M
theorem St.drewN {w wr : World} {p : Nat} {M : List ByteArray} {o : List Nat} {A : Option Addr} {k c : Nat} {l : List ByteArray} {A2 : Option Addr} {c2 : Nat} {qs : List Nat} (h : St w wr p M o A k c l A2 c2 qs) (n : Nat) : St w (wr.drewN n) p M o A k c l A2 c2 qs :=
  ⟨below_dn h.below n, h.tab.below (below_dn (Below.refl _ _) n), Rd.drewN h.rd n, h.ss.below (below_dn (Below.refl _ _) n), h.len, h.qlen, h.nums⟩
theorem St.get {w wr : World} {p : Nat} {M : List ByteArray} {o : List Nat} {A : Option Addr} {k c : Nat} {l : List ByteArray} {A2 : Option Addr} {c2 : Nat} {qs : List Nat} (h : St w wr p M o A k c l A2 c2 qs) (i : Nat) (hi : i < k) :
    ∃ (ad aq : Addr) (x : ByteArray) (y : Nat), A = some ad ∧ A2 = some aq ∧ wr.cell? (ad.add i) = some (.string x) ∧ wr.cell? (aq.add i) = some (.int .i64 (y : Int)) ∧ M[y]? = some x := by
  have h1 : i < l.length := by rw [h.len]; exact hi
  have h2 : i < qs.length := by rw [h.qlen]; exact hi
  obtain ⟨ad, e1, e2⟩ := h.ss.get h1
  obtain ⟨aq, uq, e3, e4, e5⟩ := h.rd.get hi
  obtain ⟨_, rfl⟩ := ic_at qs i uq e4
  exact ⟨ad, aq, l[i], qs[i], e1, e3, e2, e5, h.nums.2 i h2 h1⟩
/-- two tables, apart -/
structure Two (w wr : World) (p : Nat) (M : List ByteArray) (o : List Nat) (p2 : Nat) (M2 : List ByteArray) : Prop where
  below : Below w.heap.size w wr
  tab : Tab wr p M o
  two : ∃ o2, Tab wr p2 M2 o2 ∧ (∀ x ∈ o, x ∉ o2) ∧ ∀ y ∈ o2, w.heap.size ≤ y
theorem Two.put {w wr w4 : World} {p : Nat} {M : List ByteArray} {o o2 o3 : List Nat} {p2 : Nat} {M2 M3 : List ByteArray} (h : Two w wr p M o p2 M2) (hd : ∀ x ∈ o, x ∉ o2) (hn : ∀ y ∈ o2, w.heap.size ≤ y) (t : Tab w4 p2 M3 o3) (f : Fr o2 wr w4) (s : Sub wr o3 o2) : Two w w4 p M o p2 M3 :=
  ⟨h.below.trans (f.below h.below.size hn), h.tab.fr f hd, o3, t, fun x hx hm => by
    rcases s x hm with h1 | h1
    · exact hd x hx h1
    · have := h.tab.lt x hx; omega, s.above h.below.size hn⟩

set_option maxRecDepth 20000 in
set_option maxHeartbeats 8000000 in
theorem same_law (A : Option Addr) (c : Nat) (l : List ByteArray) (w : World) (hS : Ss w A c l) (hz : ∀ s ∈ l, s.size ≤ maxLen) :
    Calls Try.prog 6 #[.slice A l.length c] w fun e w' => e = .returned (.bool true) ∧ Below w.heap.size w w' := by
  obtain ⟨i0, hi, hz0, hz1, hz2⟩ := info_parts int_info
  have hmax := hS.max
  have hcap := hS.cap
  unfold maxLen at hmax hz
  obtain ⟨len, hlen⟩ : ∃ n, l.length = n := ⟨_, rfl⟩
  rw [hlen] at hcap ⊢
  have HL := Lib.hid hlen
  clear hlen
  go_enter Try.func6, Try.ntmps6
  go_wp2_with fail
  refine (alive_any _).mono ?_
  rintro e w1 ⟨rfl, hb1⟩
  by_cases hl : (60 : Int) < len
  · go_wp2
    go_ret
    exact ⟨rfl, hb1⟩
  go_wp2_with fail
  refine (new_any w1).mono ?_
  rintro e w2 ⟨rfl, hT2, hb2⟩
  have N0 : Nw w w2 w1.heap.size [] [w1.heap.size] := ⟨hT2, by simpa using hb1.size, hb1.trans (hb2.mono hb1.size)⟩
  obtain ⟨p, hp⟩ : ∃ p, w1.heap.size = p := ⟨_, rfl⟩
  rw [hp] at N0 ⊢
  clear hb1 hb2 hp hT2
  go_wp2_with fail
  go_loopw [4, 5] (fun v i wr => ∃ (k : Nat) (M : List ByteArray) (o : List Nat) (qs : List Nat) (A' : Option Addr) (c' : Nat), v = .slice A' k c' ∧ i = .int .i64 (k : Nat) ∧ k ≤ len ∧ M.length ≤ k ∧ qs.length = k ∧ Nums l qs M ∧ Nw w wr p M o ∧ Sd w wr 3 o A' k c' (ic qs)) (fun _ i _ => len - (RowKit.intOf i).toNat)
  case atStart => exact ⟨0, [], _, [], none, 0, rfl, rfl, by omega, by simp, rfl, nums_nil _ _, N0, ⟨World.ownsRow_nil _ _ _ _, fun a e => (by cases e)⟩⟩
  case round =>
    obtain ⟨k, M, o, qs, A2, c2, rfl, rfl, hk, hMk, hqk, hN, I, D⟩ := hrel
    have hb := I.below
    clear N0
    by_cases hkl : k < len
    · have hkL : k < l.length := by rw [HL.out]; exact hkl
      obtain ⟨ad, rfl, hc⟩ := hS.get hkL
      have hzk := hz _ (List.getElem_mem hkL)
      have hblk := World.block_lt_of_cell? _ _ hc
      obtain ⟨s, hs⟩ : ∃ s, l[k] = s := ⟨_, rfl⟩
      rw [hs] at hc hzk
      have hcr := (hb.cell hblk).trans hc
      have hstep := fun q M' => nums_step (q := q) (M' := M') hN (by rw [hqk]; exact hkL) (by simp only [hqk]; exact hs)
      have HK := Lib.hid hqk
      clear hs hS hz hqk hN
      by_cases h5 : 4096 < s.size
      · have h5i : (4096 : Int) < s.size := by omega
        clear I D hstep
        go_wp2
        go_ret
        exact ⟨rfl, hb⟩
      · have hput := put_nw w wr p M o s I (by omega) (by omega)
        clear I
        go_wp2_with fail
        refine hput.mono ?_
        rintro e w3 ⟨q, M', o', rfl, I, hw, hq, f3, s3⟩
        have hl' := with_len hw
        have D3 := D.put f3 s3
        have hql : q < M'.length := (List.getElem?_eq_some_iff.1 hq).1
        have HN := Lib.hid (hstep q M' hw hq)
        have hr3 := D3.row
        have h3s := I.below.size
        clear hput hw hq f3 s3 D hstep
        go_wp2_with (at_builtin; refine wpList_append_one_at w3 rfl (.tmp 49) (.tmp 51) 46 rfl w.heap.size 3 i0 _ 8 Try.underlying46 hi hz0 hz1 hz2 rfl (.slice A2 k c2) k (ic qs) rfl hr3 (.int .i64 q) _ rfl rfl rfl ?d1 ?d2 ?d3 ?_)
        case d1 => unfold maxLen; omega
        case d2 => omega
        case d3 => exact h3s
        intro A' c' w4 hrow4 hg4 hat4
        obtain ⟨I4, D4⟩ := Sd.app (ys := ic (qs ++ [q])) I D3 (by rw [ic_app]; exact hrow4) hg4 (by simpa using hat4)
        have HI := Lib.hid I4
        have HD := Lib.hid D4
        clear I4 D4 hrow4 hg4 hat4 hr3 D3 I h3s
        go_wp2
        go_roundw
        case rel => exact ⟨k + 1, M', o', qs ++ [q], A', c', rfl, by go_num, by omega, by omega, by simp [HK.out], HN.out, HI.out, HD.out⟩
        case measure => simp [RowKit.intOf]; omega
    · have hkn : k = len := by omega
      subst hkn
      have hst : St w wr p M o A k c l A2 c2 qs := ⟨hb, I.tab, Rd.own D.row, hS.below hb, HL.out, hqk, hN⟩
      have hRc := hst.rd.cap
      have hRm := hst.rd.max
      unfold maxLen at hRm
      have HO := Lib.hid hS
      clear hz I D hS hN hqk
      go_wp2_with fail
      go_loopw [8] (fun i wr => ∃ j : Nat, i = .int .i64 (j : Nat) ∧ j ≤ k ∧ St w wr p M o A k c l A2 c2 qs) (fun i _ => k - (RowKit.intOf i).toNat)
      case atStart => exact ⟨0, rfl, by omega, hst⟩
      case round =>
        clear hst hb
        obtain ⟨j, rfl, hj, hst⟩ := hrel
        by_cases hjk : j < k
        · obtain ⟨ad, aq, s, q, rfl, rfl, hc, hcq, hM⟩ := hst.get j hjk
          obtain ⟨hmem, hix, hqm⟩ := nums_ix hst.tab.nodup hM
          have hput := put_there wr p M o s q hst.tab hmem hix
          have hat := at_in wr p M o q s hst.tab hM
          have hss := eq_tl (rfl : s = s)
          have HM := Lib.hid hM
          clear hmem hix hM
          go_wp2_with fail
          refine hput.mono ?_
          rintro e w3 ⟨rfl, rfl⟩
          go_wp2_with fail
          refine hat.mono ?_
          rintro e w3 ⟨rfl, rfl⟩
          clear hput hat
          go_wp2_with fail
          go_loopw [13] (fun i wr => ∃ m : Nat, i = .int .i64 (m : Nat) ∧ m ≤ j ∧ St w wr p M o (some ad) k c l (some aq) c2 qs ∧ wr.cell? (ad.add j) = some (.string s) ∧ wr.cell? (aq.add j) = some (.int .i64 (q : Int))) (fun i _ => j - (RowKit.intOf i).toNat)
          case atStart => exact ⟨0, rfl, by omega, hst, hc, hcq⟩
          case round =>
            clear hst hc hcq
            obtain ⟨m, rfl, hm, hst, hc, hcq⟩ := hrel
            by_cases hmj : m < j
            · obtain ⟨ad', aq', x, y, e1, e2, hcx, hcy, hMx⟩ := hst.get m (by omega)
              cases e1
              cases e2
              have hxy := nums_eq hst.tab.nodup HM.out hMx
              have g1 : (m : Int) < k := by omega
              have g2 : (0 : Int) ≤ m := by omega
              have g3 : (j : Int) < k := by omega
              have g4 : (0 : Int) ≤ j := by omega
              have HS := Lib.hid hst
              clear hst hMx
              by_cases hx : s = x
              · have hy : q = y := hxy.2 hx
                subst hx
                subst hy
                clear hxy
                go_wp2_with (go_quiet (fail))
                go_roundw
                case rel => exact ⟨m + 1, by go_num, by omega, HS.out.drewN _, hc, hcq⟩
                case measure => simp [RowKit.intOf]; omega
              · have hy : ¬ q = y := fun e => hx (hxy.1 e)
                have hb2 := ne_tl hx
                have hyi : ¬ ((q : Int) = y) := by omega
                have hyd : decide ((q : Int) = y) = false := by simp [hyi]
                clear hxy hy
                go_wp2_with (go_quiet (fail))
                go_roundw
                case rel => exact ⟨m + 1, by go_num, by omega, HS.out.drewN _, hc, hcq⟩
                case measure => simp [RowKit.intOf]; omega
            · go_wp2
              go_roundw
              case rel => exact ⟨j + 1, by go_num, by omega, hst⟩
              case measure => simp [RowKit.intOf]; omega
        · have hT := hst.tab
          have hb := hst.below
          have hnd := hT.nodup
          have hsz := hT.size
          obtain ⟨n, hn⟩ : ∃ n, M.length = n := ⟨_, rfl⟩
          have HN := Lib.hid hn
          rw [hn] at hMk
          clear hst HO hn
          go_wp2_with fail
          refine (new_any wr).mono ?_
          rintro e w3 ⟨rfl, hT3, hb3⟩
          have N3 : Two w w3 p M o wr.heap.size [] := ⟨hb.trans (hb3.mono hb.size), hT.below hb3, [wr.heap.size], hT3, fun x hx hm => by have := hT.lt x hx; simp at hm; omega, by simpa using hb.size⟩
          obtain ⟨p2, hp2⟩ : ∃ p2, wr.heap.size = p2 := ⟨_, rfl⟩
          rw [hp2] at N3 ⊢
          clear hT3 hb3 hp2 hT hb
          go_wp2_with fail
          go_loopw [15] (fun i wr => ∃ j : Nat, i = .int .i64 (j : Nat) ∧ j ≤ n ∧ Two w wr p M o p2 (M.take j)) (fun i _ => n - (RowKit.intOf i).toNat)
          case atStart => exact ⟨0, rfl, by omega, by simpa using N3⟩
          case round =>
            clear N3
            obtain ⟨i, rfl, hi, T⟩ := hrel
            have hlen1 := len_any wr p M o n T.tab HN.out
            by_cases hin : i < n
            · have hiM : i < M.length := by rw [HN.out]; exact hin
              have hat := at_in wr p M o i M[i] T.tab (List.getElem?_eq_getElem hiM)
              obtain ⟨o2, hT2, hd, hn2⟩ := T.two
              have hput := put_new wr p2 (M.take i) o2 M[i] i hT2 (not_take hnd hiM) (hsz _ (List.getElem_mem hiM)) (by rw [List.length_take]; omega) (by omega)
              rw [List.take_append_getElem hiM] at hput
              obtain ⟨s, hs⟩ : ∃ s, M[i] = s := ⟨_, rfl⟩
              rw [hs] at hat hput
              clear hs hT2
              go_wp2_with fail
              refine hlen1.mono ?_
              rintro e w4 ⟨rfl, rfl⟩
              go_wp2_with fail
              refine hat.mono ?_
              rintro e w4 ⟨rfl, rfl⟩
              go_wp2_with fail
              refine hput.mono ?_
              rintro e w4 ⟨rfl, o3, t3, f3, s3⟩
              have T4 : Two w w4 p M o p2 (M.take (i + 1)) := T.put hd hn2 t3 f3 s3
              have HT := Lib.hid T4
              clear T4 T hput hat hlen1 hd hn2 t3 f3 s3
              go_wp2
              go_roundw
              case rel => exact ⟨i + 1, by go_num, by omega, HT.out⟩
              case measure => simp [RowKit.intOf]; omega
            · have e1 : M.take i = M := List.take_of_length_le (by rw [HN.out]; omega)
              rw [e1] at T
              obtain ⟨o2, hT2, hd, hn2⟩ := T.two
              have hby := bytes_tab wr p2 M o2 _ hT2 rfl
              obtain ⟨r, hr⟩ : ∃ r, tb M = r := ⟨_, rfl⟩
              rw [hr] at hby
              have hT1 := T.tab
              have hb := T.below
              clear hT2 hd hn2 T e1
              go_wp2_with fail
              refine hlen1.mono ?_
              rintro e w4 ⟨rfl, rfl⟩
              go_wp2_with fail
              refine hby.mono ?_
              rintro e w4 ⟨A4, c4, rfl, hown4, hb4⟩
              have hB4 := Bs.own hown4
              have hby2 := bytes_tab w4 p M o r (hT1.below hb4) hr
              have hb4' := hb.trans (hb4.mono hb.size)
              clear hby hlen1 hT1 hown4 hb4 hb
              go_wp2_with fail
              refine hby2.mono ?_
              rintro e w5 ⟨A5, c5, rfl, hown5, hb5⟩
              have hB5 := Bs.own hown5
              have hB4' := hB4.below hb5
              have hb5' := hb4'.trans (hb5.mono hb4'.size)
              clear hown5 hb5 hb4' hB4 hby2
              go_wp2_with fail
              refine (bytes_at A4 A5 c4 c5 _ _ r r true _ hB4' hB5 rfl rfl (by simp)).mono ?_
              rintro e w6 ⟨rfl, rfl⟩
              go_wp2
              go_ret
              exact ⟨rfl, hb5'⟩
end Go.Proofs.Ytfnjpancoemihaa.S05
