/-
  What the document's Read of a table does.
-/
import Derived.Test.YtndcdidepdcmnaaKS05Read
import Derived.Test.YtndcdidepdcmnaaKS05Find
import Derived.Test.YtndcdidepdcmnaaKV01RefGet
namespace Go.Proofs.Ytndcdidepdcmnaa.S05
open Go.RowKit Go.Lib Go.Maps Go.Proofs.Ytndcdidepdcmnaa.Wd Go.Proofs.Ytndcdidepdcmnaa.V01

theorem rget_at (A : Option Addr) (c len : Nat) (l : List UInt8) (n k e : Nat) (w : World) (ha : Bs w A c l) (hlen : l.length = len) (hl : len ≤ 65536) (hg : getF 0 0 (nat8 l) = (n, k, e)) :
    Calls Try.prog 37 #[.slice A len c] w fun x w' => x = .returned (.tuple #[.int .u64 n, .int .i64 k, .int .i64 e]) ∧ w = w' := by
  subst hlen
  have := refget_same A c l w ha hl
  rw [hg] at this
  exact this
/-- what the document's Read told -/
def Told2 (w w' : World) (x : Ending) (r : List ByteArray × Nat × Nat) : Prop :=
  (r.2.2 ≠ 0 ∧ x = .returned (.tuple #[.slice none 0 0, .int .i64 0, .int .i64 r.2.2])) ∨
  (r.2.2 = 0 ∧ ∃ A c, x = .returned (.tuple #[.slice A r.1.length c, .int .i64 r.2.1, .int .i64 0]) ∧ w'.ownsRow w.heap.size 9 1 (.slice A r.1.length c) r.1.length (sc r.1))

set_option maxRecDepth 20000 in
set_option maxHeartbeats 4000000 in
theorem refread_any (A : Option Addr) (c len : Nat) (l : List UInt8) (w : World) (ha : Bs w A c l) (hlen : l.length = len) (hl : len ≤ 65536) :
    Calls Try.prog 36 #[.slice A len c] w fun x w' => Told2 w w' x (readF l) ∧ Below w.heap.size w w' := by
  obtain ⟨i0, hi, hz0, hz1, hz2⟩ := info_parts text_info
  obtain ⟨n, q, e1, hg⟩ : ∃ m q e1, getF 0 0 (nat8 l) = (m, q, e1) := ⟨_, _, _, rfl⟩
  have hbd := get_bd hg
  rw [hlen] at hbd
  have hget := rget_at A c len l n q e1 w ha hlen hl hg
  by_cases he1 : e1 = 0
  · subst he1
    by_cases h1 : 4096 < n
    · rw [read_great hg h1]
      have hni : (4096 : Int) < (n : Int) := by omega
      clear hg
      go_enter Try.func36, Try.ntmps36
      go_wp2_with fail
      refine hget.mono ?_
      rintro e w1 ⟨rfl, rfl⟩
      go_wp2
      go_returns
      exact ⟨.inl ⟨by simp, rfl⟩, Below.refl _ _⟩
    · have R0 := r_start hg h1
      have hc := ha.cap
      rw [hlen] at hc
      clear hg
      go_enter Try.func36, Try.ntmps36
      go_wp2_with fail
      refine hget.mono ?_
      rintro e w1 ⟨rfl, rfl⟩
      go_wp2_with fail
      go_loopw [6, 8, 9] (fun v t i wr => ∃ (u k : Nat) (L : List ByteArray) (A' : Option Addr) (c' : Nat), v = .int .i64 (u : Nat) ∧ t = .slice A' k c' ∧ i = .int .i64 (k : Nat) ∧ RRel l n k u L ∧ wr.ownsRow w.heap.size 9 1 (.slice A' k c') k (sc L) ∧ Below w.heap.size w wr) (fun _ _ i _ => n - (RowKit.intOf i).toNat)
      case atStart => exact ⟨q, 0, [], none, 0, rfl, rfl, rfl, R0, World.ownsRow_nil _ _ _ _, Below.refl _ _⟩
      case round =>
        obtain ⟨u, k, L, A2, c2, rfl, rfl, rfl, R, hown, hb⟩ := hrel
        have hu : u ≤ len := by rw [← hlen]; exact R.2.2.1
        have hkn : k ≤ n := R.2.2.2
        have hLk := R.2.1
        have har := ha.below hb
        by_cases hk : k < n
        · obtain ⟨m, j, er, hg⟩ : ∃ m j er, getF 0 0 (nat8 (l.drop u)) = (m, j, er) := ⟨_, _, _, rfl⟩
          have hB := (har.drop u (by omega))
          have hdl : (l.drop u).length = len - u := by rw [List.length_drop, hlen]
          have hgb := get_bd hg
          rw [hdl] at hgb
          have q1 : (0 : Int) ≤ (u : Int) := by omega
          have q2 : (u : Int) ≤ (len : Int) := by omega
          have q3 : (u : Int) ≤ (c : Int) := by omega
          have hcall := rget_at _ _ _ _ m j er wr hB hdl (by omega) hg
          unfold cutA at hcall
          by_cases hcu : c = u
          · have hnil : l.drop u = [] := List.drop_eq_nil_of_le (by omega)
            have hn0 : getF 0 0 (nat8 (l.drop u)) = (0, 0, 10) := by rw [hnil]; simp [nat8, getF]
            have HR := Lib.hid (r_bad R hk (rt_err (L := L) hn0 (by omega)) (by omega))
            rw [hn0] at hg
            cases hg
            subst hcu
            rw [if_pos rfl, Nat.sub_self, show len - c = 0 by omega] at hcall
            clear R R0 hn0 hB hdl ha har hnil hown
            go_wp2_with fail
            refine hcall.mono ?_
            rintro e w2 ⟨rfl, rfl⟩
            go_wp2
            go_returns
            rw [HR.out]
            exact ⟨.inl ⟨by simp, rfl⟩, hb⟩
          · rw [if_neg hcu] at hcall
            by_cases her : er = 0
            · subst her
              by_cases h4 : 4096 < m
              · have HR := Lib.hid (r_bad R hk (rt_great (L := L) hg h4) (by omega))
                have hni : (4096 : Int) < (m : Int) := by omega
                clear R R0 hg hB hdl ha har hown
                go_wp2_with fail
                refine hcall.mono ?_
                rintro e w2 ⟨rfl, rfl⟩
                go_wp2
                go_returns
                rw [HR.out]
                exact ⟨.inl ⟨by simp, rfl⟩, hb⟩
              · by_cases h5 : (l.drop u).length < j + m
                · have HR := Lib.hid (r_bad R hk (rt_short (L := L) hg h4 h5) (by omega))
                  rw [hdl] at h5
                  have hni : (len : Int) - ((u : Int) + j) < m := by omega
                  clear R R0 hg hB hdl ha har hown
                  go_wp2_with fail
                  refine hcall.mono ?_
                  rintro e w2 ⟨rfl, rfl⟩
                  go_wp2
                  go_returns
                  rw [HR.out]
                  exact ⟨.inl ⟨by simp, rfl⟩, hb⟩
                · have hcut := cut_conv har (u + j) m (by omega)
                  have hdd : (l.drop u).drop j = l.drop (u + j) := by rw [List.drop_drop]
                  have hz : (str ((l.drop (u + j)).take m)).size ≤ 4096 := by rw [str_size, List.length_take]; omega
                  have hS : Ss wr A2 c2 L := Ss.own (by rw [hLk]; exact hown)
                  have hfind := find_any A2 c2 k L (str ((l.drop (u + j)).take m)) wr hS hLk
                  have hG := fun hi => r_bad R hk (rt_twice (L := L) hg h4 h5 hi) (by omega)
                  have hN := fun hi => r_next R hk (rt_ok (L := L) hg h4 h5 hi)
                  rw [hdd] at hG hN
                  obtain ⟨T, hT⟩ : ∃ T, str ((l.drop (u + j)).take m) = T := ⟨_, rfl⟩
                  rw [hT] at hcut hfind hz hG hN
                  rw [hdl] at h5
                  have p1 : (0 : Int) ≤ (u : Int) + j := by omega
                  have p2 : (u : Int) + j ≤ (u : Int) + j + m := by omega
                  have p3 : (u : Int) + j + m ≤ (c : Int) := by omega
                  have p4 : ¬ ((len : Int) - ((u : Int) + j) < m) := by omega
                  have HG := Lib.hid hG
                  have HN := Lib.hid hN
                  have HL := Lib.hid hLk
                  by_cases hcj : c = u + j
                  · have hm0 : m = 0 := by omega
                    subst hm0
                    have hcv := conv_zero A 0 wr
                    have hTe : ByteArray.empty = T := by rw [← hT]; rfl
                    rw [hTe] at hcv
                    clear hTe
                    subst hcj
                    rw [Nat.add_sub_cancel_left] at hcall
                    clear hcut hT R R0 hg hB hdl ha har hG hN hLk hS
                    by_cases hm : T ∈ L
                    · have hzi : (0 : Int) ≤ ix L T := by omega
                      have HX := Lib.hid hm
                      clear hm hown
                      go_wp2_with fail
                      refine hcall.mono ?_
                      rintro e w2 ⟨rfl, rfl⟩
                      go_wp2_with fail
                      refine hfind.mono ?_
                      rintro e w2 ⟨z, rfl, rfl, f1, f2⟩
                      obtain rfl := f1 HX.out
                      clear f1 f2 hfind
                      go_wp2
                      go_returns
                      rw [HG.out HX.out]
                      exact ⟨.inl ⟨by simp, rfl⟩, hb⟩
                    · have HX := Lib.hid hm
                      clear hm
                      go_wp2_with fail
                      refine hcall.mono ?_
                      rintro e w2 ⟨rfl, rfl⟩
                      go_wp2_with fail
                      refine hfind.mono ?_
                      rintro e w2 ⟨z, rfl, rfl, f1, f2⟩
                      obtain rfl := f2 HX.out
                      clear f1 f2 hfind
                      go_wp2_with (at_builtin; refine wpList_append_one wr rfl (.tmp 66) (.tmp 68) 69 rfl w.heap.size 9 i0 _ 16 Try.underlying69 hi hz0 hz1 hz2 rfl (.slice A2 k c2) k (sc L) rfl hown (.string T) rfl rfl ?d1 ?d2 ?d3 ?_)
                      case d1 => unfold maxLen; omega
                      case d2 => omega
                      case d3 => exact hb.size
                      intro A' c' w2 hown2 hb2
                      have hb3 : Below w.heap.size w w2 := hb.trans hb2
                      clear hown
                      go_wp2
                      go_roundw
                      case rel => exact ⟨u + (j + 0), k + 1, L ++ [T], A', c', by go_num, rfl, by go_num, HN.out HX.out, by rw [sc_app]; exact hown2, hb3⟩
                      case measure => simp [RowKit.intOf]; omega
                  · have hcv := hcut hcj
                    clear hcut hT R R0 hg hB hdl ha har hG hN hLk hS
                    by_cases hm : T ∈ L
                    · have hzi : (0 : Int) ≤ ix L T := by omega
                      have HX := Lib.hid hm
                      clear hm hown
                      go_wp2_with fail
                      refine hcall.mono ?_
                      rintro e w2 ⟨rfl, rfl⟩
                      go_wp2_with fail
                      refine hfind.mono ?_
                      rintro e w2 ⟨z, rfl, rfl, f1, f2⟩
                      obtain rfl := f1 HX.out
                      clear f1 f2 hfind
                      go_wp2
                      go_returns
                      rw [HG.out HX.out]
                      exact ⟨.inl ⟨by simp, rfl⟩, hb⟩
                    · have HX := Lib.hid hm
                      clear hm
                      go_wp2_with fail
                      refine hcall.mono ?_
                      rintro e w2 ⟨rfl, rfl⟩
                      go_wp2_with fail
                      refine hfind.mono ?_
                      rintro e w2 ⟨z, rfl, rfl, f1, f2⟩
                      obtain rfl := f2 HX.out
                      clear f1 f2 hfind
                      go_wp2_with (at_builtin; refine wpList_append_one wr rfl (.tmp 66) (.tmp 68) 69 rfl w.heap.size 9 i0 _ 16 Try.underlying69 hi hz0 hz1 hz2 rfl (.slice A2 k c2) k (sc L) rfl hown (.string T) rfl rfl ?d1 ?d2 ?d3 ?_)
                      case d1 => unfold maxLen; omega
                      case d2 => omega
                      case d3 => exact hb.size
                      intro A' c' w2 hown2 hb2
                      have hb3 : Below w.heap.size w w2 := hb.trans hb2
                      clear hown
                      go_wp2
                      go_roundw
                      case rel => exact ⟨u + (j + m), k + 1, L ++ [T], A', c', by go_num, rfl, by go_num, HN.out HX.out, by rw [sc_app]; exact hown2, hb3⟩
                      case measure => simp [RowKit.intOf]; omega
            · have HR := Lib.hid (r_bad R hk (rt_err (L := L) hg her) her)
              have hne : ¬ ((er : Int) = 0) := by omega
              clear R R0 hg hB hdl ha har hown
              go_wp2_with fail
              refine hcall.mono ?_
              rintro e w2 ⟨rfl, rfl⟩
              go_wp2
              go_returns
              rw [HR.out]
              exact ⟨.inl ⟨her, rfl⟩, hb⟩
        · have E := r_end R hk
          have HE := Lib.hid E
          have HL := Lib.hid hLk
          have hkn' : k = n := by omega
          clear R R0 E ha hLk
          go_wp2
          go_returns
          rw [HE.out]
          refine ⟨.inr ⟨rfl, A2, c2, ?_, by rw [HL.out]; exact hown⟩, hb⟩
          show Ending.returned (.tuple #[.slice A2 k c2, .int .i64 u, .int .i64 0]) = _
          rw [HL.out]
  · rw [read_err hg he1]
    have hne : ¬ ((e1 : Int) = 0) := by omega
    clear hg
    go_enter Try.func36, Try.ntmps36
    go_wp2_with fail
    refine hget.mono ?_
    rintro e w1 ⟨rfl, rfl⟩
    go_wp2
    go_returns
    exact ⟨.inl ⟨he1, rfl⟩, Below.refl _ _⟩
end Go.Proofs.Ytndcdidepdcmnaa.S05
