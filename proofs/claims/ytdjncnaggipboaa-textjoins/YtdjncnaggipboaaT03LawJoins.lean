/-
  The walk of TextJoins.
-/
import Derived.Test.YtdjncnaggipboaaT03Alive
import Derived.SizedLaws
namespace Go.Proofs.Ytdjncnaggipboaa.T03
open Go.RowKit Go.Lib

theorem str_join (a b : List UInt8) : str a ++ str b = str (a ++ b) := by
  apply ByteArray.ext
  simp
theorem ba_app (a b : ByteArray) : a ++ b = str (ls a ++ ls b) := by
  rw [← str_join, str_ls, str_ls]

set_option maxRecDepth 20000 in
set_option maxHeartbeats 4000000 in
theorem joins_law (a b : ByteArray) (w : World) (ha : a.size ≤ reachBytes) (hb : b.size ≤ reachBytes) : Calls Try.prog 6 #[.string a, .string b] w fun e w' => e = .returned (.bool true) ∧ Below w.heap.size w w' := by
  have hreach := reachBytes_lt
  have ha' : a.size < 140737488355328 := by omega
  have hb' : b.size < 140737488355328 := by omega
  clear ha hb hreach
  have hw1 : IntKind.wrap .i64 ((a.size : Int) + (b.size : Int)) = (a.size : Int) + (b.size : Int) := wrap_small _ (by omega) (by omega)
  by_cases hl : (2000 : Int) < (a.size : Int) + (b.size : Int)
  · go_enter Try.func6, Try.ntmps6
    go_wp2_with fail
    refine (alive_any _).mono ?_
    rintro x w1 ⟨rfl, hb1⟩
    go_wp2
    go_ret
    exact ⟨rfl, hb1⟩
  obtain ⟨ra, hra⟩ : ∃ ra, right (ls a) = ra := ⟨_, rfl⟩
  have HRa := Lib.hid hra
  cases ra with
  | false =>
    clear hra
    go_enter Try.func6, Try.ntmps6
    go_wp2_with fail
    refine (alive_any _).mono ?_
    rintro x w1 ⟨rfl, hb1⟩
    go_wp2_with fail
    refine (right_at a false _ (un HRa)).mono ?_
    rintro x w2 ⟨rfl, hb2⟩
    go_wp2
    go_ret
    exact ⟨rfl, below_next hb1 hb2⟩
  | true =>
    obtain ⟨rb, hrb⟩ : ∃ rb, right (ls b) = rb := ⟨_, rfl⟩
    have HRb := Lib.hid hrb
    cases rb with
    | false =>
      clear hra hrb
      go_enter Try.func6, Try.ntmps6
      go_wp2_with fail
      refine (alive_any _).mono ?_
      rintro x w1 ⟨rfl, hb1⟩
      go_wp2_with fail
      refine (right_at a true _ (un HRa)).mono ?_
      rintro x w2 ⟨rfl, hb2⟩
      go_wp2_with fail
      refine (right_at b false _ (un HRb)).mono ?_
      rintro x w3 ⟨rfl, hb3⟩
      go_wp2
      go_ret
      exact ⟨rfl, below_next (below_next hb1 hb2) hb3⟩
    | true =>
      have has : a.size ≤ 65536 := by omega
      have hbs : b.size ≤ 65536 := by omega
      obtain ⟨S, hS⟩ : ∃ S, a ++ b = S := ⟨_, rfl⟩
      have hSl : ls S = ls a ++ ls b := by rw [← hS, ba_app]
      have hSs : S.size ≤ 65536 := by
        rw [← ls_len, hSl, List.length_append, ls_len, ls_len]
        omega
      have hSr : right (ls S) = true := by rw [hSl]; exact app_right _ _ hra hrb
      obtain ⟨ka, hka⟩ : ∃ k, count (ls a) = k := ⟨_, rfl⟩
      obtain ⟨kb, hkb⟩ : ∃ k, count (ls b) = k := ⟨_, rfl⟩
      obtain ⟨ks, hks⟩ : ∃ k, count (ls S) = k := ⟨_, rfl⟩
      have hsum : ks = ka + kb := by rw [← hks, hSl, app_count _ _ hra, hka, hkb]
      obtain ⟨A, hA⟩ : ∃ A, str (clean (ls a)) = A := ⟨_, rfl⟩
      obtain ⟨B, hB⟩ : ∃ B, str (clean (ls b)) = B := ⟨_, rfl⟩
      obtain ⟨C, hC⟩ : ∃ C, A ++ B = C := ⟨_, rfl⟩
      have hSC : str (clean (ls S)) = C := by rw [hSl, app_clean _ _ hra, ← str_join, hA, hB, hC]
      have hcut1 : str (cut (ls S) (a.size : Int)) = a := by
        have e : (a.size : Int) = ((ls a).length : Int) := by rw [ls_len]
        rw [hSl, e, cut_app _ _ hra, str_ls]
      have hcut2 : str (cut (ls S) (S.size : Int)) = S := by
        rw [cut_all _ _ (by rw [ls_len]; omega), str_ls]
      have hcut3 : str (cut (ls S) 0) = ⟨#[]⟩ := by
        rw [cut_zero _ _ (by omega)]
      have hAs : A.size ≤ 65536 := by
        have := clean_le (ls a)
        rw [ls_len] at this
        rw [← hA, str_size]
        omega
      have hBs : B.size ≤ 65536 := by
        have := clean_le (ls b)
        rw [ls_len] at this
        rw [← hB, str_size]
        omega
      have hka' := count_le (ls a)
      have hkb' := count_le (ls b)
      rw [ls_len, hka] at hka'
      rw [ls_len, hkb] at hkb'
      have hw2 : IntKind.wrap .i64 ((ka : Int) + (kb : Int)) = (ks : Int) := by rw [wrap_small _ (by omega) (by omega)]; omega
      have hlen1 : ¬ (9223372036854775807 < a.size + b.size) := by omega
      have hlen2 : ¬ (9223372036854775807 < A.size + B.size) := by omega
      have H1 := Lib.hid hSr
      have H2 := Lib.hid hka
      have H3 := Lib.hid hkb
      have H4 := Lib.hid hks
      have H5 := Lib.hid hA
      have H6 := Lib.hid hB
      have H7 := Lib.hid hSC
      have H8 := Lib.hid hcut1
      have H9 := Lib.hid hcut2
      have H0 := Lib.hid hcut3
      clear hra hrb hSl hSr hka hkb hks hsum hA hB hSC hcut1 hcut2 hcut3 hka' hkb'
      go_enter Try.func6, Try.ntmps6
      go_wp2_with fail
      refine (alive_any _).mono ?_
      rintro x w1 ⟨rfl, hb1⟩
      go_wp2_with fail
      refine (right_at a true _ (un HRa)).mono ?_
      rintro x w2 ⟨rfl, hb2⟩
      go_wp2_with fail
      refine (right_at b true _ (un HRb)).mono ?_
      rintro x w3 ⟨rfl, hb3⟩
      go_wp2_with fail
      refine (right_at S true _ (un H1)).mono ?_
      rintro x w4 ⟨rfl, hb4⟩
      go_wp2_with fail
      refine (count_at S ks _ hSs (un H4)).mono ?_
      rintro x w5 ⟨rfl, hb5⟩
      go_wp2_with fail
      refine (count_at a ka _ has (un H2)).mono ?_
      rintro x w6 ⟨rfl, hb6⟩
      go_wp2_with fail
      refine (count_at b kb _ hbs (un H3)).mono ?_
      rintro x w7 ⟨rfl, hb7⟩
      have hb7' := below_next (below_next (below_next (below_next (below_next (below_next hb1 hb2) hb3) hb4) hb5) hb6) hb7
      clear hb1 hb2 hb3 hb4 hb5 hb6 hb7
      go_wp2_with fail
      refine (clean_at S C _ hSs (un H7)).mono ?_
      rintro x w8 ⟨rfl, hb8⟩
      go_wp2_with fail
      refine (clean_at a A _ has (un H5)).mono ?_
      rintro x w9 ⟨rfl, hb9⟩
      go_wp2_with fail
      refine (clean_at b B _ hbs (un H6)).mono ?_
      rintro x w10 ⟨rfl, hb10⟩
      go_wp2_with fail
      refine (cut_at S a _ _ hSs (un H8)).mono ?_
      rintro x w11 ⟨rfl, hb11⟩
      go_wp2_with fail
      refine (cut_at S S _ _ hSs (un H9)).mono ?_
      rintro x w12 ⟨rfl, hb12⟩
      go_wp2_with fail
      refine (cut_at S ⟨#[]⟩ 0 _ hSs (un H0)).mono ?_
      rintro x w13 ⟨rfl, hb13⟩
      go_wp2
      go_ret
      exact ⟨rfl, below_next (below_next (below_next (below_next (below_next (below_next hb7' hb8) hb9) hb10) hb11) hb12) hb13⟩
end Go.Proofs.Ytdjncnaggipboaa.T03
