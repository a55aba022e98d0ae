/-
  The walks of slices.stableCmpFunc and slices.SortStableFunc, of at most 40 attributes.
-/
import Derived.Test.YtpjldoahinocjaaP06Sym
import Derived.Shelf.SlLaysF0
set_option linter.unusedSimpArgs false
set_option linter.unusedVariables false
namespace Go.Proofs.Ytpjldoahinocjaa.P06
open Go.Shelf Go.RowKit Go.Lib Go.Sort Go.Proofs.Ytpjldoahinocjaa.Wd Go.Proofs.Ytpjldoahinocjaa.V04

def ren : Go.Shelf.Ren := ⟨fun | 20 => 69 | n => n, fun | 0 => 0 | 3 => 3 | 4 => 4 | 22 => 28 | 24 => 53 | 25 => 66 | n => n, fun | n => n⟩
theorem lays20 : SlLaysF0.n20 Try.prog ren := {
  mixed := by kernel_rfl
  f20 := ⟨Try.f69.name, by kernel_rfl, Try.func69.trans (congrArg some (by kernel_rfl))⟩
  t0 := Try.underlying0
  a0 := Try.isAgg0
  z0 := Try.sizeOf0
  v0 := Try.zeroValue0
  t3 := Try.underlying3
  a3 := Try.isAgg3
  z3 := Try.sizeOf3
  v3 := Try.zeroValue3
  t4 := Try.underlying4
  a4 := Try.isAgg4
  z4 := Try.sizeOf4
  v4 := Try.zeroValue4
  t22 := Try.underlying28
  a22 := Try.isAgg28
  z22 := Try.sizeOf28
  v22 := Try.zeroValue28
  t25 := Try.underlying66
  a25 := Try.isAgg66
  z25 := Try.sizeOf66
  v25 := Try.zeroValue66 }
/-- the insertion sort of a part of the row, in whatever world of the sort's -/
theorem ins_any (g : Nat) (cb : Array Value) (blk cap : Nat) (d0 : Array At) (w0 w : World) (X A Z : List At) (a b : Nat) (R : Rw 4 w0 blk d0)
    (eg : ∀ args w, (callFunc g args).run Try.prog w = .ok (.enter g args) w) (hC : CmpLays Try.prog g cb enc 4 cf blk 0 d0.size w0)
    (ha : a = X.length) (hb : b = X.length + A.length) (hs : d0.size = X.length + A.length + Z.length) (hsz : d0.size < 4611686018427387904) (S : Sw 4 w0 blk (X ++ A ++ Z) w) :
    Calls Try.prog 69 #[.slice (some ⟨blk, 0, none⟩) d0.size cap, .int .i64 a, .int .i64 b, .func (.func g) #[] cb] w fun e w' => e = .returned (.tuple #[]) ∧ ∃ Y, Y.length = A.length ∧ Srt Y ∧ Keep A Y ∧ Sw 4 w0 blk (X ++ Y ++ Z) w' := by
  obtain ⟨Y, hY, h1, h2, he⟩ := sort_at (key := kb) ord cf_lt X A Z
  have hd : (X ++ A ++ Z).toArray.size = d0.size := by simp; omega
  have hCw : CmpLays Try.prog g cb enc 4 cf blk 0 (X ++ A ++ Z).toArray.size w := fun m os dk hdk x y => by
    obtain ⟨n0, os0, rfl⟩ := S
    rw [sortWorldK_on enc 4 w0 blk 0 n0 m (X ++ A ++ Z).toArray dk os0 os R.hblk hdk]
    exact hC _ _ dk (by omega) x y
  have hc := AnyQ.insertionSortCmpFunc lays20 4 Try.isAgg53 Try.sizeOf53 enc enc_len enc_one cf g cb blk 0 cap a b (X ++ A ++ Z).toArray w eg hCw (S.holds R.hblk R.hH hd) (S.lt R.hblk) (by omega) (by omega) (by omega)
  rw [hd] at hc
  refine hc.mono ?_
  rintro e w' ⟨rfl, n, os, rfl⟩
  refine ⟨rfl, Y, hY, h1, h2, ?_⟩
  rw [← hb, ← ha] at he
  rw [he]
  exact S.on R.hblk n _ os (by simp; omega)

set_option maxHeartbeats 4000000 in
set_option maxRecDepth 1000000 in
theorem stable_any (g : Nat) (cb : Array Value) (blk cap : Nat) (d0 : Array At) (w0 w : World) (l : List At) (n : Nat) (R : Rw 4 w0 blk d0)
    (eg : ∀ args w, (callFunc g args).run Try.prog w = .ok (.enter g args) w) (hC : CmpLays Try.prog g cb enc 4 cf blk 0 d0.size w0)
    (hl : l.length = n) (hn : n ≤ 40) (hs : d0.size = n) (S : Sw 4 w0 blk l w) :
    Calls Try.prog 56 #[.slice (some ⟨blk, 0, none⟩) d0.size cap, .int .i64 n, .func (.func g) #[] cb] w fun e w' => e = .returned (.tuple #[]) ∧ ∃ Y, Y.length = n ∧ Srt Y ∧ Keep l Y ∧ Sw 4 w0 blk Y w' := by
  have hsz : d0.size < 4611686018427387904 := by omega
  -- the calls
  have i0 : ∀ (w : World) (A Z : List At) (b : Nat), A.length = b → A.length + Z.length = n → Sw 4 w0 blk (A ++ Z) w → Calls Try.prog 69 #[.slice (some ⟨blk, 0, none⟩) d0.size cap, .int .i64 (0 : Nat), .int .i64 b, .func (.func g) #[] cb] w fun e w' => e = .returned (.tuple #[]) ∧ ∃ Y, Aside (Y.length = A.length ∧ Srt Y ∧ Keep A Y ∧ Sw 4 w0 blk (Y ++ Z) w') := fun w A Z b h1 h2 hS => by
    have := ins_any g cb blk cap d0 w0 w [] A Z 0 b R eg hC rfl (by simp; omega) (by simp; omega) hsz (by simpa using hS)
    simp only [List.nil_append, List.append_nil] at this
    exact this
  have i1 : ∀ (w : World) (X A : List At) (a b : Nat), X.length = a → a + A.length = b → b = n → Sw 4 w0 blk (X ++ A) w → Calls Try.prog 69 #[.slice (some ⟨blk, 0, none⟩) d0.size cap, .int .i64 a, .int .i64 b, .func (.func g) #[] cb] w fun e w' => e = .returned (.tuple #[]) ∧ ∃ Y, Aside (Y.length = A.length ∧ Srt Y ∧ Keep A Y ∧ Sw 4 w0 blk (X ++ Y) w') := fun w X A a b h1 h2 h3 hS => by
    have := ins_any g cb blk cap d0 w0 w X A [] a b R eg hC h1.symm (by omega) (by simp; omega) hsz (by simpa using hS)
    simp only [List.nil_append, List.append_nil] at this
    exact this
  have i2 : ∀ (w : World) (A B : List At) (m b : Nat), A.length = m → 0 < m → 0 < B.length → m + B.length = b → b = n → Srt A → Srt B → Sw 4 w0 blk (A ++ B) w → Calls Try.prog 70 #[.slice (some ⟨blk, 0, none⟩) d0.size cap, .int .i64 (0 : Nat), .int .i64 m, .int .i64 b, .func (.func g) #[] cb] w fun e w' => e = .returned (.tuple #[]) ∧ ∃ Y, Aside (Y.length = n ∧ Srt Y ∧ Keep (A ++ B) Y ∧ Sw 4 w0 blk Y w') := fun w A B m b h1 h2 h3 h4 h5 hA hB hS => by
    have := symmerge_any lay g cb blk cap d0 w0 R eg hC hsz n w [] A B [] 0 m b (by omega) (by omega) h3 hA hB rfl (by simp; omega) (by simp; omega) (by simp; omega) (by simpa using hS)
    simp only [List.nil_append, List.append_nil] at this
    exact this
  have HL : Aside (l.length = n) := hl
  have split : 20 ≤ n → ∃ A B : List At, l = A ++ B ∧ A.length = 20 ∧ B.length = n - 20 := fun h => ⟨l.take 20, l.drop 20, (List.take_append_drop _ _).symm, by simp; omega, by simp; omega⟩
  rcases Nat.lt_or_ge n 20 with h20 | h20
  · have c1 := i0 w l [] n hl (by simp; omega) (by simpa using S)
    have u1 : ¬ ((20 : Int) ≤ (n : Int)) := by omega
    have u2 : ¬ ((20 : Int) < (n : Int)) := by omega
    clear i0 i1 i2 hC eg S R hs hl hn h20 hsz split
    go_enter Try.func56, Try.ntmps56
    go_wp2
    refine wp_loop_rounds 1 ?_
    rw [rounds_succ]
    go_wp2_with (go_at_call 69; refine c1.mono ?_; rintro e w1 ⟨rfl, Y, HY⟩)
    refine wp_loop_rounds 1 ?_
    rw [rounds_succ]
    go_wp2
    go_end0
    exact ⟨rfl, Y, by rw [HY.out.1]; exact HL.out, HY.out.2.1, HY.out.2.2.1, by simpa using HY.out.2.2.2⟩
  · obtain ⟨A, B, rfl, hA, hB⟩ := split h20
    have c1 := i0 w A B 20 hA (by omega) S
    have I1 : Aside _ := i1
    have I2 : Aside _ := i2
    have HB : Aside (A.length = 20 ∧ B.length = n - 20) := ⟨hA, hB⟩
    rcases Nat.lt_or_ge n 40 with h40 | h40
    · rcases Nat.eq_or_lt_of_le h20 with h | h
      · -- 20
        subst h
        clear i0 i1 i2 hC eg S R hs hl hn hsz split h40 h20 hA hB
        go_enter Try.func56, Try.ntmps56
        go_wp2
        refine wp_loop_rounds 2 ?_
        rw [rounds_succ]
        go_wp2_with fail
        refine c1.mono ?_
        rintro e w1 ⟨rfl, Y, HY⟩
        go_wp2
        rw [rounds_succ]
        go_wp2_with fail
        refine (I1.out w1 Y B 20 20 (by rw [HY.out.1]; exact HB.out.1) (by have := HB.out; omega) rfl HY.out.2.2.2).mono ?_
        rintro e w2 ⟨rfl, Y2, HY2⟩
        go_wp2
        refine wp_loop_rounds 1 ?_
        rw [rounds_succ]
        go_wp2
        go_end0
        have hB0 : B = [] := List.eq_nil_of_length_eq_zero (by have := HB.out; omega)
        have hY0 : Y2 = [] := List.eq_nil_of_length_eq_zero (by have := HB.out; have := HY2.out.1; omega)
        subst hB0 hY0
        exact ⟨rfl, Y, by rw [HY.out.1]; exact HB.out.1, HY.out.2.1, by simpa using HY.out.2.2.1, by simpa using HY2.out.2.2.2⟩
      · -- 21 to 39
        have u1 : (20 : Int) ≤ (n : Int) := by omega
        have u2 : ¬ ((40 : Int) ≤ (n : Int)) := by omega
        have u3 : (20 : Int) < (n : Int) := by omega
        have u4 : ¬ ((40 : Int) < (n : Int)) := by omega
        clear i0 i1 i2 hC eg S R hs hl hn hsz split h40 h20 hA hB
        go_enter Try.func56, Try.ntmps56
        go_wp2
        refine wp_loop_rounds 2 ?_
        rw [rounds_succ]
        go_wp2_with fail
        refine c1.mono ?_
        rintro e w1 ⟨rfl, Y, HY⟩
        go_wp2
        rw [rounds_succ]
        go_wp2_with fail
        refine (I1.out w1 Y B 20 n (by rw [HY.out.1]; exact HB.out.1) (by have := HB.out; omega) rfl HY.out.2.2.2).mono ?_
        rintro e w2 ⟨rfl, Y2, HY2⟩
        go_wp2
        refine wp_loop_rounds 2 ?_
        rw [rounds_succ]
        go_wp2
        refine wp_loop_rounds 1 ?_
        rw [rounds_succ]
        go_wp2_with fail
        refine (I2.out w2 Y Y2 20 n (by rw [HY.out.1]; exact HB.out.1) (by omega) (by rw [HY2.out.1]; have := HB.out; omega) (by rw [HY2.out.1]; have := HB.out; omega) rfl HY.out.2.1 HY2.out.2.1 HY2.out.2.2.2).mono ?_
        rintro e w3 ⟨rfl, Y3, HY3⟩
        go_wp2
        rw [rounds_succ]
        go_wp2
        go_end0
        exact ⟨rfl, Y3, HY3.out.1, HY3.out.2.1, (HY.out.2.2.1.app HY2.out.2.2.1).trans HY3.out.2.2.1, HY3.out.2.2.2⟩
    · -- 40
      have h : 40 = n := by omega
      subst h
      have i3 := i0
      have I0 : Aside _ := i0
      have c2 : ∀ (w : World) (Y : List At), Y.length = 20 → Sw 4 w0 blk (Y ++ B) w → Calls Try.prog 69 #[.slice (some ⟨blk, 0, none⟩) d0.size cap, .int .i64 (20 : Nat), .int .i64 (40 : Nat), .func (.func g) #[] cb] w fun e w' => e = .returned (.tuple #[]) ∧ ∃ Y', Aside (Y'.length = B.length ∧ Srt Y' ∧ Keep B Y' ∧ Sw 4 w0 blk (Y ++ Y') w') := fun w Y h1 h2 => i1 w Y B 20 40 h1 (by omega) rfl h2
      have c3 : ∀ (w : World) (Y : List At), Y.length = 40 → Sw 4 w0 blk (Y ++ []) w → Calls Try.prog 69 #[.slice (some ⟨blk, 0, none⟩) d0.size cap, .int .i64 (40 : Nat), .int .i64 (40 : Nat), .func (.func g) #[] cb] w fun e w' => e = .returned (.tuple #[]) ∧ ∃ Y', Aside (Y'.length = 0 ∧ Srt Y' ∧ Keep ([] : List At) Y' ∧ Sw 4 w0 blk (Y ++ Y') w') := fun w Y h1 h2 => i1 w Y [] 40 40 h1 rfl rfl h2
      have C2 : Aside _ := c2
      have C3 : Aside _ := c3
      clear i0 i1 i2 i3 hC eg S R hs hl hn hsz split h40 h20 hA hB c2 c3
      go_enter Try.func56, Try.ntmps56
      go_wp2
      refine wp_loop_rounds 3 ?_
      rw [rounds_succ]
      go_wp2_with fail
      refine c1.mono ?_
      rintro e w1 ⟨rfl, Y, HY⟩
      go_wp2
      rw [rounds_succ]
      go_wp2_with fail
      refine (C2.out w1 Y (by rw [HY.out.1]; exact HB.out.1) HY.out.2.2.2).mono ?_
      rintro e w2 ⟨rfl, Y2, HY2⟩
      go_wp2
      rw [rounds_succ]
      go_wp2_with fail
      refine (C3.out w2 (Y ++ Y2) (by rw [List.length_append, HY.out.1, HY2.out.1]; have := HB.out; omega) (by rw [List.append_nil]; exact HY2.out.2.2.2)).mono ?_
      rintro e w3 ⟨rfl, Y3, HY3⟩
      have hY0 : Y3 = [] := List.eq_nil_of_length_eq_zero HY3.out.1
      subst hY0
      go_wp2
      refine wp_loop_rounds 2 ?_
      rw [rounds_succ]
      go_wp2
      refine wp_loop_rounds 2 ?_
      rw [rounds_succ]
      go_wp2_with fail
      refine (I2.out w3 Y Y2 20 40 (by rw [HY.out.1]; exact HB.out.1) (by omega) (by rw [HY2.out.1]; have := HB.out; omega) (by rw [HY2.out.1]; have := HB.out; omega) rfl HY.out.2.1 HY2.out.2.1 (by have := HY3.out.2.2.2; rw [List.append_nil] at this; exact this)).mono ?_
      rintro e w4 ⟨rfl, Y4, HY4⟩
      go_wp2
      rw [rounds_succ]
      go_wp2
      rw [rounds_succ]
      go_wp2
      go_end0
      exact ⟨rfl, Y4, HY4.out.1, HY4.out.2.1, (HY.out.2.2.1.app HY2.out.2.2.1).trans HY4.out.2.2.1, HY4.out.2.2.2⟩

/-- slices.SortStableFunc -/
theorem sort_any (g : Nat) (cb : Array Value) (blk cap : Nat) (d0 : Array At) (w0 w : World) (l : List At) (n : Nat) (R : Rw 4 w0 blk d0)
    (eg : ∀ args w, (callFunc g args).run Try.prog w = .ok (.enter g args) w) (hC : CmpLays Try.prog g cb enc 4 cf blk 0 d0.size w0)
    (hl : l.length = n) (hn : n ≤ 40) (hs : d0.size = n) (S : Sw 4 w0 blk l w) :
    Calls Try.prog 41 #[.slice (some ⟨blk, 0, none⟩) n cap, .func (.func g) #[] cb] w fun e w' => e = .returned (.tuple #[]) ∧ ∃ Y, Y.length = n ∧ Srt Y ∧ Keep l Y ∧ Sw 4 w0 blk Y w' := by
  have hc := stable_any g cb blk cap d0 w0 w l n R eg hC hl hn hs S
  rw [hs] at hc
  clear hC eg S R hs hl hn
  go_enter Try.func41, Try.ntmps41
  go_wp2_with (go_at_call 56; refine hc.mono ?_; rintro e w1 ⟨rfl, h⟩)
  go_end0
  exact ⟨rfl, h⟩
end Go.Proofs.Ytpjldoahinocjaa.P06
