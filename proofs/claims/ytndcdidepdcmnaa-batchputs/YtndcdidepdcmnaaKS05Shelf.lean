/-
  The kit's contract of strings.Clone, laid at this program.
  What New, Len, At, add and Put of strtab do.
-/
import Derived.Shelf.Strconv.Clone
import Derived.Shelf.LaysM
import Derived.Test.YtndcdidepdcmnaaProg
import Derived.WalkKit
import Derived.Test.YtndcdidepdcmnaaKWords
import Derived.Handy
section
namespace Go.Proofs
open Go.Shelf Go.RowKit
def Try.laysM316_ren : Go.Shelf.Ren := ⟨fun | 316 => 74 | n => n, fun | 0 => 0 | 3 => 3 | 4 => 4 | 5 => 5 | 9 => 9 | 37 => 25 | 127 => 133 | n => n, fun | n => n⟩
theorem Try.laysM316 : Go.Proofs.LaysM.n316 Try.prog Try.laysM316_ren := {
  mixed := by kernel_rfl
  f316 := Try.func74.trans (congrArg some (by kernel_rfl))
  t0 := Try.underlying0
  a0 := Try.isAgg0
  z0 := Try.sizeOf0
  v0 := Try.zeroValue0
  t3 := Try.underlying3
  a3 := Try.isAgg3
  z3 := Try.sizeOf3
  v3 := Try.zeroValue3
  t4 := Try.underlying4
  a4 := Try.isAgg4
  z4 := Try.sizeOf4
  v4 := Try.zeroValue4
  t9 := Try.underlying9
  a9 := Try.isAgg9
  z9 := Try.sizeOf9
  v9 := Try.zeroValue9
  t37 := Try.underlying25
  a37 := Try.isAgg25
  z37 := Try.sizeOf25
  v37 := Try.zeroValue25
  t127 := Try.underlying133
  a127 := Try.isAgg133
  z127 := Try.sizeOf133
  v127 := Try.zeroValue133
  t5 := Try.underlying5
  a5 := Try.isAgg5
  z5 := Try.sizeOf5
  v5 := Try.zeroValue5
  i0 := by kernel_rfl
  i3 := by kernel_rfl
  i4 := by kernel_rfl
  i5 := by kernel_rfl
  i9 := by kernel_rfl
  i37 := by kernel_rfl
  i127 := by kernel_rfl }

theorem Try.s_clone (s : ByteArray) (w : World) (hlim : s.size ≤ 281474976710656) :
    Calls Try.prog 74 #[.string s] w fun e w' => e = .returned (.string s) ∧ Below w.heap.size w w' :=
  Any.stringslite_Clone Try.laysM316 s w hlim

theorem Try.clone_any (s : ByteArray) (w : World) (hlim : s.size ≤ 281474976710656) :
    Calls Try.prog 69 #[.string s] w fun e w' => e = .returned (.string s) ∧ Below w.heap.size w w' := by
  go_enter Try.func69, Try.ntmps69
  go_wp2_with fail
  refine (Try.s_clone s _ hlim).mono ?_
  rintro e w1 ⟨rfl, hb⟩
  go_wp2
  go_ret
  exact ⟨rfl, hb⟩
end Go.Proofs
end

section
namespace Go.Proofs.Ytndcdidepdcmnaa.S05
open Go.RowKit Go.Lib Go.Maps Go.Proofs.Ytndcdidepdcmnaa.Wd

theorem law : Keyed Try.prog 9 := string_keyed Try.underlying9
theorem zero_int (w : World) : (zeroValue 3).run Try.prog w = .ok (.int .i64 0) w := by kernel_rfl
theorem key_ok {s : ByteArray} (h : s.size ≤ 1000000) : keyOf Try.prog 9 (.string s) = some (kl s) := WideMaps.keyOf_string_mk Try.underlying9 (by unfold maxLen; omega)

theorem new_any (w : World) : Calls Try.prog 19 #[] w fun e w' =>
    e = .returned (.pointer (some ⟨w.heap.size, 0, none⟩)) ∧ Tab w' w.heap.size [] [w.heap.size] ∧ Below w.heap.size w w' := by
  go_enter Try.func19, Try.ntmps19
  go_wp2
  go_ret
  refine ⟨rfl, ⟨none, 0, none, ⟨?_, World.ownsRow_nil _ _ _ _, .inl ⟨rfl, rfl⟩, fun a h => (by cases h), List.nodup_nil, by simp, by simp⟩, by simp [own]⟩, (Below.refl _ _).alloc (Nat.le_refl _) _⟩
  exact heap_alloc_new w _

/-- the table's two cells -/
theorem Tb.c0 {w : World} {p : Nat} {L : List ByteArray} {A : Option Addr} {c : Nat} {M : Option Nat} (h : Tb w p L A c M) : w.cell? ⟨p, 0, none⟩ = some (.slice A L.length c) := by simp [World.cell?, h.box]
theorem Tb.c1 {w : World} {p : Nat} {L : List ByteArray} {A : Option Addr} {c : Nat} {M : Option Nat} (h : Tb w p L A c M) : w.cell? ⟨p, 1, none⟩ = some (.map M) := by simp [World.cell?, h.box]
theorem Tb.f {w : World} {p : Nat} {L : List ByteArray} {A : Option Addr} {c : Nat} {M : Option Nat} (h : Tb w p L A c M) (i : Nat) : w.frozen? ⟨p, i, none⟩ = false := by simp [World.frozen?, h.box]

theorem len_any (w : World) (p : Nat) (L : List ByteArray) (o : List Nat) (n : Nat) (h : Tab w p L o) (hn : L.length = n) : Calls Try.prog 53 #[.pointer (some ⟨p, 0, none⟩)] w fun e w' =>
    e = .returned (.int .i64 n) ∧ w = w' := by
  obtain ⟨A, c, M, h, rfl⟩ := h
  have c0 := h.c0
  rw [hn] at c0
  go_enter Try.func53, Try.ntmps53
  go_wp2
  go_ret
  exact ⟨rfl, rfl⟩
theorem len_nil (w : World) : Calls Try.prog 53 #[.pointer none] w fun e w' => e = .returned (.int .i64 0) ∧ w = w' := by
  go_enter Try.func53, Try.ntmps53
  go_wp2
  go_ret
  exact ⟨rfl, rfl⟩
theorem at_in (w : World) (p : Nat) (L : List ByteArray) (o : List Nat) (k : Nat) (s : ByteArray) (h : Tab w p L o) (hk : L[k]? = some s) : Calls Try.prog 72 #[.pointer (some ⟨p, 0, none⟩), .int .i64 k] w fun e w' =>
    e = .returned (.tuple #[.string s, .bool true]) ∧ w = w' := by
  have hlen := h.len
  have hlt := len_any w p L o L.length h rfl
  obtain ⟨A, c, M, h, rfl⟩ := h
  have c0 := h.c0
  obtain ⟨hi, rfl⟩ := List.getElem?_eq_some_iff.1 hk
  obtain ⟨ad, rfl, hc⟩ := (Ss.own h.row).get hi
  have hcap := (Ss.own h.row).cap
  have hmax := (Ss.own h.row).max
  obtain ⟨n, hn⟩ : ∃ n, L.length = n := ⟨_, rfl⟩
  obtain ⟨s, hs⟩ : ∃ s, L[k] = s := ⟨_, rfl⟩
  rw [hn] at c0 hlt hcap hlen
  rw [hs] at hc ⊢
  have hkn : k < n := by omega
  clear hk hs hi hn h
  go_enter Try.func72, Try.ntmps72
  go_wp2_with fail
  refine hlt.mono ?_
  rintro e w1 ⟨rfl, rfl⟩
  go_wp2
  go_ret2
  exact ⟨rfl, rfl⟩
theorem at_out (w : World) (p : Nat) (L : List ByteArray) (o : List Nat) (k : Int) (h : Tab w p L o) (hk : k < 0 ∨ (L.length : Int) ≤ k) : Calls Try.prog 72 #[.pointer (some ⟨p, 0, none⟩), .int .i64 k] w fun e w' =>
    e = .returned (.tuple #[.string ByteArray.empty, .bool false]) ∧ w = w' := by
  have hlen := h.len
  have hlt := len_any w p L o L.length h rfl
  clear h
  obtain ⟨n, hn⟩ : ∃ n, L.length = n := ⟨_, rfl⟩
  rw [hn] at hk hlt hlen
  clear hn
  by_cases h0 : k < 0
  · clear hk
    go_enter Try.func72, Try.ntmps72
    go_wp2
    go_ret2
    exact ⟨rfl, rfl⟩
  · have h1 : (n : Int) ≤ k := by omega
    clear hk
    go_enter Try.func72, Try.ntmps72
    go_wp2_with fail
    refine hlt.mono ?_
    rintro e w1 ⟨rfl, rfl⟩
    go_wp2
    go_ret2
    exact ⟨rfl, rfl⟩
theorem at_nil (w : World) : Calls Try.prog 72 #[.pointer none, .int .i64 0] w fun e w' =>
    e = .returned (.tuple #[.string ByteArray.empty, .bool false]) ∧ w = w' := by
  go_enter Try.func72, Try.ntmps72
  go_wp2_with fail
  refine (len_nil _).mono ?_
  rintro e w1 ⟨rfl, rfl⟩
  go_wp2
  go_ret2
  exact ⟨rfl, rfl⟩
end Go.Proofs.Ytndcdidepdcmnaa.S05
end
