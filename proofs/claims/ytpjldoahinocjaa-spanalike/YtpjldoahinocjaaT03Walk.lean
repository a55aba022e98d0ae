/-
  The walks over package text: Count, Right, end, Cut, plain, first, other, Key.
-/
import Derived.Test.YtpjldoahinocjaaT03Pure
import Derived.Test.YtpjldoahinocjaaT03Shelf
import Derived.WalkKit
import Derived.BigCall
import Derived.WalkSpells
namespace Go.Proofs.Ytpjldoahinocjaa.T03
open Go.RowKit Go.Lib

theorem un {p : Prop} (h : Hid p) : p := h
abbrev ls (s : ByteArray) : List UInt8 := s.data.toList
theorem ls_len (s : ByteArray) : (ls s).length = s.size := by cases s; rfl
theorem ls_drop_ne (s : ByteArray) (pos : Nat) (hp : pos < s.size) : (ls s).drop pos ≠ [] := by
  intro e
  have := congrArg List.length e
  rw [List.length_drop, ls_len, List.length_nil] at this
  omega
/-- the rune at a place, and how far it goes -/
theorem at_pos (s : ByteArray) (pos : Nat) (hp : pos < s.size) : ∃ r d : Nat, Utf8.decode s pos = (r, d) ∧ decodeL ((ls s).drop pos) = (r, d) ∧ 1 ≤ d ∧ pos + d ≤ s.size ∧ r ≤ 1114111 ∧ ((ls s).drop pos).drop d = (ls s).drop (pos + d) := by
  have h := decodeL_drop s pos
  refine ⟨(Utf8.decode s pos).1, (Utf8.decode s pos).2, rfl, h, ?_, ?_, ?_, by rw [List.drop_drop]⟩
  · rw [← h]; exact decodeL_width _
  · have := decodeL_le _ (ls_drop_ne s pos hp)
    rw [h, List.length_drop, ls_len] at this
    omega
  · rw [← h]; exact decodeL_rune _

theorem nx_at (P : Program) (wr : World) (g : Nat) (s : ByteArray) (pos r d : Nat) (hit : wr.heap[g]? = some (.stringIter s pos)) (hp : pos < s.size) (hdec : Utf8.decode s pos = (r, d)) :
    ∀ ty, (Instr.next (.pointer (some ⟨g, 0, none⟩)) true ty).run P wr = .ok (.tuple #[.bool true, .int .i64 pos, .int .i32 r]) (wr.iterAt g s (pos + d)) := fun ty => by
  have := Lib.run_next_any_at (P := P) wr g s pos ty hit hp
  rwa [hdec] at this

def CountRel (s : ByteArray) (pos k : Nat) : Prop := k + count ((ls s).drop pos) = count (ls s)

theorem ext_ls (s : ByteArray) (pos : Nat) : (s.extract pos s.size).data.toList = (ls s).drop pos := by
  cases s with | mk a =>
  rw [ByteArray.data_extract]
  show (a.extract pos a.size).toList = a.toList.drop pos
  simp [Array.toList_extract, List.take_of_length_le]
def RightRel (s : ByteArray) (pos : Nat) : Prop := right ((ls s).drop pos) = right (ls s)

theorem cutN_step (l : List UInt8) (hne : l ≠ []) (n : Int) : cutN (ps l) n = if ((decodeL l).2 : Int) ≤ n then (decodeL l).2 + cutN (ps (l.drop (decodeL l).2)) (n - (decodeL l).2) else 0 := by
  rw [ps_step l hne, cutN, ps_len l hne]
theorem cutN_all (l : List UInt8) (n : Int) (hn : (l.length : Int) ≤ n) : cutN (ps l) n = l.length := by
  obtain ⟨k, h1, h2, h3, -⟩ := cut_told l n
  rw [h3, cut_all l n hn]

def EndRel (s : ByteArray) (n : Int) (last pos : Nat) : Prop :=
  ((pos : Int) ≤ n → pos + cutN (ps ((ls s).drop pos)) (n - pos) = cutN (ps (ls s)) n) ∧ (n < (pos : Int) → last = cutN (ps (ls s)) n)
theorem end_start (s : ByteArray) (n : Int) : EndRel s n 0 0 := by
  refine ⟨fun h => by simp, fun h => ?_⟩
  rw [cutN_none _ (pieces_ne _) n (by omega)]
theorem end_step (s : ByteArray) (n : Int) (last pos d r : Nat) (hp : pos < s.size) (hdl : decodeL ((ls s).drop pos) = (r, d)) (hdd : ((ls s).drop pos).drop d = (ls s).drop (pos + d)) (h : EndRel s n last pos) (hn : (pos : Int) ≤ n) : EndRel s n pos (pos + d) := by
  have h1 := h.1 hn
  have h2 := cutN_step _ (ls_drop_ne s pos hp) (n - pos)
  rw [hdl] at h2
  simp only [hdd] at h2
  refine ⟨fun h3 => ?_, fun h3 => ?_⟩
  · rw [if_pos (by omega)] at h2
    have e : n - ((pos + d : Nat) : Int) = n - pos - d := by omega
    rw [e]
    omega
  · rw [if_neg (by omega)] at h2
    omega

set_option maxRecDepth 20000 in
set_option maxHeartbeats 1000000 in
theorem end_any (s : ByteArray) (n : Int) (w : World) :
    Calls Try.prog 63 #[.string s, .int .i64 n] w fun e w' => e = .returned (.int .i64 (cutN (ps (ls s)) n : Nat)) ∧ Below w.heap.size w w' := by
  by_cases hn : (s.size : Int) ≤ n
  · have hC := cutN_all (ls s) n (by rw [ls_len]; exact hn)
    rw [ls_len] at hC
    rw [hC]
    go_enter Try.func63, Try.ntmps63
    go_wp2
    go_ret
    exact ⟨rfl, Below.refl _ _⟩
  · have hn' : n < (s.size : Int) := by omega
    go_enter Try.func63, Try.ntmps63
    go_wp2
    go_loopw [5] (fun v wr => ∃ pos last : Nat, v = .int .i64 (last : Nat) ∧ wr.heap[w.heap.size]? = some (.stringIter s pos) ∧ Below w.heap.size w wr ∧ pos ≤ s.size ∧ EndRel s n last pos) (fun _ wr => s.size - wr.iterPos w.heap.size)
    case atStart =>
      exact ⟨0, 0, rfl, World.iter_heap w s 0, (Below.refl _ w).alloc (Nat.le_refl _) _, Nat.zero_le _, end_start s n⟩
    case round =>
      obtain ⟨pos, last, rfl, hit, hbw, hps, hrel⟩ := hrel
      by_cases hp : pos < s.size
      · obtain ⟨r, d, hdec, hdl, hd1, hd2, hr, hdd⟩ := at_pos s pos hp
        have hnx := nx_at Try.prog wr w.heap.size s pos r d hit hp hdec
        have hit2 := Lib.iterAt_heap wr w.heap.size s pos (pos + d) hit
        have hbw2 := Lib.below_iterAt hbw (k := w.heap.size) (Nat.le_refl _) s (pos + d)
        by_cases hg : (pos : Int) ≤ n
        · have hst := end_step s n last pos d r hp hdl hdd hrel hg
          have hg' : ¬ (n < (pos : Int)) := by omega
          clear hdec hdl hdd hrel
          go_wp2
          go_roundw
          case rel => exact ⟨pos + d, pos, rfl, hit2, hbw2, hd2, hst⟩
          case measure =>
            simp only [World.iterPos, hit2, hit]
            omega
        · have hg' : n < (pos : Int) := by omega
          have hst := hrel.2 hg'
          have HS := Lib.hid hst
          clear hdec hdl hdd hrel hst
          go_wp2
          go_ret
          rw [← un HS]
          exact ⟨rfl, hbw2⟩
      · have hnx : ∀ ty, (Instr.next (.pointer (some ⟨w.heap.size, 0, none⟩)) true ty).run Try.prog wr = _ := fun ty => Lib.run_next_end_at (P := Try.prog) wr w.heap.size s pos ty hit hp
        have HS := Lib.hid (hrel.2 (by omega))
        clear hrel
        go_wp2
        go_ret
        rw [← un HS]
        exact ⟨rfl, hbw⟩

theorem cutN_len (l : List UInt8) (n : Int) : cutN (ps l) n ≤ l.length := by
  obtain ⟨k, h1, h2, h3, -⟩ := cut_told l n
  rw [h3]
  exact cut_le l n
/-- a text of a list of bytes -/
abbrev str (l : List UInt8) : ByteArray := ⟨l.toArray⟩
theorem str_ls (s : ByteArray) : str (ls s) = s := by cases s; rfl
theorem ls_str (l : List UInt8) : ls (str l) = l := rfl
theorem str_size (l : List UInt8) : (str l).size = l.length := by simp [ByteArray.size]
theorem ext_str (s : ByteArray) (k : Nat) : s.extract 0 k = str ((ls s).take k) := by
  cases s with | mk a =>
  apply ByteArray.ext
  rw [ByteArray.data_extract]
  apply Array.ext'
  simp [Array.toList_extract, List.extract_eq_take_drop]

set_option maxRecDepth 20000 in
theorem clone_any (s : ByteArray) (w : World) (hs : s.size ≤ 281474976710656) :
    Calls Try.prog 62 #[.string s] w fun e w' => e = .returned (.string s) ∧ Below w.heap.size w w' := by
  go_enter Try.func62, Try.ntmps62
  go_wp2_with fail
  refine (Try.s_clone s w hs).mono ?_
  rintro e w2 ⟨rfl, hb2⟩
  go_wp2
  go_ret
  exact ⟨rfl, hb2⟩

set_option maxRecDepth 20000 in
set_option maxHeartbeats 1000000 in
theorem cut_any (s : ByteArray) (n : Int) (w : World) (hs : s.size ≤ 65536) :
    Calls Try.prog 54 #[.string s, .int .i64 n] w fun e w' => e = .returned (.string (str (cut (ls s) n))) ∧ Below w.heap.size w w' := by
  have hle := cutN_len (ls s) n
  rw [ls_len] at hle
  go_enter Try.func54, Try.ntmps54
  go_wp2_with fail
  refine (end_any s n w).mono ?_
  rintro e w1 ⟨rfl, hb1⟩
  obtain ⟨C, hC⟩ : ∃ C, cutN (ps (ls s)) n = C := ⟨_, rfl⟩
  have hres : s.extract 0 C = str (cut (ls s) n) := by
    rw [ext_str, ← hC]
    rfl
  rw [hC] at hle ⊢
  clear hC
  obtain ⟨X, hX⟩ : ∃ X, str (cut (ls s) n) = X := ⟨_, rfl⟩
  rw [hX] at hres
  have hXs : X.size ≤ 281474976710656 := by
    rw [← hX, str_size]
    have := cut_le (ls s) n
    rw [ls_len] at this
    omega
  have HX := Lib.hid hX
  clear hX
  have h0 : (0 : Int) ≤ (C : Int) := by omega
  have h1 : (C : Int) ≤ (s.size : Int) := by omega
  go_wp2_with fail
  refine (clone_any X w1 hXs).mono ?_
  rintro e w2 ⟨rfl, hb2⟩
  go_wp2
  go_ret
  rw [un HX]
  exact ⟨rfl, hb1.trans (hb2.mono hb1.size)⟩
end Go.Proofs.Ytpjldoahinocjaa.T03
