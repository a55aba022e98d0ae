/-
  The walks over package text: Clean, Label.
-/
import Derived.Test.YtpjldoahinocjaaT03Key
namespace Go.Proofs.Ytpjldoahinocjaa.T03
open Go.RowKit Go.Lib

theorem plain_at (r : Nat) (b : Bool) (hb : plainB r = b) (w : World) : Calls Try.prog 65 #[.int .i32 (r : Nat)] w fun e w' => e = .returned (.bool b) ∧ w' = w := hb ▸ plain_any r w
def CleanRel (s : ByteArray) (pos : Nat) (acc : List UInt8) : Prop := acc ++ clean ((ls s).drop pos) = clean (ls s)

set_option maxRecDepth 20000 in
set_option maxHeartbeats 2000000 in
theorem clean_any (s : ByteArray) (w : World) (hs : s.size ≤ 65536) :
    Calls Try.prog 55 #[.string s] w fun e w' => e = .returned (.string (str (clean (ls s)))) ∧ Below w.heap.size w w' := by
  go_enter Try.func55, Try.ntmps55
  go_wp2_with fail
  refine (Try.b_grow w.heap.size w.heap.size s.size _ (Nat.le_refl _) (heap_alloc_new w _) (by simp) (by omega)).mono ?_
  rintro e w1 ⟨rfl, hB1, hb1⟩
  have hlt : w.heap.size < w1.heap.size := by
    obtain ⟨-, v, hv, -⟩ := hB1
    exact (Array.getElem?_eq_some_iff.1 hv).1
  go_wp2
  go_loopw [] (fun wr => ∃ (pos : Nat) (acc : List UInt8), Lib.IsBuilderF 93 5 w.heap.size w.heap.size (Lib.byteCells acc) wr ∧ wr.heap[w1.heap.size]? = some (.stringIter s pos) ∧ Below w.heap.size w wr ∧ pos ≤ s.size ∧ acc.length ≤ 4 * pos ∧ CleanRel s pos acc) (fun wr => s.size - wr.iterPos w1.heap.size)
  case atStart =>
    refine ⟨0, [], (Lib.IsBuilderF.of (Or.inr hB1)).alloc _, World.iter_heap w1 s 0, ?_, Nat.zero_le _, Nat.zero_le _, ?_⟩
    · exact (((Below.refl _ w).alloc (Nat.le_refl _) _).trans hb1).alloc (by omega) _
    · unfold CleanRel
      simp
  case round =>
    obtain ⟨pos, acc, hI, hit, hbw, hps, hal, hrel⟩ := hrel
    have hsz : w1.heap.size < wr.heap.size := (Array.getElem?_eq_some_iff.1 hit).1
    by_cases hp : pos < s.size
    · obtain ⟨r, d, hdec, hdl, hd1, hd2, hr, hdd⟩ := at_pos s pos hp
      have hnx := nx_at Try.prog wr w1.heap.size s pos r d hit hp hdec
      have hI2 := hI.iterAt hit (pos + d)
      have hit2 := Lib.iterAt_heap wr w1.heap.size s pos (pos + d) hit
      have hbw2 := Lib.below_iterAt hbw (k := w1.heap.size) (by omega) s (pos + d)
      have hsz2 : w.heap.size ≤ (wr.iterAt w1.heap.size s (pos + d)).heap.size := by rw [Lib.iterAt_size]; omega
      have hne := ls_drop_ne s pos hp
      have hst := clean_step _ hne
      have hen := encode_decode _ hne
      rw [hdl] at hst hen
      simp only [hdd] at hst hen
      obtain ⟨b, hb⟩ : ∃ b, plainB r = b := ⟨_, rfl⟩
      have c1 := plain_at r b hb (wr.iterAt w1.heap.size s (pos + d))
      have HD := Lib.hid hdec
      have HL := Lib.hid hdl
      have HT := Lib.hid hdd
      have HS := Lib.hid hst
      have HR := Lib.hid hrel
      have HB := Lib.hid hb
      have HN := Lib.hid hen
      clear hdec hdl hdd hst hrel hne hb hen
      cases b with
      | true =>
        go_wp2_with first
          | (go_at_call 65; refine c1.mono ?_; rintro e w' ⟨rfl, rfl⟩)
          | (go_at_call 66; refine (Try.b_rune w.heap.size w.heap.size _ r (by omega) (by omega) _ hI2 (by rw [Lib.byteCells_length]; omega) hsz2).mono ?_)
        rintro e W1 ⟨rfl, h1, b1, k1⟩
        go_wp2
        go_roundw
        case rel =>
          have hl4 := Lib.runeCells_le (r : Int)
          rw [Lib.runeCells_length] at hl4
          refine ⟨pos + d, acc ++ Lib.encodeRune r, ?_, k1.iter hit2 (by omega), hbw2.trans b1, hd2, by simp; omega, ?_⟩
          · rw [Lib.byteCells_append, Lib.byteCells_encodeRune]; exact Or.inr h1
          · have h2 := un HR
            have h3 := un HS
            unfold CleanRel at h2 ⊢
            rw [un HB, if_pos rfl] at h3
            rw [← h2, h3, un HN (fun e => plain_ok (un HB) e.1), List.append_assoc]
        case measure =>
          simp only [World.iterPos, k1.iter hit2 (by omega), hit]
          omega
      | false =>
        go_wp2_with first
          | (go_at_call 65; refine c1.mono ?_; rintro e w' ⟨rfl, rfl⟩)
          | (go_at_call 67; refine (Try.b_byte w.heap.size w.heap.size _ 95 _ hI2 (by rw [Lib.byteCells_length]; omega) hsz2).mono ?_)
        rintro e W1 ⟨rfl, h1, b1, k1⟩
        go_wp2
        go_roundw
        case rel =>
          refine ⟨pos + d, acc ++ [95], ?_, k1.iter hit2 (by omega), hbw2.trans b1, hd2, by simp; omega, ?_⟩
          · rw [Lib.byteCells_append]; exact Or.inr h1
          · have h2 := un HR
            have h3 := un HS
            unfold CleanRel at h2 ⊢
            rw [un HB] at h3
            rw [← h2, h3, List.append_assoc]
            rfl
        case measure =>
          simp only [World.iterPos, k1.iter hit2 (by omega), hit]
          omega
    · have hnx : ∀ ty, (Instr.next (.pointer (some ⟨w1.heap.size, 0, none⟩)) true ty).run Try.prog wr = _ := fun ty => Lib.run_next_end_at (P := Try.prog) wr w1.heap.size s pos ty hit hp
      have HR := Lib.hid hrel
      clear hrel
      go_wp2_with (go_at_call 68; refine (Try.b_string w.heap.size w.heap.size acc _ hI (by omega)).mono ?_)
      rintro e W1 ⟨rfl, _, b1, _⟩
      go_wp2
      go_ret
      have h2 := un HR
      unfold CleanRel at h2
      rw [List.drop_of_length_le (by rw [ls_len]; omega), clean_nil, List.append_nil] at h2
      rw [← h2]
      exact ⟨rfl, hbw.trans b1⟩
set_option maxRecDepth 20000 in
theorem label_any (s : ByteArray) (n : Int) (w : World) (hs : s.size ≤ 65536) :
    Calls Try.prog 39 #[.string s, .int .i64 n] w fun e w' => e = .returned (.string (str (cut (clean (ls s)) n))) ∧ Below w.heap.size w w' := by
  go_enter Try.func39, Try.ntmps39
  go_wp2_with fail
  refine (clean_any s w hs).mono ?_
  rintro e w1 ⟨rfl, hb1⟩
  have hle := clean_le (ls s)
  rw [ls_len] at hle
  obtain ⟨X, hX⟩ : ∃ X, str (clean (ls s)) = X := ⟨_, rfl⟩
  have hXl : ls X = clean (ls s) := by rw [← hX]
  have hXs : X.size ≤ 65536 := by rw [← hX, str_size]; omega
  rw [hX]
  clear hX
  go_wp2_with fail
  refine (cut_any X n w1 hXs).mono ?_
  rintro e w2 ⟨rfl, hb2⟩
  have HX := Lib.hid hXl
  clear hXl
  go_wp2
  go_ret
  rw [un HX]
  exact ⟨rfl, hb1.trans (hb2.mono hb1.size)⟩
end Go.Proofs.Ytpjldoahinocjaa.T03
