/-
  The walks over package text: Count, Right, end, Cut, plain, first, other, Key.
  The walks over package text: plain, first, other, Key.
  The walks over package text: Clean, Label.
  The chapter's example (alive), and calls by letters.
  The document's answer by definition: the first rune of a text (tallyroomref03.Rune).
  The document's answer by definition: the first rune of a text (tallyroomref03.Rune), of 3 bytes.
  The document's answer by definition: the first rune of a text (tallyroomref03.Rune), of 4 bytes.
  The document's answer by definition (tallyroomref03): Right, Count, Cut, Clean, Key.
  The document's answer by definition (tallyroomref03): Clean, Key.
  The document's answer by definition (tallyroomref03): Key.
  The walk of TextTells.
-/
import Derived.Test.YtdmibolbpgondaaGreatKT03Pure
import Derived.Test.YtdmibolbpgondaaGreatKWords
import Derived.Test.YtdmibolbpgondaaGreatRows
import Derived.WalkKit
import Derived.Lib.OthersKept
import Derived.BigCall
import Derived.WalkSpells
section
namespace Go.Proofs.YtdmibolbpgondaaGreat.T03
open Go.RowKit Go.Lib

theorem un {p : Prop} (h : Hid p) : p := h
abbrev ls (s : ByteArray) : List UInt8 := s.data.toList
theorem ls_len (s : ByteArray) : (ls s).length = s.size := by cases s; rfl
theorem ls_drop_ne (s : ByteArray) (pos : Nat) (hp : pos < s.size) : (ls s).drop pos ≠ [] := by
  intro e
  have := congrArg List.length e
  rw [List.length_drop, ls_len, List.length_nil] at this
  omega
/-- the rune at a place, and how far it goes -/
theorem at_pos (s : ByteArray) (pos : Nat) (hp : pos < s.size) : ∃ r d : Nat, Utf8.decode s pos = (r, d) ∧ decodeL ((ls s).drop pos) = (r, d) ∧ 1 ≤ d ∧ pos + d ≤ s.size ∧ r ≤ 1114111 ∧ ((ls s).drop pos).drop d = (ls s).drop (pos + d) := by
  have h := decodeL_drop s pos
  refine ⟨(Utf8.decode s pos).1, (Utf8.decode s pos).2, rfl, h, ?_, ?_, ?_, by rw [List.drop_drop]⟩
  · rw [← h]; exact decodeL_width _
  · have := decodeL_le _ (ls_drop_ne s pos hp)
    rw [h, List.length_drop, ls_len] at this
    omega
  · rw [← h]; exact decodeL_rune _

theorem nx_at (P : Program) (wr : World) (g : Nat) (s : ByteArray) (pos r d : Nat) (hit : wr.heap[g]? = some (.stringIter s pos)) (hp : pos < s.size) (hdec : Utf8.decode s pos = (r, d)) :
    ∀ ty, (Instr.next (.pointer (some ⟨g, 0, none⟩)) true ty).run P wr = .ok (.tuple #[.bool true, .int .i64 pos, .int .i32 r]) (wr.iterAt g s (pos + d)) := fun ty => by
  have := Lib.run_next_any_at (P := P) wr g s pos ty hit hp
  rwa [hdec] at this

def CountRel (s : ByteArray) (pos k : Nat) : Prop := k + count ((ls s).drop pos) = count (ls s)

theorem ext_ls (s : ByteArray) (pos : Nat) : (s.extract pos s.size).data.toList = (ls s).drop pos := by
  cases s with | mk a =>
  rw [ByteArray.data_extract]
  show (a.extract pos a.size).toList = a.toList.drop pos
  simp [Array.toList_extract, List.take_of_length_le]
def RightRel (s : ByteArray) (pos : Nat) : Prop := right ((ls s).drop pos) = right (ls s)

theorem cutN_step (l : List UInt8) (hne : l ≠ []) (n : Int) : cutN (ps l) n = if ((decodeL l).2 : Int) ≤ n then (decodeL l).2 + cutN (ps (l.drop (decodeL l).2)) (n - (decodeL l).2) else 0 := by
  rw [ps_step l hne, cutN, ps_len l hne]
theorem cutN_all (l : List UInt8) (n : Int) (hn : (l.length : Int) ≤ n) : cutN (ps l) n = l.length := by
  obtain ⟨k, h1, h2, h3, -⟩ := cut_told l n
  rw [h3, cut_all l n hn]

def EndRel (s : ByteArray) (n : Int) (last pos : Nat) : Prop :=
  ((pos : Int) ≤ n → pos + cutN (ps ((ls s).drop pos)) (n - pos) = cutN (ps (ls s)) n) ∧ (n < (pos : Int) → last = cutN (ps (ls s)) n)
theorem end_start (s : ByteArray) (n : Int) : EndRel s n 0 0 := by
  refine ⟨fun h => by simp, fun h => ?_⟩
  rw [cutN_none _ (pieces_ne _) n (by omega)]
theorem end_step (s : ByteArray) (n : Int) (last pos d r : Nat) (hp : pos < s.size) (hdl : decodeL ((ls s).drop pos) = (r, d)) (hdd : ((ls s).drop pos).drop d = (ls s).drop (pos + d)) (h : EndRel s n last pos) (hn : (pos : Int) ≤ n) : EndRel s n pos (pos + d) := by
  have h1 := h.1 hn
  have h2 := cutN_step _ (ls_drop_ne s pos hp) (n - pos)
  rw [hdl] at h2
  simp only [hdd] at h2
  refine ⟨fun h3 => ?_, fun h3 => ?_⟩
  · rw [if_pos (by omega)] at h2
    have e : n - ((pos + d : Nat) : Int) = n - pos - d := by omega
    rw [e]
    omega
  · rw [if_neg (by omega)] at h2
    omega

theorem cutN_len (l : List UInt8) (n : Int) : cutN (ps l) n ≤ l.length := by
  obtain ⟨k, h1, h2, h3, -⟩ := cut_told l n
  rw [h3]
  exact cut_le l n
/-- a text of a list of bytes -/
abbrev str (l : List UInt8) : ByteArray := ⟨l.toArray⟩
theorem str_ls (s : ByteArray) : str (ls s) = s := by cases s; rfl
theorem ls_str (l : List UInt8) : ls (str l) = l := rfl
theorem str_size (l : List UInt8) : (str l).size = l.length := by simp [ByteArray.size]
theorem ext_str (s : ByteArray) (k : Nat) : s.extract 0 k = str ((ls s).take k) := by
  cases s with | mk a =>
  apply ByteArray.ext
  rw [ByteArray.data_extract]
  apply Array.ext'
  simp [Array.toList_extract, List.extract_eq_take_drop]

end Go.Proofs.YtdmibolbpgondaaGreat.T03
end

section
namespace Go.Proofs.YtdmibolbpgondaaGreat.T03
open Go.RowKit Go.Lib

theorem ret_bool {a b : Bool} {w : World} (h : a = true ↔ b = true) : Ending.returned (.bool a) = Ending.returned (.bool b) ∧ w = w := by
  rw [Bool.eq_iff_iff.2 h]
  exact ⟨rfl, rfl⟩
theorem plain_iff (r : Nat) : plainB r = true ↔ ¬ (r < 32 ∨ (127 ≤ r ∧ r ≤ 159) ∨ r = 8232 ∨ r = 8233 ∨ r = 65533) := by
  unfold plainB
  simp
  omega
theorem first_iff (r : Nat) : firstB r = true ↔ (97 ≤ r ∧ r ≤ 122) ∨ (65 ≤ r ∧ r ≤ 90) ∨ r = 95 := by
  unfold firstB
  simp
  omega
theorem other_iff (r : Nat) : otherB r = true ↔ (48 ≤ r ∧ r ≤ 57) ∨ r = 46 := by
  unfold otherB
  simp

set_option maxRecDepth 20000 in
set_option maxHeartbeats 1000000 in
theorem first_any (r : Nat) (w : World) : Calls Tryz.prog 86 #[.int .i32 (r : Nat)] w fun e w' => e = .returned (.bool (firstB r)) ∧ w' = w := by
  go_enter Tryz.func86, Tryz.ntmps86
  go_wp2
  all_goals go_ret
  all_goals refine ret_bool ?_
  all_goals rw [first_iff]
  all_goals simp
  all_goals omega
set_option maxRecDepth 20000 in
set_option maxHeartbeats 1000000 in
theorem other_any (r : Nat) (w : World) : Calls Tryz.prog 87 #[.int .i32 (r : Nat)] w fun e w' => e = .returned (.bool (otherB r)) ∧ w' = w := by
  go_enter Tryz.func87, Tryz.ntmps87
  go_wp2
  all_goals go_ret
  all_goals refine ret_bool ?_
  all_goals rw [other_iff]
  all_goals simp
  all_goals omega
theorem first_at (r : Nat) (b : Bool) (hb : firstB r = b) (w : World) : Calls Tryz.prog 86 #[.int .i32 (r : Nat)] w fun e w' => e = .returned (.bool b) ∧ w' = w := hb ▸ first_any r w
theorem other_at (r : Nat) (b : Bool) (hb : otherB r = b) (w : World) : Calls Tryz.prog 87 #[.int .i32 (r : Nat)] w fun e w' => e = .returned (.bool b) ∧ w' = w := hb ▸ other_any r w

def KeyRel (s : ByteArray) (pos : Nat) : Prop := keyAll (pos == 0) ((ls s).drop pos) = keyAll true (ls s)

set_option maxRecDepth 20000 in
set_option maxHeartbeats 2000000 in
theorem key_any (s : ByteArray) (w : World) :
    Calls Tryz.prog 69 #[.string s] w fun e w' => e = .returned (.bool (key (ls s))) ∧ Below w.heap.size w w' := by
  by_cases hlo : s.size < 1
  · have e : key (ls s) = false := by
      unfold key
      rw [ls_len]
      simp; omega
    rw [e]
    have k : (s.size : Int) < 1 := by omega
    go_enter Tryz.func69, Tryz.ntmps69
    go_wp2
    go_ret
    exact ⟨rfl, Below.refl _ _⟩
  have klo : ¬ ((s.size : Int) < 1) := by omega
  by_cases hhi : 64 < s.size
  · have e : key (ls s) = false := by
      unfold key
      rw [ls_len]
      simp; omega
    rw [e]
    have k : (64 : Int) < (s.size : Int) := by omega
    go_enter Tryz.func69, Tryz.ntmps69
    go_wp2
    go_ret
    exact ⟨rfl, Below.refl _ _⟩
  have khi : ¬ ((64 : Int) < (s.size : Int)) := by omega
  have hkey : key (ls s) = keyAll true (ls s) := by
    unfold key
    rw [ls_len]
    have e : (decide (1 ≤ s.size) && decide (s.size ≤ 64)) = true := by simp; omega
    rw [e, Bool.and_true]
  rw [hkey]
  clear hkey
  go_enter Tryz.func69, Tryz.ntmps69
  go_wp2
  go_loopw [] (fun wr => ∃ pos : Nat, wr.heap[w.heap.size]? = some (.stringIter s pos) ∧ Below w.heap.size w wr ∧ pos ≤ s.size ∧ KeyRel s pos) (fun wr => s.size - wr.iterPos w.heap.size)
  case atStart =>
    exact ⟨0, World.iter_heap w s 0, (Below.refl _ w).alloc (Nat.le_refl _) _, Nat.zero_le _, rfl⟩
  case round =>
    obtain ⟨pos, hit, hbw, hps, hrel⟩ := hrel
    by_cases hp : pos < s.size
    · obtain ⟨r, d, hdec, hdl, hd1, hd2, hr, hdd⟩ := at_pos s pos hp
      have hnx := nx_at Tryz.prog wr w.heap.size s pos r d hit hp hdec
      have hit2 := Lib.iterAt_heap wr w.heap.size s pos (pos + d) hit
      have hbw2 := Lib.below_iterAt hbw (k := w.heap.size) (Nat.le_refl _) s (pos + d)
      have hne := ls_drop_ne s pos hp
      have hst := key_step (pos == 0) _ hne
      rw [hdl] at hst
      simp only [hdd] at hst
      unfold KeyRel at hrel
      rw [hrel] at hst
      have e0 : (pos + d == 0) = false := beq_false_of_ne (by omega)
      have hnew : ∀ b, (firstB r || (!(pos == 0) && otherB r)) = b → keyAll true (ls s) = (b && keyAll (pos + d == 0) ((ls s).drop (pos + d))) := by
        intro b hb
        rw [hst, hb, e0]
      have HN := Lib.hid hnew
      clear hdec hdl hdd hst hrel hne e0 hnew
      obtain ⟨f, hf⟩ : ∃ f, firstB r = f := ⟨_, rfl⟩
      have c1 := first_at r f hf (wr.iterAt w.heap.size s (pos + d))
      cases f with
      | true =>
        have hN := un HN true (by rw [hf]; rfl)
        have HF := Lib.hid hN
        clear HN hf hN
        go_wp2_with (go_at_call 86; refine c1.mono ?_; rintro e w' ⟨rfl, rfl⟩)
        go_roundw
        case rel =>
          refine ⟨pos + d, hit2, hbw2, hd2, ?_⟩
          unfold KeyRel
          rw [un HF, Bool.true_and]
        case measure =>
          simp only [World.iterPos, hit2, hit]
          omega
      | false =>
        by_cases hz : pos = 0
        · have ez' : ((pos : Int) == 0) = true := by simp [hz]
          have hN := un HN false (by rw [hf, hz]; rfl)
          have HF := Lib.hid hN
          clear HN hf hN hz
          go_wp2_with (go_at_call 86; refine c1.mono ?_; rintro e w' ⟨rfl, rfl⟩)
          go_ret
          rw [un HF]
          exact ⟨rfl, hbw2⟩
        · have ez : (pos == 0) = false := beq_false_of_ne hz
          have ez' : ((pos : Int) == 0) = false := beq_false_of_ne (by omega)
          obtain ⟨o, ho⟩ : ∃ o, otherB r = o := ⟨_, rfl⟩
          have c2 := other_at r o ho (wr.iterAt w.heap.size s (pos + d))
          have hN := un HN o (by rw [hf, ho, ez]; rfl)
          have HF := Lib.hid hN
          clear HN hf hN ho ez
          cases o with
          | true =>
            go_wp2_with first
              | (go_at_call 86; refine c1.mono ?_; rintro e w' ⟨rfl, rfl⟩)
              | (go_at_call 87; refine c2.mono ?_; rintro e w' ⟨rfl, rfl⟩)
            go_roundw
            case rel =>
              refine ⟨pos + d, hit2, hbw2, hd2, ?_⟩
              unfold KeyRel
              rw [un HF, Bool.true_and]
            case measure =>
              simp only [World.iterPos, hit2, hit]
              omega
          | false =>
            go_wp2_with first
              | (go_at_call 86; refine c1.mono ?_; rintro e w' ⟨rfl, rfl⟩)
              | (go_at_call 87; refine c2.mono ?_; rintro e w' ⟨rfl, rfl⟩)
            go_ret
            rw [un HF]
            exact ⟨rfl, hbw2⟩
    · have hnx : ∀ ty, (Instr.next (.pointer (some ⟨w.heap.size, 0, none⟩)) true ty).run Tryz.prog wr = _ := fun ty => Lib.run_next_end_at (P := Tryz.prog) wr w.heap.size s pos ty hit hp
      have HR := Lib.hid hrel
      clear hrel
      go_wp2
      go_ret
      have h2 := un HR
      unfold KeyRel at h2
      rw [List.drop_of_length_le (by rw [ls_len]; omega)] at h2
      rw [← h2]
      exact ⟨rfl, hbw⟩
end Go.Proofs.YtdmibolbpgondaaGreat.T03
end

section
namespace Go.Proofs.YtdmibolbpgondaaGreat.T03
open Go.RowKit Go.Lib
def CleanRel (s : ByteArray) (pos : Nat) (acc : List UInt8) : Prop := acc ++ clean ((ls s).drop pos) = clean (ls s)

end Go.Proofs.YtdmibolbpgondaaGreat.T03
end

section
namespace Go.Proofs.YtdmibolbpgondaaGreat.T03
open Go.RowKit Go.Lib

theorem key_at (s : ByteArray) (b : Bool) (w : World) (hb : key (ls s) = b) : Calls Tryz.prog 69 #[.string s] w fun e w' => e = .returned (.bool b) ∧ Below w.heap.size w w' := hb ▸ key_any s w
theorem below_next {w w1 w2 : World} (h1 : Below w.heap.size w w1) (h2 : Below w1.heap.size w1 w2) : Below w.heap.size w w2 := h1.trans (h2.mono h1.size)

end Go.Proofs.YtdmibolbpgondaaGreat.T03
end

section
namespace Go.Proofs.YtdmibolbpgondaaGreat.T03
open Go.RowKit Go.Lib

def bt (s : ByteArray) (k : Nat) : Nat := (s.get! k).toNat
theorem bt_eq (s : ByteArray) (k : Nat) (h : k < s.size) : (s[k]'h).toNat = bt s k := by
  unfold bt
  have := get_at s k h
  rw [Nat.add_zero] at this
  rw [this]
theorem bt_lt (s : ByteArray) (k : Nat) : bt s k < 256 := (s.get! k).toNat_lt
theorem dec_bt (s : ByteArray) : Utf8.decode s 0 = decodeN s.size (bt s 0) (bt s 1) (bt s 2) (bt s 3) := by
  rw [decode_at]
  rfl
def acc (s : ByteArray) (r0 : Nat) : Nat → Nat
  | 0 => r0
  | k + 1 => acc s r0 k * 64 + bt s (k + 1) - 128
def RuneRel (s : ByteArray) (r0 j x : Nat) : Prop := x = acc s r0 j ∧ x < 32 * 64 ^ j ∧ ∀ i, i < j → 128 ≤ bt s (i + 1) ∧ bt s (i + 1) ≤ 191
theorem rune_start (s : ByteArray) (r0 : Nat) (h : r0 < 32) : RuneRel s r0 0 r0 := ⟨rfl, by omega, fun i h => by omega⟩
theorem rune_step {s : ByteArray} {r0 j x c : Nat} (h : RuneRel s r0 j x) (hc : bt s (j + 1) = c) (h1 : 128 ≤ c) (h2 : c ≤ 191) : RuneRel s r0 (j + 1) (x * 64 + c - 128) := by
  obtain ⟨e, hb, ha⟩ := h
  have e2 : acc s r0 (j + 1) = acc s r0 j * 64 + bt s (j + 1) - 128 := rfl
  refine ⟨by rw [e2, e, hc], ?_, fun i hi => ?_⟩
  · rw [Nat.pow_succ]
    generalize 64 ^ j = p at *
    omega
  · by_cases hij : i < j
    · exact ha i hij
    · have : i = j := by omega
      subst this
      rw [hc]
      exact ⟨h1, h2⟩
theorem rune_small {s : ByteArray} {r0 j x : Nat} (h : RuneRel s r0 j x) (hj : j ≤ 3) : x ≤ 8388607 := by
  have h1 := h.2.1
  have h2 : 64 ^ j ≤ 64 ^ 3 := Nat.pow_le_pow_right (by decide) hj
  have h3 : (64 : Nat) ^ 3 = 262144 := by decide
  rw [h3] at h2
  omega
theorem dN_bad {n b0 b1 b2 b3 : Nat} (h1 : ¬ b0 < 128) (h2 : ¬ (b0 / 32 = 6 ∧ 1 < n ∧ b1 / 64 = 2 ∧ 128 ≤ b0 % 32 * 64 + b1 % 64))
    (h3 : ¬ (b0 / 16 = 14 ∧ 2 < n ∧ b1 / 64 = 2 ∧ b2 / 64 = 2 ∧ 2048 ≤ b0 % 16 * 4096 + b1 % 64 * 64 + b2 % 64 ∧ (b0 % 16 * 4096 + b1 % 64 * 64 + b2 % 64 < 55296 ∨ 57344 ≤ b0 % 16 * 4096 + b1 % 64 * 64 + b2 % 64)))
    (h4 : ¬ (b0 / 8 = 30 ∧ 3 < n ∧ b1 / 64 = 2 ∧ b2 / 64 = 2 ∧ b3 / 64 = 2 ∧ 65536 ≤ b0 % 8 * 262144 + b1 % 64 * 4096 + b2 % 64 * 64 + b3 % 64 ∧ b0 % 8 * 262144 + b1 % 64 * 4096 + b2 % 64 * 64 + b3 % 64 ≤ 1114111)) :
    decodeN n b0 b1 b2 b3 = (65533, 1) := by
  rcases decodeN_shape n b0 b1 b2 b3 with ⟨c, e⟩ | ⟨a1, a2, a3, av, e⟩ | ⟨a1, a2, a3, a4, av, az, e⟩ | ⟨a1, a2, a3, a4, a5, av, aw, e⟩ | e
  · exact absurd c h1
  · exact absurd ⟨a1, a2, a3, av⟩ h2
  · exact absurd ⟨a1, a2, a3, a4, av, az⟩ h3
  · exact absurd ⟨a1, a2, a3, a4, a5, av, aw⟩ h4
  · exact e

theorem dec2_short (s : ByteArray) (h1 : 194 ≤ bt s 0) (h2 : bt s 0 < 224) (h : s.size < 2) : Utf8.decode s 0 = (65533, 1) := by
  rw [dec_bt]
  exact dN_bad (by omega) (by omega) (by omega) (by omega)
theorem dec2_cont (s : ByteArray) (j c : Nat) (h1 : 194 ≤ bt s 0) (h2 : bt s 0 < 224) (hj : j + 1 < 2) (hc : bt s (j + 1) = c) (h : c < 128 ∨ 191 < c) : Utf8.decode s 0 = (65533, 1) := by
  have k1 := bt_lt s (j + 1)
  rw [dec_bt]
  have : j = 0 := by omega
  rcases this with rfl <;> simp only [Nat.reduceAdd] at hc k1 <;> exact dN_bad (by omega) (by omega) (by omega) (by omega)
theorem two_val {n b0 b1 b2 b3 x : Nat} (h1 : 194 ≤ b0) (h2 : b0 < 224) (hn : 2 ≤ n) (e : x = (b0 - 192) * 64 + b1 - 128) (a1 : 128 ≤ b1) (a2 : b1 ≤ 191) : decodeN n b0 b1 b2 b3 = (x, 2) := by
  rw [dN_two (by omega) (by omega) (by omega) (by omega)]
  have : b0 % 32 * 64 + b1 % 64 = x := by omega
  rw [this]
theorem dec2_acc (s : ByteArray) (x : Nat) (h1 : 194 ≤ bt s 0) (h2 : bt s 0 < 224) (hn : 2 ≤ s.size) (h : RuneRel s (bt s 0 - 192) 1 x) :
    Utf8.decode s 0 = if x < 128 ∨ 1114111 < x ∨ (55296 ≤ x ∧ x < 57344) then (65533, 1) else (x, 2) := by
  obtain ⟨e, -, ha⟩ := h
  have a0 := ha 0 (by omega)
  have e' : x = (bt s 0 - 192) * 64 + bt s 1 - 128 := e
  have a1 : 128 ≤ bt s 1 := a0.1
  have a2 : bt s 1 ≤ 191 := a0.2
  have hno : ¬ (x < 128 ∨ 1114111 < x ∨ (55296 ≤ x ∧ x < 57344)) := by omega
  rw [dec_bt, two_val h1 h2 hn e' a1 a2, if_neg hno]

end Go.Proofs.YtdmibolbpgondaaGreat.T03
end

section
namespace Go.Proofs.YtdmibolbpgondaaGreat.T03
open Go.RowKit Go.Lib

theorem dec3_short (s : ByteArray) (h1 : 224 ≤ bt s 0) (h2 : bt s 0 < 240) (h : s.size < 3) : Utf8.decode s 0 = (65533, 1) := by
  rw [dec_bt]
  exact dN_bad (by omega) (by omega) (by omega) (by omega)
theorem dec3_cont (s : ByteArray) (j c : Nat) (h1 : 224 ≤ bt s 0) (h2 : bt s 0 < 240) (hj : j + 1 < 3) (hc : bt s (j + 1) = c) (h : c < 128 ∨ 191 < c) : Utf8.decode s 0 = (65533, 1) := by
  have k1 := bt_lt s (j + 1)
  rw [dec_bt]
  have : j = 0 ∨ j = 1 := by omega
  rcases this with rfl | rfl <;> simp only [Nat.reduceAdd] at hc k1 <;> exact dN_bad (by omega) (by omega) (by omega) (by omega)
theorem val3 {n b0 b1 b2 b3 x : Nat} (h1 : 224 ≤ b0) (h2 : b0 < 240) (hn : 3 ≤ n) (e : x = ((b0 - 224) * 64 + b1 - 128) * 64 + b2 - 128) (a1 : 128 ≤ b1) (z1 : b1 ≤ 191) (a2 : 128 ≤ b2) (z2 : b2 ≤ 191) :
    decodeN n b0 b1 b2 b3 = if x < 2048 ∨ 1114111 < x ∨ (55296 ≤ x ∧ x < 57344) then (65533, 1) else (x, 3) := by
  have hv : b0 % 16 * 4096 + b1 % 64 * 64 + b2 % 64 = x := by omega
  by_cases h : x < 2048 ∨ 1114111 < x ∨ (55296 ≤ x ∧ x < 57344)
  · rw [if_pos h]
    exact dN_bad (by omega) (by omega) (by omega) (by omega)
  · rw [if_neg h, dN_three (by omega) (by omega) (by omega) (by omega) (by omega) (by omega), hv]
theorem dec3_acc (s : ByteArray) (x : Nat) (h1 : 224 ≤ bt s 0) (h2 : bt s 0 < 240) (hn : 3 ≤ s.size) (h : RuneRel s (bt s 0 - 224) 2 x) :
    Utf8.decode s 0 = if x < 2048 ∨ 1114111 < x ∨ (55296 ≤ x ∧ x < 57344) then (65533, 1) else (x, 3) := by
  obtain ⟨e, -, ha⟩ := h
  rw [dec_bt]
  exact val3 h1 h2 hn e (ha 0 (by omega)).1 (ha 0 (by omega)).2 (ha 1 (by omega)).1 (ha 1 (by omega)).2

end Go.Proofs.YtdmibolbpgondaaGreat.T03
end

section
namespace Go.Proofs.YtdmibolbpgondaaGreat.T03
open Go.RowKit Go.Lib

theorem dec4_short (s : ByteArray) (h1 : 240 ≤ bt s 0) (h2 : bt s 0 < 245) (h : s.size < 4) : Utf8.decode s 0 = (65533, 1) := by
  rw [dec_bt]
  exact dN_bad (by omega) (by omega) (by omega) (by omega)
theorem dec4_cont (s : ByteArray) (j c : Nat) (h1 : 240 ≤ bt s 0) (h2 : bt s 0 < 245) (hj : j + 1 < 4) (hc : bt s (j + 1) = c) (h : c < 128 ∨ 191 < c) : Utf8.decode s 0 = (65533, 1) := by
  have k1 := bt_lt s (j + 1)
  rw [dec_bt]
  have : j = 0 ∨ j = 1 ∨ j = 2 := by omega
  rcases this with rfl | rfl | rfl <;> simp only [Nat.reduceAdd] at hc k1 <;> exact dN_bad (by omega) (by omega) (by omega) (by omega)
theorem val4 {n b0 b1 b2 b3 x : Nat} (h1 : 240 ≤ b0) (h2 : b0 < 245) (hn : 4 ≤ n) (e : x = (((b0 - 240) * 64 + b1 - 128) * 64 + b2 - 128) * 64 + b3 - 128) (a1 : 128 ≤ b1) (z1 : b1 ≤ 191) (a2 : 128 ≤ b2) (z2 : b2 ≤ 191) (a3 : 128 ≤ b3) (z3 : b3 ≤ 191) :
    decodeN n b0 b1 b2 b3 = if x < 65536 ∨ 1114111 < x ∨ (55296 ≤ x ∧ x < 57344) then (65533, 1) else (x, 4) := by
  have hv : b0 % 8 * 262144 + b1 % 64 * 4096 + b2 % 64 * 64 + b3 % 64 = x := by omega
  by_cases h : x < 65536 ∨ 1114111 < x ∨ (55296 ≤ x ∧ x < 57344)
  · rw [if_pos h]
    exact dN_bad (by omega) (by omega) (by omega) (by omega)
  · rw [if_neg h, dN_four (by omega) (by omega) (by omega) (by omega) (by omega) (by omega) (by omega), hv]
theorem dec4_acc (s : ByteArray) (x : Nat) (h1 : 240 ≤ bt s 0) (h2 : bt s 0 < 245) (hn : 4 ≤ s.size) (h : RuneRel s (bt s 0 - 240) 3 x) :
    Utf8.decode s 0 = if x < 65536 ∨ 1114111 < x ∨ (55296 ≤ x ∧ x < 57344) then (65533, 1) else (x, 4) := by
  obtain ⟨e, -, ha⟩ := h
  rw [dec_bt]
  exact val4 h1 h2 hn e (ha 0 (by omega)).1 (ha 0 (by omega)).2 (ha 1 (by omega)).1 (ha 1 (by omega)).2 (ha 2 (by omega)).1 (ha 2 (by omega)).2

end Go.Proofs.YtdmibolbpgondaaGreat.T03
end

section
namespace Go.Proofs.YtdmibolbpgondaaGreat.T03
open Go.RowKit Go.Lib
def RefCutRel (s : ByteArray) (n : Int) (pos : Nat) : Prop := pos + cutN (ps ((ls s).drop pos)) (n - pos) = cutN (ps (ls s)) n

end Go.Proofs.YtdmibolbpgondaaGreat.T03
end

section
namespace Go.Proofs.YtdmibolbpgondaaGreat.T03
open Go.RowKit Go.Lib

theorem str_app (a b : List UInt8) : str a ++ str b = str (a ++ b) := by
  apply ByteArray.ext
  simp
theorem ext_mid (s : ByteArray) (pos d : Nat) : s.extract pos (pos + d) = str (((ls s).drop pos).take d) := by
  rw [Lib.extract_eq]
  have : pos + d - pos = d := by omega
  rw [this]

end Go.Proofs.YtdmibolbpgondaaGreat.T03
end

section
namespace Go.Proofs.YtdmibolbpgondaaGreat.T03
open Go.RowKit Go.Lib

theorem drop_bt (s : ByteArray) (k : Nat) (h : k < s.size) : (ls s).drop k = (s[k]'h) :: (ls s).drop (k + 1) := by
  rw [List.drop_eq_getElem_cons (by rw [ls_len]; exact h)]
  rfl
theorem key_byte (s : ByteArray) (k : Nat) (h : k < s.size) (hrel : KeyRel s k) : keyAll true (ls s) = ((firstB (bt s k) || (!(k == 0) && otherB (bt s k))) && keyAll (k + 1 == 0) ((ls s).drop (k + 1))) := by
  unfold KeyRel at hrel
  rw [← hrel, drop_bt s k h, keyAll, bt_eq s k h]
  rfl

set_option maxRecDepth 20000 in
set_option maxHeartbeats 4000000 in
theorem refkey_any (s : ByteArray) (w : World) (hs : s.size ≤ 65536) :
    Calls Tryz.prog 34 #[.string s] w fun e w' => e = .returned (.bool (key (ls s))) ∧ w' = w := by
  go_enter Tryz.func34, Tryz.ntmps34
  go_wp2
  go_loop [3] (fun i => ∃ k : Nat, i = .int .i64 (k : Nat) ∧ k ≤ s.size ∧ KeyRel s k) (fun i => s.size - (RowKit.intOf i).toNat)
  case atStart => exact ⟨0, rfl, Nat.zero_le _, rfl⟩
  case round =>
    obtain ⟨k, rfl, hk, hrel⟩ := hrel
    by_cases hp : k < s.size
    · obtain ⟨c, hc⟩ : ∃ c, bt s k = c := ⟨_, rfl⟩
      obtain ⟨C, hC⟩ : ∃ C : Int, (c : Int) = C := ⟨_, rfl⟩
      have hcc : ((s[k]'hp).toNat : Int) = C := by rw [bt_eq, hc, hC]
      have hkb := key_byte s k hp hrel
      rw [hc] at hkb
      have hC0 : 0 ≤ C := by omega
      have hcont : (firstB c || (!(k == 0) && otherB c)) = true → KeyRel s (k + 1) := by
        intro h
        unfold KeyRel
        rw [hkb, h, Bool.true_and]
      have hstop : (firstB c || (!(k == 0) && otherB c)) = false → key (ls s) = false := by
        intro h
        unfold key
        rw [hkb, h, Bool.false_and, Bool.false_and]
      have Hcont := Lib.hid hcont
      have Hstop := Lib.hid hstop
      have HC := Lib.hid hC
      have hw1 : IntKind.wrap .i64 ((k : Int) + 1) = (k : Int) + 1 := wrap_small _ (by omega) (by omega)
      have hf := first_iff c
      have ho := other_iff c
      by_cases hfc : firstB c = true
      · have hcase := hf.1 hfc
        have hT : ((97 : Int) ≤ C ∧ C ≤ 122) ∨ (¬ ((97 : Int) ≤ C) ∧ (65 : Int) ≤ C ∧ C ≤ 90) ∨ (¬ ((97 : Int) ≤ C) ∧ (65 : Int) ≤ C ∧ ¬ (C ≤ 90) ∧ C = 95) := by omega
        have hgo := hcont (by rw [hfc]; rfl)
        have HG := Lib.hid hgo
        clear hcont hstop hC hkb hf ho hfc hcase hgo Hcont Hstop hc hrel
        rcases hT with ⟨t1, t2⟩ | ⟨t1, t2, t3⟩ | ⟨t1, t2, t3, t4⟩
        · go_wp2
          go_round
          case rel => exact ⟨k + 1, by go_num, by omega, un HG⟩
          case measure =>
            simp [RowKit.intOf]
            omega
        · go_wp2
          go_round
          case rel => exact ⟨k + 1, by go_num, by omega, un HG⟩
          case measure =>
            simp [RowKit.intOf]
            omega
        · have t5 : (C == 95) = true := by simp [t4]
          clear t4
          go_wp2
          go_round
          case rel => exact ⟨k + 1, by go_num, by omega, un HG⟩
          case measure =>
            simp [RowKit.intOf]
            omega
      · have hff : firstB c = false := Bool.eq_false_iff.2 hfc
        have hno : ¬ ((97 ≤ c ∧ c ≤ 122) ∨ (65 ≤ c ∧ c ≤ 90) ∨ c = 95) := fun h => hfc (hf.2 h)
        have t95 : (C == 95) = false := beq_false_of_ne (by omega)
        have hT : ((97 : Int) ≤ C ∧ ¬ (C ≤ 122) ∧ (65 : Int) ≤ C ∧ ¬ (C ≤ 90)) ∨ (¬ ((97 : Int) ≤ C) ∧ (65 : Int) ≤ C ∧ ¬ (C ≤ 90)) ∨ (¬ ((97 : Int) ≤ C) ∧ ¬ ((65 : Int) ≤ C)) := by omega
        by_cases hz : k = 0
        · have ez : ((k : Int) == 0) = true := by simp [hz]
          have hgo := hstop (by rw [hff, hz]; rfl)
          have HG := Lib.hid hgo
          clear hcont hstop hC hkb hf ho hfc hgo hff hno Hcont Hstop hc hrel hz
          rcases hT with ⟨t1, t2, t3, t4⟩ | ⟨t1, t2, t3⟩ | ⟨t1, t2⟩
          all_goals
            go_wp2
            go_ret
            rw [un HG]
            exact ⟨rfl, rfl⟩
        · have ez : ((k : Int) == 0) = false := beq_false_of_ne (by omega)
          have ezn : (k == 0) = false := beq_false_of_ne hz
          by_cases hoc : otherB c = true
          · have hcase := ho.1 hoc
            have hU : ((48 : Int) ≤ C ∧ C ≤ 57) ∨ (¬ ((48 : Int) ≤ C) ∧ C = 46) := by omega
            have k1 : ¬ ((97 : Int) ≤ C) := by omega
            have k2 : ¬ ((65 : Int) ≤ C) := by omega
            have hgo := hcont (by rw [hff, ezn, hoc]; rfl)
            have HG := Lib.hid hgo
            clear hcont hstop hC hkb hf ho hfc hgo hff hno Hcont Hstop hc hrel hz hcase hoc hT ezn
            rcases hU with ⟨t1, t2⟩ | ⟨t1, t2⟩
            · go_wp2
              go_round
              case rel => exact ⟨k + 1, by go_num, by omega, un HG⟩
              case measure =>
                simp [RowKit.intOf]
                omega
            · have t5 : (C == 46) = true := by simp [t2]
              clear t2
              go_wp2
              go_round
              case rel => exact ⟨k + 1, by go_num, by omega, un HG⟩
              case measure =>
                simp [RowKit.intOf]
                omega
          · have hof : otherB c = false := Bool.eq_false_iff.2 hoc
            have hno2 : ¬ ((48 ≤ c ∧ c ≤ 57) ∨ c = 46) := fun h => hoc (ho.2 h)
            have t46 : (C == 46) = false := beq_false_of_ne (by omega)
            have hU : ((97 : Int) ≤ C ∧ ¬ (C ≤ 122) ∧ (65 : Int) ≤ C ∧ ¬ (C ≤ 90) ∧ (48 : Int) ≤ C ∧ ¬ (C ≤ 57)) ∨ (¬ ((97 : Int) ≤ C) ∧ (65 : Int) ≤ C ∧ ¬ (C ≤ 90) ∧ (48 : Int) ≤ C ∧ ¬ (C ≤ 57)) ∨ (¬ ((97 : Int) ≤ C) ∧ ¬ ((65 : Int) ≤ C) ∧ (48 : Int) ≤ C ∧ ¬ (C ≤ 57)) ∨ (¬ ((97 : Int) ≤ C) ∧ ¬ ((65 : Int) ≤ C) ∧ ¬ ((48 : Int) ≤ C)) := by omega
            have hgo := hstop (by rw [hff, ezn, hof]; rfl)
            have HG := Lib.hid hgo
            clear hcont hstop hC hkb hf ho hfc hgo hff hno Hcont Hstop hc hrel hz hoc hof hno2 hT ezn
            rcases hU with ⟨t1, t2, t3, t4, t5, t6⟩ | ⟨t1, t2, t3, t4, t5⟩ | ⟨t1, t2, t3, t4⟩ | ⟨t1, t2, t3⟩
            all_goals
              go_wp2
              go_ret
              rw [un HG]
              exact ⟨rfl, rfl⟩
    · have h2 := hrel
      unfold KeyRel at h2
      rw [List.drop_of_length_le (by rw [ls_len]; omega)] at h2
      have h3 : key (ls s) = (decide (1 ≤ s.size) && decide (s.size ≤ 64)) := by
        unfold key
        rw [← h2, ls_len]
        rfl
      have H3 := Lib.hid h3
      clear hrel h2 h3
      by_cases h1 : (1 : Int) ≤ (s.size : Int)
      · by_cases h64 : (s.size : Int) ≤ 64
        · go_wp2
          go_ret
          rw [un H3, decide_eq_true (by omega : 1 ≤ s.size), decide_eq_true (by omega : s.size ≤ 64)]
          exact ⟨rfl, rfl⟩
        · go_wp2
          go_ret
          rw [un H3, decide_eq_true (by omega : 1 ≤ s.size), decide_eq_false (by omega : ¬ s.size ≤ 64)]
          exact ⟨rfl, rfl⟩
      · go_wp2
        go_ret
        rw [un H3, decide_eq_false (by omega : ¬ 1 ≤ s.size)]
        exact ⟨rfl, rfl⟩
end Go.Proofs.YtdmibolbpgondaaGreat.T03
end

section
namespace Go.Proofs.YtdmibolbpgondaaGreat.T03
open Go.RowKit Go.Lib

theorem refkey_at (s : ByteArray) (b : Bool) (w : World) (hs : s.size ≤ 65536) (hb : key (ls s) = b) : Calls Tryz.prog 34 #[.string s] w fun e w' => e = .returned (.bool b) ∧ w' = w := hb ▸ refkey_any s w hs
end Go.Proofs.YtdmibolbpgondaaGreat.T03
end
