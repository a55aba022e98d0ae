/-
  What Open does, and the chapter's example.
-/
import Derived.Test.YtghdojiffooilaaDoorC02Told
import Derived.Test.YtghdojiffooilaaDoorCopyRd
import Derived.Deep.QuietTactic
import Derived.BigQuiet
import Derived.Lib.SlBytesConst
namespace Go.Proofs.YtghdojiffooilaaDoor.C02
open Go.RowKit Go.Lib Go.Proofs.YtghdojiffooilaaDoor.Wd

def openF (l : List UInt8) : List UInt8 × Nat :=
  if l.length < 4 then ([], 10) else if toldN (l.drop (l.length - 4)) = sumOf (l.take (l.length - 4)) then (l.take (l.length - 4), 0) else ([], 12)

theorem told_same (A : Option Addr) (c : Nat) (l : List UInt8) (r : Nat) (w : World) (ha : Bs w A c l) (hlen : l.length = 4) (hr : toldN l = r) :
    Calls Tryd.prog 23 #[.slice A 4 c] w fun e w' => e = .returned (.int .u32 (r : Nat)) ∧ w' = w := (told_at A c l r w ha hlen hr).mono fun _ _ h => ⟨h.1, h.2.symm⟩
theorem sum_same (A : Option Addr) (c len : Nat) (l : List UInt8) (r : Nat) (w : World) (hT : Tb w) (ha : Bs w A c l) (hlen : l.length = len) (hl : len ≤ 65536) (hr : sumOf l = r) :
    Calls Tryd.prog 24 #[.slice A len c] w fun e w' => e = .returned (.int .u32 (r : Nat)) ∧ w' = w := (sum_at A c len l r w hT ha hlen hl hr).mono fun _ _ h => ⟨h.1, h.2.symm⟩

set_option maxRecDepth 20000 in
set_option maxHeartbeats 1000000 in
theorem open_short (A : Option Addr) (c len : Nat) (w : World) (h : len < 4) :
    Calls Tryd.prog 15 #[.slice A len c] w fun e w' => e = .returned (.tuple #[.slice none 0 0, .int .i64 10]) ∧ w = w' := by
  have h1 : (len : Int) < 4 := by omega
  go_enter Tryd.func15, Tryd.ntmps15
  go_wp2
  go_ret2
  exact ⟨rfl, rfl⟩

set_option maxRecDepth 20000 in
set_option maxHeartbeats 1000000 in
theorem open_long (A : Option Addr) (c k : Nat) (l : List UInt8) (t s : Nat) (w : World) (hT : Tb w) (ha : Bs w A c l) (hk : l.length = k + 4) (hl : k ≤ 65000) (ht : toldN (l.drop k) = t) (hs : sumOf (l.take k) = s) :
    Calls Tryd.prog 15 #[.slice A (k + 4) c] w fun e w' =>
      (t ≠ s ∧ e = .returned (.tuple #[.slice none 0 0, .int .i64 12]) ∧ Below w.heap.size w w') ∨
      (t = s ∧ ∃ A' c', e = .returned (.tuple #[.slice A' k c', .int .i64 0]) ∧ w'.ownsRow w.heap.size 5 1 (.slice A' k c') k (byteCells (l.take k)) ∧ Below w.heap.size w w') := by
  obtain ⟨i0, hi, hz0, hz1, hz2⟩ := info_parts byte_info
  have hc := ha.cap
  have hcm := ha.max
  unfold maxLen at hcm
  have hck : ¬ c = k := by omega
  have q1 := ha.drop k (by omega)
  have q2 := ha.take k (by omega)
  unfold cutA at q1
  rw [if_neg hck] at q1
  have c1 := fun n => told_same _ _ _ t (w.drewN n) (q1.drewN n) (by simp; omega) ht
  have c2 := fun n => sum_same A c k _ s (w.drewN n) hT (q2.drewN n) (by simp; omega) (by omega) hs
  have hsize : (Tryd.prog.info? 5).map (·.size) = some 1 := by kernel_rfl
  by_cases hts : t = s
  · subst hts
    have p1 : (0 : Int) ≤ (k : Int) := by omega
    have p2 : (k : Int) ≤ (k : Int) + 4 := by omega
    have p3 : (k : Int) ≤ (c : Int) := by omega
    have p4 : (k : Int).toNat = k := by omega
    have p5 : (k : Int) ≤ ((k + 4 : Nat) : Int) := by omega
    go_enter Tryd.func15, Tryd.ntmps15
    go_wp2_with fail
    go_quiet (first | (go_at_call 23; exact Calls.quiet_of_same (c1 _)) | (go_at_call 24; exact Calls.quiet_of_same (c2 _)))
    clear c1 c2 q1 q2 p1 p2 p3 p4 p5 hT ht hs
    have hb0 : Below w.heap.size w (w.drewN nq) := below_dn (Below.refl _ _) _
    have ha0 := ha.drewN nq
    generalize w.drewN nq = w0 at *
    go_wp2_with (at_make; refine wpList_make_full _ rfl _ _ 22 rfl w.heap.size 5 i0 _ 1 Tryd.underlying22 hi hz0 hz1 _ _ _ _ k rfl rfl ?c0 ?c1 ?c2 ?c3 ?c4 ?_)
    case c0 => rfl
    case c1 => rfl
    case c2 => rw [hz2]; omega
    case c3 => unfold maxLen; omega
    case c4 => exact hb0.size
    intro w1 hown1 hg1
    have hb1 : Below w.heap.size w w1 := hb0.grown hg1 hb0.size (by simp)
    have ha1 := ha0.below ((Below.refl _ _).grown hg1 (Nat.le_refl _) (by simp))
    have hr1 : Rd 1 w1 A (k + 4) c (byteCells l) := by have := ha1; unfold Bs at this; rw [hk] at this; exact this
    clear hg1 hb0 ha0 ha1 ha
    go_wp2_with (with_reducible refine wpList_copy_rd rfl (.tmp 23) (.tmp 24) 22 22 rfl 5 Tryd.underlying22 hsize w.heap.size _ k _ rfl hown1 A (k + 4) c rfl (byteCells l) hr1 (Nat.le_add_right _ _) (bc_one l) w hb1 ?_)
    intro w2 hown2 hb2
    have hB : w2.ownsRow w.heap.size 5 1 (.slice (some ⟨w0.heap.size, 0, none⟩) k k) k (byteCells (l.take k)) := by
      have e1 : (byteCells l).take k = byteCells (l.take k) := by simp [byteCells]
      rw [← e1]
      exact hown2
    clear hown2 hr1 hown1 hb1
    go_wp2
    go_ret2
    exact .inr ⟨trivial, _, _, rfl, hB, hb2⟩
  · have p1 : (0 : Int) ≤ (k : Int) := by omega
    have p2 : (k : Int) ≤ (k : Int) + 4 := by omega
    have p3 : (k : Int) ≤ (c : Int) := by omega
    have p4 : (k : Int).toNat = k := by omega
    have p5 : (k : Int) ≤ ((k + 4 : Nat) : Int) := by omega
    go_enter Tryd.func15, Tryd.ntmps15
    go_wp2_with fail
    go_quiet (first | (go_at_call 23; exact Calls.quiet_of_same (c1 _)) | (go_at_call 24; exact Calls.quiet_of_same (c2 _)))
    go_wp2
    go_ret2
    exact .inl ⟨hts, rfl, below_dn (Below.refl _ _) _⟩

/-- what is opened is a row of its own -/
theorem open_own (A : Option Addr) (c len e : Nat) (l r : List UInt8) (w : World) (hT : Tb w) (ha : Bs w A c l) (hlen : l.length = len) (hl : len ≤ 65000) (hr : openF l = (r, e)) :
    Calls Tryd.prog 15 #[.slice A len c] w fun x w' => ∃ A' c', x = .returned (.tuple #[.slice A' r.length c', .int .i64 (e : Nat)]) ∧ w'.ownsRow w.heap.size 5 1 (.slice A' r.length c') r.length (byteCells r) ∧ Below w.heap.size w w' := by
  unfold openF at hr
  by_cases h : len < 4
  · rw [if_pos (by omega)] at hr
    injection hr with h1 h2
    subst h1; subst h2
    refine (open_short A c len w h).mono ?_
    rintro x w1 ⟨rfl, rfl⟩
    exact ⟨none, 0, rfl, World.ownsRow_nil _ _ _ _, Below.refl _ _⟩
  · obtain ⟨k, rfl⟩ : ∃ k, len = k + 4 := ⟨len - 4, by omega⟩
    rw [if_neg (by omega), hlen, Nat.add_sub_cancel] at hr
    refine (open_long A c k l _ _ w hT ha hlen (by omega) rfl rfl).mono ?_
    rintro x w1 (⟨hne, rfl, hb⟩ | ⟨heq, A', c', rfl, hB, hb⟩)
    · rw [if_neg hne] at hr
      injection hr with h1 h2
      subst h1; subst h2
      exact ⟨none, 0, rfl, World.ownsRow_nil _ _ _ _, hb⟩
    · rw [if_pos heq] at hr
      injection hr with h1 h2
      subst h1; subst h2
      have hk : (l.take k).length = k := by simp; omega
      exact ⟨A', c', by rw [hk]; rfl, by rw [hk]; exact hB, hb⟩
theorem open_at (A : Option Addr) (c len e : Nat) (l r : List UInt8) (w : World) (hT : Tb w) (ha : Bs w A c l) (hlen : l.length = len) (hl : len ≤ 65000) (hr : openF l = (r, e)) :
    Calls Tryd.prog 15 #[.slice A len c] w fun x w' => ∃ A' c', x = .returned (.tuple #[.slice A' r.length c', .int .i64 (e : Nat)]) ∧ Bs w' A' c' r ∧ Below w.heap.size w w' :=
  (open_own A c len e l r w hT ha hlen hl hr).mono fun _ _ ⟨A', c', h1, h2, h3⟩ => ⟨A', c', h1, Bs.own h2, h3⟩

theorem alive1 : openF [0, 0, 0] = ([], 10) := by decide
theorem alive2 : openF [1, 0, 0, 0, 0] = ([], 12) := by decide +kernel
theorem alive3 : sumOf [49, 50, 51, 52, 53, 54, 55, 56, 57] = 3421780262 := by decide +kernel
end Go.Proofs.YtghdojiffooilaaDoor.C02
