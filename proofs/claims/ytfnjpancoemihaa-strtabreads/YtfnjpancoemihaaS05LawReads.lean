/-
  The walk of StrtabReads: the table of any bytes.
-/
import Derived.Test.YtfnjpancoemihaaS05Alive
import Derived.Test.YtfnjpancoemihaaS05RefRead
namespace Go.Proofs.Ytfnjpancoemihaa.S05
open Go.RowKit Go.Lib Go.Maps Go.Proofs.Ytfnjpancoemihaa.Wd Go.Proofs.Ytfnjpancoemihaa.V01

theorem ptr_nil (w : World) : (binOp .eql 24 (.pointer none) (.pointer none)).run Try.prog w = .ok (.bool true) w := by kernel_rfl

set_option maxRecDepth 20000 in
set_option maxHeartbeats 2000000 in
theorem reads_law (A : Option Addr) (c : Nat) (l : List UInt8) (w : World) (ha : Bs w A c l) (hlm : l.length ≤ maxLen) :
    Calls Try.prog 4 #[.slice A l.length c] w fun e w' => e = .returned (.bool true) ∧ Below w.heap.size w w' := by
  unfold maxLen at hlm
  by_cases hl : l.length ≤ 5000
  · obtain ⟨L, k, f, hr⟩ : ∃ L k f, readF l = (L, k, f) := ⟨_, _, _, rfl⟩
    go_enter Try.func4, Try.ntmps4
    go_wp2_with fail
    refine (alive_any _).mono ?_
    rintro e w1 ⟨rfl, hb1⟩
    have ha1 := ha.below hb1
    clear ha
    go_wp2_with fail
    refine (read_any A c _ l _ ha1 rfl (by omega)).mono ?_
    rintro e w2 ⟨hT, hb2⟩
    have ha2 := ha1.below hb2
    have hb2' := hb1.trans (hb2.mono hb1.size)
    rw [hr] at hT
    clear ha1 hb1
    rcases hT with ⟨he, rfl⟩ | ⟨he, p, o, rfl, hT, ho⟩
    · have he : f ≠ 0 := he
      go_wp2_with fail
      refine (refread_any A c _ l _ ha2 rfl (by omega)).mono ?_
      rintro e w3 ⟨hT, hb3⟩
      have hb3' := hb2'.trans (hb3.mono hb2'.size)
      rw [hr] at hT
      rcases hT with ⟨_, rfl⟩ | ⟨h, _⟩
      · have hne : ¬ ((f : Int) = 0) := by omega
        have hp := ptr_nil w3
        clear hb3 hb2 hb2' ha2 hr
        go_wp2
        go_ret
        exact ⟨rfl, hb3'⟩
      · exact absurd h he
    · have he : f = 0 := he
      subst he
      go_wp2_with fail
      refine (refread_any A c _ l _ ha2 rfl (by omega)).mono ?_
      rintro e w3 ⟨hT2, hb3⟩
      have hb3' := hb2'.trans (hb3.mono hb2'.size)
      have hT3 := hT.below hb3
      rw [hr] at hT2
      rcases hT2 with ⟨h, _⟩ | ⟨_, A3, c3, rfl, hown⟩
      · exact absurd rfl h
      · have hS : Ss w3 A3 c3 L := Ss.own hown
        have hsh := shows_any w3 p L o A3 c3 L.length hT3 hS rfl
        clear hb3 hb2 hb2' ha2 hr hown hS hT hT3 ho
        generalize L.length = n at *
        go_wp2_with fail
        refine hsh.mono ?_
        rintro e w4 ⟨rfl, rfl⟩
        go_wp2
        go_ret
        exact ⟨rfl, hb3'⟩
  · have h1 : (5000 : Int) < l.length := by omega
    go_enter Try.func4, Try.ntmps4
    go_wp2_with fail
    refine (alive_any _).mono ?_
    rintro e w1 ⟨rfl, hb1⟩
    go_wp2
    go_ret
    exact ⟨rfl, hb1⟩
end Go.Proofs.Ytfnjpancoemihaa.S05
