/-
  Where an attribute stands: slices.IndexFunc, place, Attr.
-/
import Derived.Test.YtpjldoahinocjaaP06Cmp2
set_option linter.unusedSimpArgs false
set_option linter.unusedVariables false
namespace Go.Proofs.Ytpjldoahinocjaa.P06
open Go.Shelf Go.RowKit Go.Lib Go.Sort Go.Proofs.Ytpjldoahinocjaa.Wd Go.Proofs.Ytpjldoahinocjaa.V04

/-- has it the key? -/
def hasK (key : ByteArray) (x : At) : Bool := x.key.toList == key.toList
theorem place1_any (x : At) (key : ByteArray) (g : Nat) (w : World) (h : w.cell? ⟨g, 0, none⟩ = some (.string key)) :
    Calls Try.prog 47 #[.agg #[.string x.key, .int .i64 x.K, .int .i64 x.N, .string x.S], .pointer (some ⟨g, 0, none⟩)] w fun e w' => e = .returned (.bool (hasK key x)) ∧ Below w.heap.size w w' := by
  have h2 : (w.alloc (abox 53 x)).cell? ⟨g, 0, none⟩ = some (.string key) := by rw [(below_box w (abox 53 x) (Nat.le_refl _)).cell (World.block_lt_of_cell? _ _ h)]; exact h
  go_enter Try.func47, Try.ntmps47
  go_wp2
  go_ret
  exact ⟨rfl, by go_grown⟩

/-- where the first with the key stands, -1 if there is none -/
def plc (l : List At) (key : ByteArray) : Int := match l.findIdx? (hasK key) with
  | some i => (i : Int)
  | none => -1
theorem plc_hit {l : List At} {key : ByteArray} {k : Nat} (hk : k < l.length) (h : hasK key l[k] = true) (hb : ∀ j (hj : j < k), hasK key (l[j]'(by omega)) = false) : plc l key = (k : Int) := by
  have : l.findIdx? (hasK key) = some k := by
    rw [List.findIdx?_eq_some_iff_getElem]
    exact ⟨hk, h, fun j hj => by simp [hb j hj]⟩
  unfold plc
  rw [this]
theorem plc_miss {l : List At} {key : ByteArray} (hb : ∀ j (hj : j < l.length), hasK key l[j] = false) : plc l key = -1 := by
  have : l.findIdx? (hasK key) = none := by
    rw [List.findIdx?_eq_none_iff]
    intro x hx
    obtain ⟨j, hj, rfl⟩ := List.mem_iff_getElem.1 hx
    exact hb j hj
  unfold plc
  rw [this]

set_option maxRecDepth 20000 in
set_option maxHeartbeats 2000000 in
theorem indexf_any (A : Option Addr) (c : Nat) (l : List At) (key : ByteArray) (g : Nat) (w : World) (h : Hd 0 w A c l) (hm : l.length ≤ 40) (hg : w.cell? ⟨g, 0, none⟩ = some (.string key)) :
    Calls Try.prog 46 #[.slice A l.length c, .func (.func 47) #[] #[.pointer (some ⟨g, 0, none⟩)]] w fun e w' => e = .returned (.int .i64 (plc l key)) ∧ Below w.heap.size w w' := by
  obtain ⟨n, hn⟩ : ∃ n, l.length = n := ⟨_, rfl⟩
  have HN := Lib.hid hn
  rw [hn] at hm ⊢
  clear hn
  have hgl := World.block_lt_of_cell? _ _ hg
  have HP : Hid (∀ k (hk : k < l.length), hasK key l[k] = true → (∀ j (hj : j < k), hasK key (l[j]'(by omega)) = false) → plc l key = (k : Int)) := fun k hk h hb => plc_hit hk h hb
  have HM : Hid ((∀ j (hj : j < l.length), hasK key l[j] = false) → plc l key = -1) := fun hb => plc_miss hb
  generalize plc l key = r at *
  go_enter Try.func46, Try.ntmps46
  go_wp2
  go_loopw [8] (fun v wr => ∃ k : Nat, v = .int .i64 k ∧ k ≤ n ∧ Below w.heap.size w wr ∧ Hid (∀ j (hj : j < l.length), j < k → hasK key l[j] = false)) (fun v _ => n - (intOf v).toNat)
  case atStart => exact ⟨0, rfl, Nat.zero_le _, Below.refl _ _, fun j hj h => absurd h (by omega)⟩
  case round =>
    obtain ⟨k, rfl, hk, hb, HI⟩ := hrel
    by_cases hlt : k < n
    · have hltz : (k : Int) < (n : Int) := by omega
      have hkl : k < l.length := by rw [un HN]; exact hlt
      obtain ⟨g1, rfl, _, hg1, F⟩ := (h.below hb).get hkl
      have f0 := F.c0
      have f1 := F.c1
      have f2 := F.c2
      have f3 := F.c3
      have hc := place1_any l[k] key g wr ((hb.cell (p := ⟨g, 0, none⟩) hgl).trans hg)
      have HX : Hid (l[k] = l[k]) := rfl
      obtain ⟨x, hx⟩ : ∃ x, l[k] = x := ⟨_, rfl⟩
      rw [hx] at f0 f1 f2 f3 hc
      have HE := Lib.hid hx
      clear F hx HX
      obtain ⟨b, hbb⟩ : ∃ b, hasK key x = b := ⟨_, rfl⟩
      rw [hbb] at hc
      have HB := Lib.hid hbb
      clear hbb
      cases b with
      | true =>
        go_wp2_with fail
        refine hc.mono ?_
        rintro e w2 ⟨rfl, hb2⟩
        go_wp2
        go_ret
        refine ⟨?_, hb.trans (hb2.mono hb.size)⟩
        rw [un HP k hkl (by rw [un HE]; exact un HB) (fun j hj => un HI j (by omega) hj)]
        rfl
      | false =>
        go_wp2_with fail
        refine hc.mono ?_
        rintro e w2 ⟨rfl, hb2⟩
        go_wp2
        go_roundw
        case rel =>
          refine ⟨k + 1, by go_num, by omega, hb.trans (hb2.mono hb.size), fun j hj hjk => ?_⟩
          by_cases e : j = k
          · subst e; rw [un HE]; exact un HB
          · exact un HI j hj (by omega)
        case measure => simp [intOf]; omega
    · have hltz : ¬ ((k : Int) < (n : Int)) := by omega
      go_wp2
      go_ret
      refine ⟨?_, hb⟩
      rw [un HM fun j hj => un HI j hj (by have := un HN; omega)]
      rfl
set_option maxRecDepth 20000 in
theorem place_any (A : Option Addr) (c n : Nat) (l : List At) (key : ByteArray) (w : World) (h : Hd 0 w A c l) (hn : l.length = n) (hm : n ≤ 40) :
    Calls Try.prog 30 #[.slice A n c, .string key] w fun e w' => e = .returned (.int .i64 (plc l key)) ∧ Below w.heap.size w w' := by
  have hc := indexf_any A c l key w.heap.size (w.alloc (.cells #[.string key] 9)) (h.below (below_box _ _ (Nat.le_refl _))) (by omega) (by simp)
  rw [hn] at hc
  have b0 := below_box w (.cells #[.string key] 9) (Nat.le_refl _)
  clear h hn
  go_enter Try.func30, Try.ntmps30
  go_wp2_with (go_at_call 46; refine hc.mono ?_; rintro e w2 ⟨rfl, hb2⟩)
  go_ret
  exact ⟨rfl, b0.trans (hb2.mono b0.size)⟩
end Go.Proofs.Ytpjldoahinocjaa.P06
