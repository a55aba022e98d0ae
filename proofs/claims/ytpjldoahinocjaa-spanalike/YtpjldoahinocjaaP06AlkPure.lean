/-
  What is made alike stays as it is, and may be where it may: nothing of the program.
-/
import Derived.Test.YtpjldoahinocjaaP06Same
import Derived.Test.YtpjldoahinocjaaP06Check2
set_option linter.unusedSimpArgs false
set_option linter.unusedVariables false
namespace Go.Proofs.Ytpjldoahinocjaa.P06
open Go.Shelf Go.RowKit Go.Lib Go.Sort Go.Proofs.Ytpjldoahinocjaa.Wd Go.Proofs.Ytpjldoahinocjaa.V04

/-! ### labels -/
theorem clean_cut (l : List UInt8) (n : Int) : T03.clean (T03.cut (T03.clean l) n) = T03.cut (T03.clean l) n := by
  obtain ⟨k, h1, h2, _⟩ := T03.cut_told (T03.clean l) n
  rw [T03.ps_clean] at h1 h2
  have e : ((T03.ps l).map T03.cl).take k = (((T03.ps l).map T03.cl).take k).map T03.cl := by
    rw [← List.map_take, List.map_map]
    refine List.map_congr_left fun p _ => ?_
    exact (T03.cl_cl p).symm
  unfold T03.clean at h2 h1 ⊢
  rw [h2, ← e, ← h1]
theorem lab_lab (s : ByteArray) (n : Int) (hn : 1 ≤ n) : lab (lab s n) n = lab s n := by
  by_cases h0 : (T03.cut (T03.clean (T03.ls s)) n).length = 0
  · have e : lab s n = ⟨#[95]⟩ := by unfold lab; rw [if_pos h0]
    rw [e]
    have e1 : T03.clean (T03.ls ⟨#[95]⟩) = [95] := by decide
    have e2 : T03.cut [95] n = [95] := T03.cut_all [95] n (by simpa using hn)
    unfold lab
    rw [e1, e2, if_neg (by decide)]
  · have e : lab s n = T03.str (T03.cut (T03.clean (T03.ls s)) n) := by unfold lab; rw [if_neg h0]
    have e2 : T03.clean (T03.ls (lab s n)) = T03.cut (T03.clean (T03.ls s)) n := by rw [e, T03.ls_str, clean_cut]
    have e3 : T03.cut (T03.cut (T03.clean (T03.ls s)) n) n = T03.cut (T03.clean (T03.ls s)) n := by
      obtain ⟨k, _, _, _, h, _⟩ := T03.cut_told (T03.clean (T03.ls s)) n
      exact h
    generalize lab s n = t at *
    unfold lab
    rw [e2, e3, if_neg h0]
    exact e.symm
theorem alk_alk (s : Sp) (n : Int) (hn : 1 ≤ n) : alk (alk s n) n = alk s n := by
  unfold alk
  simp only [lab_lab _ n hn]

/-! ### attributes -/
theorem hasK_kb (key : ByteArray) (x : At) : hasK key x = decide (kb x = key.data.toList) := by
  unfold hasK kb
  rw [ByteArray.toList_eq, ByteArray.toList_eq, Bool.eq_iff_iff]
  simp
theorem Keep.has {l m : List At} (h : Keep l m) (key : ByteArray) : l.filter (hasK key) = m.filter (hasK key) := by
  have e : hasK key = fun x => decide (kb x = key.data.toList) := funext fun x => hasK_kb key x
  rw [e]
  exact h key.data.toList
theorem attr_find (l : List At) (key : ByteArray) : attrV l key = (match l.find? (hasK key) with | some x => vl x.K x.N x.S | none => vl 0 0 ⟨#[]⟩) ∧ attrB l key = (l.find? (hasK key)).isSome := by
  unfold attrV attrB
  cases hf : l.findIdx? (hasK key) with
  | none =>
    have e : l.find? (hasK key) = none := by
      rw [List.find?_eq_none]
      rw [List.findIdx?_eq_none_iff] at hf
      intro x hx
      rw [hf x hx]
      simp
    rw [e]
    exact ⟨rfl, rfl⟩
  | some i =>
    obtain ⟨h1, h2, h3⟩ := List.findIdx?_eq_some_iff_getElem.1 hf
    have e : l.find? (hasK key) = some l[i] := by
      rw [List.find?_eq_some_iff_getElem]
      exact ⟨h2, i, h1, rfl, fun j hj => by simpa using h3 j hj⟩
    rw [e]
    refine ⟨?_, rfl⟩
    simp only
    rw [getElem!_pos l i h1]
theorem attr_keep {l m : List At} (h : Keep l m) (key : ByteArray) : attrV m key = attrV l key ∧ attrB m key = attrB l key := by
  have e : m.find? (hasK key) = l.find? (hasK key) := by
    rw [← List.head?_filter, ← List.head?_filter, h.has key]
  rw [(attr_find m key).1, (attr_find m key).2, (attr_find l key).1, (attr_find l key).2, e]
  exact ⟨rfl, rfl⟩
theorem attr_in {l : List At} {i : Nat} (hi : i < l.length) : attrB l l[i].key = true := by
  rw [(attr_find l _).2, List.find?_isSome]
  exact ⟨l[i], List.getElem_mem hi, by simp [hasK]⟩

/-- told apart -/
def Apart (l : List At) : Prop := l.Pairwise fun x y => kb x ≠ kb y
theorem apart_one {l : List At} (h : Apart l) (k : List UInt8) : (l.filter fun x => decide (kb x = k)).length ≤ 1 := by
  induction l with
  | nil => simp
  | cons x l ih =>
    obtain ⟨h1, h2⟩ := List.pairwise_cons.1 h
    by_cases hx : kb x = k
    · rw [List.filter_cons_of_pos (by simpa using hx), filter_none fun y hy e => h1 y hy (hx.trans e.symm)]
      simp
    · rw [List.filter_cons_of_neg (by simpa using hx)]
      exact ih h2
theorem one_apart {l : List At} (h : ∀ k, (l.filter fun x => decide (kb x = k)).length ≤ 1) : Apart l := by
  induction l with
  | nil => exact List.Pairwise.nil
  | cons x l ih =>
    refine List.pairwise_cons.2 ⟨fun y hy e => ?_, ih fun k => ?_⟩
    · have h1 := h (kb x)
      rw [List.filter_cons_of_pos (by simp)] at h1
      have h2 : y ∈ l.filter fun z => decide (kb z = kb x) := List.mem_filter.2 ⟨hy, by simp [e]⟩
      have h3 : 0 < (l.filter fun z => decide (kb z = kb x)).length := List.length_pos_of_mem h2
      simp only [List.length_cons] at h1
      omega
    · have h1 := h k
      by_cases hx : kb x = k
      · rw [List.filter_cons_of_pos (by simpa using hx)] at h1
        simp only [List.length_cons] at h1
        omega
      · rw [List.filter_cons_of_neg (by simpa using hx)] at h1
        exact h1
theorem okAt_iff2 {l : List At} {i : Nat} (hi : i < l.length) : okAt l i hi ↔ (T03.key (T03.ls l[i].key) = true ∧ V04.right l[i].K l[i].N l[i].S = true ∧ ∀ j (hj : j < i), kb (l[j]'(by omega)) ≠ kb l[i]) := by
  have hself : hasK l[i].key l[i] = true := by simp [hasK]
  unfold okAt
  refine and_congr_right fun _ => and_congr_right fun _ => ?_
  constructor
  · intro h j hj e
    apply h
    have hq : hasK l[i].key (l[j]'(by omega)) = true := by rw [hasK_kb]; simpa [kb] using e
    unfold plc
    cases hf : l.findIdx? (hasK l[i].key) with
    | none =>
      rw [List.findIdx?_eq_none_iff] at hf
      have := hf _ (List.getElem_mem (show j < l.length by omega))
      rw [hq] at this
      cases this
    | some q =>
      obtain ⟨h1, h2, h3⟩ := List.findIdx?_eq_some_iff_getElem.1 hf
      show (q : Int) < (i : Int)
      rcases Nat.lt_or_ge j q with h | h
      · exact absurd hq (h3 j h)
      · omega
  · intro h hlt
    have := plc_hit hi hself (fun j hj => by
      rw [hasK_kb]
      have := h j hj
      simpa [kb] using this)
    omega
theorem amb_iff (l : List At) : Amb l ↔ (l.length ≤ 16 ∧ (∀ x ∈ l, T03.key (T03.ls x.key) = true ∧ V04.right x.K x.N x.S = true) ∧ Apart l) := by
  unfold Amb
  refine and_congr_right fun _ => ?_
  constructor
  · intro h
    refine ⟨fun x hx => ?_, ?_⟩
    · obtain ⟨i, hi, rfl⟩ := List.mem_iff_getElem.1 hx
      have := (okAt_iff2 hi).1 (h i hi)
      exact ⟨this.1, this.2.1⟩
    · refine List.pairwise_iff_getElem.2 fun i j hi hj hij => ?_
      exact ((okAt_iff2 hj).1 (h j hj)).2.2 i hij
  · rintro ⟨h1, h2⟩ i hi
    refine (okAt_iff2 hi).2 ⟨(h1 _ (List.getElem_mem hi)).1, (h1 _ (List.getElem_mem hi)).2, fun j hj => ?_⟩
    exact List.pairwise_iff_getElem.1 h2 j i (by omega) hi hj
theorem Amb.keep {l m : List At} (h : Amb l) (hk : Keep l m) (hl : m.length = l.length) : Amb m := by
  obtain ⟨h1, h2, h3⟩ := (amb_iff l).1 h
  refine (amb_iff m).2 ⟨by omega, fun x hx => h2 x (hk.symm.mem hx), one_apart fun k => ?_⟩
  rw [← hk k]
  exact apart_one h3 k

/-! ### the reason -/
theorem chk_vals (s : Sp) (b : Bool) : chk s b = 0 ∨ (50 ≤ chk s b ∧ chk s b ≤ 55) := by
  unfold chk
  repeat' split
  all_goals omega
theorem chk_alk {s : Sp} {n : Int} {b b' : Bool} (h1 : 1 ≤ n) (h2 : n ≤ 4096) (h : chk s b = 0) (hb : b = true → b' = true) : chk (alk s n) b' = 0 := by
  have hl : ∀ t : ByteArray, nmb (lab t n) = true := fun t => by
    have := lab_size t n h1
    unfold nmb
    rw [decide_eq_true_eq]
    omega
  unfold chk at h ⊢
  split at h
  · exact absurd h (by decide)
  rename_i g1
  split at h
  · exact absurd h (by decide)
  rename_i g2
  split at h
  · exact absurd h (by decide)
  rename_i g3
  split at h
  · exact absurd h (by decide)
  rename_i g4
  split at h
  · exact absurd h (by decide)
  rename_i g5
  split at h
  · exact absurd h (by decide)
  rename_i g6
  have hbt : b' = true := hb (by cases b <;> simp_all)
  rw [if_neg (by exact g1), if_neg (by exact g2), if_neg (by exact g3), if_neg (by exact g4), if_neg (by unfold alk; simp [hl]), if_neg (by simp [hbt])]
end Go.Proofs.Ytpjldoahinocjaa.P06
