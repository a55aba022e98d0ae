/-
  Texts as runes, in plain Lean: the pieces of a list of bytes by the model's own decoding, and what follows: right, count, clean, cut, key.
-/
import Derived.Lib.MapLaws
namespace Go.Proofs.YtdmibolbpgondaaGreat.T03
open Go.Lib

/-! ### what the first rune hangs on -/
theorem dN_two {n b0 b1 b2 b3 : Nat} (h0 : b0 / 32 = 6) (hn : 1 < n) (h1 : b1 / 64 = 2) (hv : 128 ≤ b0 % 32 * 64 + b1 % 64) : decodeN n b0 b1 b2 b3 = (b0 % 32 * 64 + b1 % 64, 2) := by
  unfold decodeN
  rw [if_neg (by omega), if_pos ⟨h0, hn, h1⟩, if_pos hv]
theorem dN_three {n b0 b1 b2 b3 : Nat} (h0 : b0 / 16 = 14) (hn : 2 < n) (h1 : b1 / 64 = 2) (h2 : b2 / 64 = 2) (hv : 2048 ≤ b0 % 16 * 4096 + b1 % 64 * 64 + b2 % 64)
    (hs : b0 % 16 * 4096 + b1 % 64 * 64 + b2 % 64 < 55296 ∨ 57344 ≤ b0 % 16 * 4096 + b1 % 64 * 64 + b2 % 64) : decodeN n b0 b1 b2 b3 = (b0 % 16 * 4096 + b1 % 64 * 64 + b2 % 64, 3) := by
  unfold decodeN
  rw [if_neg (by omega), if_neg (by omega), if_pos ⟨h0, ⟨by omega, h1⟩, hn, h2⟩, if_pos ⟨hv, by omega⟩]
theorem dN_four {n b0 b1 b2 b3 : Nat} (h0 : b0 / 8 = 30) (hn : 3 < n) (h1 : b1 / 64 = 2) (h2 : b2 / 64 = 2) (h3 : b3 / 64 = 2) (hv : 65536 ≤ b0 % 8 * 262144 + b1 % 64 * 4096 + b2 % 64 * 64 + b3 % 64)
    (hs : b0 % 8 * 262144 + b1 % 64 * 4096 + b2 % 64 * 64 + b3 % 64 ≤ 1114111) : decodeN n b0 b1 b2 b3 = (b0 % 8 * 262144 + b1 % 64 * 4096 + b2 % 64 * 64 + b3 % 64, 4) := by
  unfold decodeN
  rw [if_neg (by omega), if_neg (by omega), if_neg (by omega), if_pos ⟨h0, ⟨by omega, h1⟩, ⟨by omega, h2⟩, hn, h3⟩, if_pos ⟨hv, by omega⟩]
theorem dN_one {n b0 b1 b2 b3 : Nat} (h : b0 < 128) : decodeN n b0 b1 b2 b3 = (b0, 1) := by
  unfold decodeN
  rw [if_pos h]

/-- a right one stays, whatever follows -/
theorem dN_more {n m b0 b1 b2 b3 c0 c1 c2 c3 : Nat} (hnm : n ≤ m) (e0 : b0 = c0) (e1 : 1 < n → b1 = c1) (e2 : 2 < n → b2 = c2) (e3 : 3 < n → b3 = c3)
    (hv : ¬ ((decodeN n b0 b1 b2 b3).1 = 65533 ∧ (decodeN n b0 b1 b2 b3).2 = 1)) : decodeN m c0 c1 c2 c3 = decodeN n b0 b1 b2 b3 := by
  subst e0
  rcases decodeN_shape n b0 b1 b2 b3 with ⟨c, e⟩ | ⟨a1, a2, a3, av, e⟩ | ⟨a1, a2, a3, a4, av, as, e⟩ | ⟨a1, a2, a3, a4, a5, av, aw, e⟩ | e
  · rw [e, dN_one c]
  · have k1 := e1 a2; subst k1
    rw [e, dN_two a1 (by omega) a3 av]
  · have k1 := e1 (by omega); subst k1
    have k2 := e2 (by omega); subst k2
    rw [e, dN_three a1 (by omega) a3 a4 av as]
  · have k1 := e1 (by omega); subst k1
    have k2 := e2 (by omega); subst k2
    have k3 := e3 (by omega); subst k3
    rw [e, dN_four a1 (by omega) a3 a4 a5 av aw]
  · exact absurd (by rw [e]; exact ⟨rfl, rfl⟩) hv
/-- what lies behind the first rune's bytes does not matter -/
theorem dN_less {n m b0 b1 b2 b3 c0 c1 c2 c3 : Nat} (hnm : n ≤ m) (e0 : b0 = c0) (e1 : 1 < n → b1 = c1) (e2 : 2 < n → b2 = c2) (e3 : 3 < n → b3 = c3)
    (hw : (decodeN m c0 c1 c2 c3).2 ≤ n) : decodeN n b0 b1 b2 b3 = decodeN m c0 c1 c2 c3 := by
  by_cases hv : (decodeN n b0 b1 b2 b3).1 = 65533 ∧ (decodeN n b0 b1 b2 b3).2 = 1
  · have hn : decodeN n b0 b1 b2 b3 = (65533, 1) := Prod.ext hv.1 hv.2
    subst e0
    rcases decodeN_shape m b0 c1 c2 c3 with ⟨c, e⟩ | ⟨a1, a2, a3, av, e⟩ | ⟨a1, a2, a3, a4, av, as, e⟩ | ⟨a1, a2, a3, a4, a5, av, aw, e⟩ | e
    · rw [e, dN_one c]
    · rw [e] at hw ⊢
      have k1 := e1 (by simp only at hw; omega); subst k1
      rw [dN_two a1 (by simp only at hw; omega) a3 av]
    · rw [e] at hw ⊢
      simp only at hw
      have k1 := e1 (by omega); subst k1
      have k2 := e2 (by omega); subst k2
      rw [dN_three a1 (by omega) a3 a4 av as]
    · rw [e] at hw ⊢
      simp only at hw
      have k1 := e1 (by omega); subst k1
      have k2 := e2 (by omega); subst k2
      have k3 := e3 (by omega); subst k3
      rw [dN_four a1 (by omega) a3 a4 a5 av aw]
    · rw [hn, e]
  · exact (dN_more hnm e0 e1 e2 e3 hv).symm

theorem getD_app (x y : List UInt8) (i : Nat) (h : i < x.length) : x.getD i 0 = (x ++ y).getD i 0 := by
  simp [List.getD_eq_getElem?_getD, List.getElem?_append_left h]
theorem dec_app (x y : List UInt8) (hx : x ≠ []) (hv : ¬ ((decodeL x).1 = 65533 ∧ (decodeL x).2 = 1)) : decodeL (x ++ y) = decodeL x := by
  have hl : 0 < x.length := List.length_pos_iff.2 hx
  rw [decodeL_N] at hv
  rw [decodeL_N, decodeL_N x]
  exact dN_more (by simp) (congrArg _ (getD_app x y 0 hl)) (fun h => congrArg _ (getD_app x y 1 h)) (fun h => congrArg _ (getD_app x y 2 h)) (fun h => congrArg _ (getD_app x y 3 h)) hv
theorem dec_pre (x y : List UInt8) (hx : x ≠ []) (hw : (decodeL (x ++ y)).2 ≤ x.length) : decodeL x = decodeL (x ++ y) := by
  have hl : 0 < x.length := List.length_pos_iff.2 hx
  rw [decodeL_N] at hw
  rw [decodeL_N x, decodeL_N (x ++ y)]
  exact dN_less (by simp) (congrArg _ (getD_app x y 0 hl)) (fun h => congrArg _ (getD_app x y 1 h)) (fun h => congrArg _ (getD_app x y 2 h)) (fun h => congrArg _ (getD_app x y 3 h)) hw

theorem dec_ascii (b : UInt8) (t : List UInt8) (h : b.toNat < 128) : decodeL (b :: t) = (b.toNat, 1) := by
  rw [decodeL_N]
  exact dN_one h

/-! ### the pieces -/
def psGo : Nat → List UInt8 → List (Nat × List UInt8)
  | 0, _ => []
  | f + 1, l => if l = [] then [] else ((decodeL l).1, l.take (decodeL l).2) :: psGo f (l.drop (decodeL l).2)
def ps (l : List UInt8) : List (Nat × List UInt8) := psGo l.length l

theorem psGo_nil : ∀ n, psGo n [] = []
  | 0 => rfl
  | _ + 1 => by simp [psGo]
theorem psGo_fuel : ∀ (n m : Nat) (l : List UInt8), l.length ≤ n → l.length ≤ m → psGo n l = psGo m l
  | 0, m, l, hn, _ => by
    have : l = [] := List.eq_nil_of_length_eq_zero (by omega)
    subst this
    rw [psGo_nil, psGo_nil]
  | n + 1, 0, l, _, hm => by
    have : l = [] := List.eq_nil_of_length_eq_zero (by omega)
    subst this
    rw [psGo_nil, psGo_nil]
  | n + 1, m + 1, l, hn, hm => by
    unfold psGo
    by_cases hne : l = []
    · simp [hne]
    · have hw := decodeL_width l
      rw [if_neg hne, if_neg hne, psGo_fuel n m (l.drop (decodeL l).2) (by rw [List.length_drop]; omega) (by rw [List.length_drop]; omega)]
theorem ps_nil : ps [] = [] := rfl
theorem ps_step (l : List UInt8) (hne : l ≠ []) : ps l = ((decodeL l).1, l.take (decodeL l).2) :: ps (l.drop (decodeL l).2) := by
  have hl : 0 < l.length := List.length_pos_iff.2 hne
  have hw := decodeL_width l
  obtain ⟨n, hn⟩ : ∃ n, l.length = n + 1 := ⟨l.length - 1, by omega⟩
  unfold ps
  rw [hn]
  show (if l = [] then [] else _) = _
  rw [if_neg hne, psGo_fuel n (l.drop (decodeL l).2).length _ (by rw [List.length_drop]; omega) (Nat.le_refl _)]
theorem ps_ind {P : List UInt8 → Prop} (h0 : P []) (h1 : ∀ l, l ≠ [] → P (l.drop (decodeL l).2) → P l) : ∀ l, P l := by
  intro l
  generalize hn : l.length = n
  induction n using Nat.strongRecOn generalizing l with
  | _ n ih =>
    by_cases hne : l = []
    · rw [hne]; exact h0
    · have hl : 0 < l.length := List.length_pos_iff.2 hne
      have hw := decodeL_width l
      exact h1 l hne (ih _ (by rw [List.length_drop]; omega) _ rfl)

def flat (L : List (Nat × List UInt8)) : List UInt8 := L.flatMap (·.2)
theorem flat_cons (p : Nat × List UInt8) (L : List (Nat × List UInt8)) : flat (p :: L) = p.2 ++ flat L := by simp [flat]
theorem flat_app (L M : List (Nat × List UInt8)) : flat (L ++ M) = flat L ++ flat M := by simp [flat]
theorem flat_ps : ∀ l, flat (ps l) = l := by
  refine ps_ind rfl fun l hne ih => ?_
  rw [ps_step l hne, flat_cons, ih]
  exact List.take_append_drop _ _
theorem ps_len (l : List UInt8) (hne : l ≠ []) : (l.take (decodeL l).2).length = (decodeL l).2 := by
  have := decodeL_le l hne
  simp; omega

/-- a beginning of whole pieces has these pieces -/
theorem ps_pre : ∀ (l : List UInt8) (k : Nat), ps (flat ((ps l).take k)) = (ps l).take k := by
  refine ps_ind (P := fun l => ∀ k : Nat, ps (flat ((ps l).take k)) = (ps l).take k) ?_ fun l hne ih k => ?_
  · intro k
    rw [ps_nil, List.take_nil]
    rfl
  · cases k with
    | zero => rfl
    | succ k =>
      rw [ps_step l hne, List.take_succ_cons, flat_cons]
      obtain ⟨w, hw⟩ : ∃ w, (decodeL l).2 = w := ⟨_, rfl⟩
      obtain ⟨T, hT⟩ : ∃ T, flat ((ps (l.drop (decodeL l).2)).take k) = T := ⟨_, rfl⟩
      have ih' := ih k
      have hlen := ps_len l hne
      have hsplit : ∃ y, l = (l.take (decodeL l).2 ++ T) ++ y := by
        refine ⟨flat ((ps (l.drop (decodeL l).2)).drop k), ?_⟩
        rw [← hT, List.append_assoc, ← flat_app, List.take_append_drop, flat_ps, List.take_append_drop]
      obtain ⟨y, hy⟩ := hsplit
      have hw1 := decodeL_width l
      have hx : l.take (decodeL l).2 ++ T ≠ [] := by
        intro h
        have := congrArg List.length h
        simp only [List.length_append, hlen, List.length_nil] at this
        omega
      have hd : decodeL (l.take (decodeL l).2 ++ T) = decodeL l := by
        have := dec_pre (l.take (decodeL l).2 ++ T) y hx (by rw [← hy, List.length_append, hlen]; omega)
        rw [this, ← hy]
      show ps (l.take (decodeL l).2 ++ flat ((ps (l.drop (decodeL l).2)).take k)) = _
      rw [hT, ps_step _ hx, hd]
      have e1 : (l.take (decodeL l).2 ++ T).take (decodeL l).2 = l.take (decodeL l).2 := by
        rw [List.take_append_of_le_length (by omega), List.take_of_length_le (by omega)]
      have e2 : (l.take (decodeL l).2 ++ T).drop (decodeL l).2 = T := by
        rw [List.drop_append_of_le_length (by omega), List.drop_of_length_le (by omega), List.nil_append]
      rw [e1, e2, ← hT, ih']
/-- and what is behind it, the others -/
theorem ps_post : ∀ (l : List UInt8) (k : Nat), ps (l.drop (flat ((ps l).take k)).length) = (ps l).drop k := by
  refine ps_ind (P := fun l => ∀ k : Nat, ps (l.drop (flat ((ps l).take k)).length) = (ps l).drop k) ?_ fun l hne ih k => ?_
  · intro k
    simp [ps_nil]
  · cases k with
    | zero => simp [flat]
    | succ k =>
      rw [ps_step l hne, List.take_succ_cons, flat_cons, List.drop_succ_cons, List.length_append]
      show ps (l.drop ((l.take (decodeL l).2).length + _)) = _
      rw [ps_len l hne, ← List.drop_drop, ih k]

/-! ### the chapter's words -/
def okB (p : Nat × List UInt8) : Bool := !(p.1 == 65533 && p.2.length == 1)
def plainB (r : Nat) : Bool := !(decide (r < 32) || (decide (127 ≤ r) && decide (r ≤ 159)) || r == 8232 || r == 8233 || r == 65533)
def cl (p : Nat × List UInt8) : Nat × List UInt8 := if plainB p.1 then p else (95, [95])
def right (l : List UInt8) : Bool := (ps l).all okB
def count (l : List UInt8) : Nat := (ps l).length
def clean (l : List UInt8) : List UInt8 := flat ((ps l).map cl)
def cutN : List (Nat × List UInt8) → Int → Nat
  | [], _ => 0
  | p :: t, n => if (p.2.length : Int) ≤ n then p.2.length + cutN t (n - p.2.length) else 0
def cut (l : List UInt8) (n : Int) : List UInt8 := l.take (cutN (ps l) n)

theorem right_nil : right [] = true := rfl
theorem right_step (l : List UInt8) (hne : l ≠ []) : right l = (!((decodeL l).1 == 65533 && (decodeL l).2 == 1) && right (l.drop (decodeL l).2)) := by
  unfold right
  rw [ps_step l hne, List.all_cons]
  unfold okB
  rw [ps_len l hne]
theorem count_nil : count [] = 0 := rfl
theorem count_step (l : List UInt8) (hne : l ≠ []) : count l = count (l.drop (decodeL l).2) + 1 := by
  unfold count
  rw [ps_step l hne]
  rfl
theorem count_le : ∀ l, count l ≤ l.length := by
  refine ps_ind (Nat.le_refl 0) fun l hne ih => ?_
  have hw := decodeL_width l
  have hl : 0 < l.length := List.length_pos_iff.2 hne
  rw [List.length_drop] at ih
  rw [count_step l hne]
  omega
theorem clean_nil : clean [] = [] := rfl
theorem clean_step (l : List UInt8) (hne : l ≠ []) : clean l = (if plainB (decodeL l).1 then l.take (decodeL l).2 else [95]) ++ clean (l.drop (decodeL l).2) := by
  unfold clean
  rw [ps_step l hne, List.map_cons, flat_cons]
  unfold cl
  by_cases h : plainB (decodeL l).1 = true
  · simp only [h, if_true]
  · simp only [h]
    rfl
theorem clean_le : ∀ l, (clean l).length ≤ l.length := by
  refine ps_ind (Nat.le_refl 0) fun l hne ih => ?_
  have hw := decodeL_width l
  have hl : 0 < l.length := List.length_pos_iff.2 hne
  have hd := decodeL_le l hne
  rw [List.length_drop] at ih
  rw [clean_step l hne, List.length_append]
  split
  · rw [ps_len l hne]; omega
  · simp only [List.length_singleton]; omega
theorem plain_ok {r : Nat} (h : plainB r = true) : r ≠ 65533 := by
  intro e
  subst e
  exact absurd h (by decide)

/-- clean pieces are the pieces of what is clean -/
theorem ps_clean : ∀ l, ps (clean l) = (ps l).map cl := by
  refine ps_ind rfl fun l hne ih => ?_
  rw [clean_step l hne, ps_step l hne, List.map_cons]
  unfold cl
  by_cases h : plainB (decodeL l).1 = true
  · simp only [h, if_true]
    have hw := decodeL_width l
    have hlen := ps_len l hne
    have hx : l.take (decodeL l).2 ≠ [] := by
      intro e
      rw [e] at hlen
      simp only [List.length_nil] at hlen
      omega
    have hd : decodeL (l.take (decodeL l).2) = decodeL l := by
      have := dec_pre (l.take (decodeL l).2) (l.drop (decodeL l).2) hx (by rw [List.take_append_drop, hlen]; exact Nat.le_refl _)
      rw [this, List.take_append_drop]
    have hd2 : decodeL (l.take (decodeL l).2 ++ clean (l.drop (decodeL l).2)) = decodeL l := by
      rw [dec_app _ _ hx (by rw [hd]; exact fun e => plain_ok h e.1), hd]
    rw [ps_step _ (by simp [hx]), hd2, List.take_append_of_le_length (by omega), List.take_of_length_le (by omega), List.drop_append_of_le_length (by omega), List.drop_of_length_le (by omega), List.nil_append, ih]
    rfl
  · simp only [h]
    show ps (95 :: clean _) = (95, [95]) :: _
    rw [ps_step _ (by simp), dec_ascii 95 _ (by decide)]
    show (95, [95]) :: ps (clean (l.drop (decodeL l).2)) = _
    rw [ih]
    rfl
theorem cl_cl (p : Nat × List UInt8) : cl (cl p) = cl p := by
  unfold cl
  by_cases h : plainB p.1 = true
  · simp only [h, if_true]
  · simp only [h]
    rfl
theorem cl_ok (p : Nat × List UInt8) : okB (cl p) = true := by
  unfold cl
  by_cases h : plainB p.1 = true
  · simp only [h, if_true]
    have := plain_ok h
    unfold okB
    have e : (p.1 == 65533) = false := beq_false_of_ne this
    rw [e]
    rfl
  · simp only [h]
    rfl
theorem clean_right (l : List UInt8) : right (clean l) = true := by
  unfold right
  rw [ps_clean, List.all_map]
  simp only [List.all_eq_true, Function.comp]
  exact fun p _ => cl_ok p
theorem clean_count (l : List UInt8) : count (clean l) = count l := by
  unfold count
  rw [ps_clean, List.length_map]
theorem clean_clean (l : List UInt8) : clean (clean l) = clean l := by
  show flat ((ps (clean l)).map cl) = flat ((ps l).map cl)
  rw [ps_clean, List.map_map]
  congr 2
  funext p
  exact cl_cl p

/-! ### cutting -/
theorem cutN_k : ∀ (L : List (Nat × List UInt8)) (n : Int), ∃ k, cutN L n = (flat (L.take k)).length ∧ cutN (L.take k) n = cutN L n ∧ (0 ≤ n → (cutN L n : Int) ≤ n) ∧ (n < 0 → (∀ p ∈ L, p.2 ≠ []) → cutN L n = 0)
  | [], n => ⟨0, rfl, rfl, fun h => h, fun _ _ => rfl⟩
  | p :: t, n => by
    by_cases h : (p.2.length : Int) ≤ n
    · obtain ⟨k, h1, h2, h3, h4⟩ := cutN_k t (n - p.2.length)
      refine ⟨k + 1, ?_, ?_, fun h0 => ?_, fun h0 hp => ?_⟩
      · simp only [cutN, if_pos h, List.take_succ_cons, flat_cons, List.length_append, h1]
      · simp only [cutN, if_pos h, List.take_succ_cons, h2]
      · have := h3 (by omega)
        simp only [cutN, if_pos h]
        omega
      · omega
    · exact ⟨0, by simp [cutN, h, flat], by simp [cutN, h], fun h0 => by simp [cutN, h]; exact h0, fun _ _ => by simp [cutN, h]⟩
theorem pre_flat (l : List UInt8) (k : Nat) : l.take (flat ((ps l).take k)).length = flat ((ps l).take k) := by
  have h : flat ((ps l).take k) ++ flat ((ps l).drop k) = l := by rw [← flat_app, List.take_append_drop, flat_ps]
  obtain ⟨F, hF⟩ : ∃ F, flat ((ps l).take k) = F := ⟨_, rfl⟩
  rw [hF] at h ⊢
  rw [← h]
  exact List.take_left
theorem pieces_ne : ∀ l, ∀ p ∈ ps l, p.2 ≠ [] := by
  refine ps_ind (P := fun l => ∀ p ∈ ps l, p.2 ≠ []) (by simp [ps_nil]) fun l hne ih p hp => ?_
  rw [ps_step l hne, List.mem_cons] at hp
  rcases hp with rfl | hp
  · intro e
    have := ps_len l hne
    have hw := decodeL_width l
    simp only at e
    rw [e] at this
    simp only [List.length_nil] at this
    omega
  · exact ih p hp
/-- what a cut is -/
theorem cut_told (l : List UInt8) (n : Int) : ∃ k, cut l n = flat ((ps l).take k) ∧ ps (cut l n) = (ps l).take k ∧ cutN (ps l) n = (cut l n).length ∧ cut (cut l n) n = cut l n ∧ (0 ≤ n → ((cut l n).length : Int) ≤ n) := by
  obtain ⟨k, h1, h2, h3, -⟩ := cutN_k (ps l) n
  have e : cut l n = flat ((ps l).take k) := by
    unfold cut
    rw [h1, pre_flat]
  have e2 : ps (cut l n) = (ps l).take k := by rw [e, ps_pre]
  have e3 : cutN (ps l) n = (cut l n).length := by rw [h1, e]
  refine ⟨k, e, e2, e3, ?_, fun h => by rw [← e3]; exact h3 h⟩
  show (cut l n).take (cutN (ps (cut l n)) n) = _
  rw [e2, h2, e3, List.take_of_length_le (Nat.le_refl _)]
theorem cut_le (l : List UInt8) (n : Int) : (cut l n).length ≤ l.length := by
  unfold cut
  rw [List.length_take]
  omega
theorem cut_pre (l : List UInt8) (n : Int) : l.take (cut l n).length = cut l n := by
  obtain ⟨k, h1, -, h3, -⟩ := cut_told l n
  rw [← h3]
  rfl
theorem cut_right (l : List UInt8) (n : Int) (h : right l = true) : right (cut l n) = true := by
  obtain ⟨k, h1, h2, -⟩ := cut_told l n
  unfold right at h ⊢
  rw [h2]
  rw [List.all_eq_true] at h ⊢
  exact fun p hp => h p (List.mem_of_mem_take hp)
theorem cut_count (l : List UInt8) (n : Int) : count (cut l n) + count (l.drop (cut l n).length) = count l := by
  obtain ⟨k, h1, h2, -⟩ := cut_told l n
  unfold count
  rw [h2, h1, ps_post, ← List.length_append, List.take_append_drop]

/-! ### one behind the other -/
theorem ps_app (b : List UInt8) : ∀ a, right a = true → ps (a ++ b) = ps a ++ ps b := by
  refine ps_ind (P := fun a => right a = true → ps (a ++ b) = ps a ++ ps b) (fun _ => by simp [ps_nil]) fun a hne ih h => ?_
  rw [right_step a hne, Bool.and_eq_true] at h
  have hv : ¬ ((decodeL a).1 = 65533 ∧ (decodeL a).2 = 1) := by
    rintro ⟨e1, e2⟩
    rw [e1, e2] at h
    exact absurd h.1 (by decide)
  have hd := decodeL_le a hne
  rw [ps_step _ (by simp [hne]), dec_app a b hne hv, List.take_append_of_le_length hd, List.drop_append_of_le_length hd, ih h.2, ps_step a hne]
  rfl
theorem app_right (a b : List UInt8) (ha : right a = true) (hb : right b = true) : right (a ++ b) = true := by
  unfold right at *
  rw [ps_app b a ha, List.all_append, ha, hb]
  rfl
theorem app_count (a b : List UInt8) (ha : right a = true) : count (a ++ b) = count a + count b := by
  unfold count
  rw [ps_app b a ha, List.length_append]
theorem app_clean (a b : List UInt8) (ha : right a = true) : clean (a ++ b) = clean a ++ clean b := by
  unfold clean
  rw [ps_app b a ha, List.map_append, flat_app]
theorem cutN_none : ∀ (L : List (Nat × List UInt8)), (∀ p ∈ L, p.2 ≠ []) → ∀ n : Int, n ≤ 0 → cutN L n = 0
  | [], _, _, _ => rfl
  | p :: t, h, n, hn => by
    have : 0 < p.2.length := List.length_pos_iff.2 (h p (by simp))
    have e : ¬ ((p.2.length : Int) ≤ n) := by omega
    simp [cutN, e]
theorem cutN_app : ∀ (L M : List (Nat × List UInt8)) (n : Int), n = ((flat L).length : Int) → cutN (L ++ M) n = (flat L).length + cutN M 0
  | [], M, n, h => by subst h; simp [flat]
  | p :: t, M, n, h => by
    rw [flat_cons, List.length_append] at h
    have e : (p.2.length : Int) ≤ n := by omega
    rw [List.cons_append, cutN, if_pos e, cutN_app t M _ (by omega), flat_cons, List.length_append]
    omega
theorem cut_app (a b : List UInt8) (ha : right a = true) : cut (a ++ b) (a.length : Int) = a := by
  unfold cut
  rw [ps_app b a ha, cutN_app _ _ _ (by rw [flat_ps]), flat_ps, cutN_none _ (pieces_ne b) 0 (by omega), Nat.add_zero]
  exact List.take_left
theorem cut_all (a : List UInt8) (n : Int) (hn : (a.length : Int) ≤ n) : cut a n = a := by
  have : ∀ (L : List (Nat × List UInt8)) (n : Int), ((flat L).length : Int) ≤ n → cutN L n = (flat L).length := by
    intro L
    induction L with
    | nil => intro n _; rfl
    | cons p t ih =>
      intro n h
      rw [flat_cons, List.length_append] at h
      rw [cutN, if_pos (by omega), ih _ (by omega), flat_cons, List.length_append]
  unfold cut
  rw [this _ n (by rw [flat_ps]; exact hn), flat_ps, List.take_length]
theorem cut_zero (a : List UInt8) (n : Int) (hn : n ≤ 0) : cut a n = [] := by
  unfold cut
  rw [cutN_none _ (pieces_ne a) n hn]
  rfl

/-! ### U+FFFD, told and written -/
theorem spoilt_iff (l : List UInt8) (hne : l ≠ []) (h : (decodeL l).1 = 65533) : hasPrefix l [239, 191, 189] = !((decodeL l).2 == 1) := by
  have hl : 0 < l.length := List.length_pos_iff.2 hne
  have k0 := (l.getD 0 0).toNat_lt
  have k1 := (l.getD 1 0).toNat_lt
  have k2 := (l.getD 2 0).toNat_lt
  have k3 := (l.getD 3 0).toNat_lt
  rw [decodeL_N] at h ⊢
  by_cases hp : hasPrefix l [239, 191, 189] = true
  · obtain ⟨t, rfl⟩ := List.isPrefixOf_iff_prefix.1 hp
    rw [hp]
    have e0 : ([239, 191, 189] ++ t : List UInt8).getD 0 0 = 239 := rfl
    have e1 : ([239, 191, 189] ++ t : List UInt8).getD 1 0 = 191 := rfl
    have e2 : ([239, 191, 189] ++ t : List UInt8).getD 2 0 = 189 := rfl
    rw [e0, e1, e2, dN_three (by decide) (by simp) (by decide) (by decide) (by decide) (by decide)]
    rfl
  · rw [Bool.not_eq_true] at hp
    rw [hp]
    rcases decodeN_shape l.length (l.getD 0 0).toNat (l.getD 1 0).toNat (l.getD 2 0).toNat (l.getD 3 0).toNat with ⟨c, e⟩ | ⟨c1, c2, c3, cv, e⟩ | ⟨c1, c2, c3, c4, cv, cs, e⟩ | ⟨c1, c2, c3, c4, c5, cv, cw, e⟩ | e
    · rw [e] at h; simp only at h; omega
    · rw [e] at h; simp only at h; omega
    · exfalso
      rw [e] at h
      simp only at h
      have z0 : l.getD 0 0 = 239 := UInt8.toNat_inj.1 (by show _ = 239; omega)
      have z1 : l.getD 1 0 = 191 := UInt8.toNat_inj.1 (by show _ = 191; omega)
      have z2 : l.getD 2 0 = 189 := UInt8.toNat_inj.1 (by show _ = 189; omega)
      have ht : l.take 3 = [239, 191, 189] := by rw [takeC l c2, z0, z1, z2]
      have : hasPrefix l [239, 191, 189] = true := by
        refine List.isPrefixOf_iff_prefix.2 ⟨l.drop 3, ?_⟩
        rw [← ht, List.take_append_drop]
      rw [this] at hp
      exact absurd hp (by decide)
    · rw [e] at h; simp only at h; omega
    · rw [e]; rfl

/-! ### keys -/
def firstB (c : Nat) : Bool := (decide (97 ≤ c) && decide (c ≤ 122)) || (decide (65 ≤ c) && decide (c ≤ 90)) || c == 95
def otherB (c : Nat) : Bool := (decide (48 ≤ c) && decide (c ≤ 57)) || c == 46
def keyAll : Bool → List UInt8 → Bool
  | _, [] => true
  | z, c :: t => (firstB c.toNat || (!z && otherB c.toNat)) && keyAll false t
def key (l : List UInt8) : Bool := keyAll true l && (decide (1 ≤ l.length) && decide (l.length ≤ 64))
theorem firstB_high {c : Nat} (h : 128 ≤ c) : firstB c = false := by
  unfold firstB
  simp; omega
theorem otherB_high {c : Nat} (h : 128 ≤ c) : otherB c = false := by
  unfold otherB
  simp; omega
/-- a rune of ASCII is its byte; any other begins with a byte that is none -/
theorem dec_first (c : UInt8) (t : List UInt8) : (c.toNat < 128 ∧ decodeL (c :: t) = (c.toNat, 1)) ∨ (128 ≤ c.toNat ∧ 128 ≤ (decodeL (c :: t)).1) := by
  have k0 := c.toNat_lt
  rw [decodeL_N]
  show (_ ∧ decodeN _ c.toNat _ _ _ = _) ∨ (_ ∧ 128 ≤ (decodeN _ c.toNat _ _ _).1)
  by_cases h : c.toNat < 128
  · exact .inl ⟨h, dN_one h⟩
  · refine .inr ⟨by omega, ?_⟩
    rcases decodeN_shape (c :: t).length c.toNat ((c :: t).getD 1 0).toNat ((c :: t).getD 2 0).toNat ((c :: t).getD 3 0).toNat with ⟨a, e⟩ | ⟨a1, a2, a3, av, e⟩ | ⟨a1, a2, a3, a4, av, as, e⟩ | ⟨a1, a2, a3, a4, a5, av, aw, e⟩ | e
    · omega
    · rw [e]; exact av
    · rw [e]; simp only; omega
    · rw [e]; simp only; omega
    · rw [e]; decide
theorem key_step (z : Bool) (l : List UInt8) (hne : l ≠ []) : keyAll z l = ((firstB (decodeL l).1 || (!z && otherB (decodeL l).1)) && keyAll false (l.drop (decodeL l).2)) := by
  cases l with
  | nil => exact absurd rfl hne
  | cons c t =>
    rcases dec_first c t with ⟨h, e⟩ | ⟨h, e⟩
    · rw [e]
      rfl
    · rw [keyAll, firstB_high h, otherB_high h, firstB_high e, otherB_high e]
      simp
end Go.Proofs.YtdmibolbpgondaaGreat.T03
