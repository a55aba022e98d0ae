/-
  The plain mathematics of texts: two numbers have the same digits just if they are the same; two right values of one kind the same text just if they are the same.
-/
import Derived.Test.YtndcdidepdcmnaaKV04Any
import Derived.Test.YtndcdidepdcmnaaKV04Comp
set_option linter.unusedSimpArgs false
namespace Go.Proofs.Ytndcdidepdcmnaa.V04
open Go.RowKit Go.Lib

def val (l : List UInt8) : Nat := l.foldl (fun a c => a * 10 + (c.toNat - 48)) 0
theorem dig_byte {m : Nat} (h : m < 10) : (UInt8.ofNat (48 + m)).toNat = 48 + m := UInt8.toNat_ofNat_of_lt' (by show _ < 256; omega)
theorem val_dd (u : Nat) : val (decDigits u) = u := by
  induction u using Nat.strongRecOn with
  | _ u ih =>
    by_cases h : u < 10
    · rw [decDigits, dif_pos h]
      simp only [val, List.foldl_cons, List.foldl_nil, dig_byte h]
      omega
    · have h2 := ih (u / 10) (by omega)
      rw [decDigits, dif_neg h]
      unfold val at h2 ⊢
      rw [List.foldl_append, h2]
      simp only [List.foldl_cons, List.foldl_nil, dig_byte (show u % 10 < 10 by omega)]
      omega
theorem dd_ge (u : Nat) : ∀ c ∈ decDigits u, 48 ≤ c.toNat := by
  induction u using Nat.strongRecOn with
  | _ u ih =>
    by_cases h : u < 10
    · rw [decDigits, dif_pos h]
      intro c hc
      simp only [List.mem_singleton] at hc
      rw [hc, dig_byte h]; omega
    · rw [decDigits, dif_neg h]
      intro c hc
      rcases List.mem_append.1 hc with h1 | h1
      · exact ih (u / 10) (by omega) c h1
      · simp only [List.mem_singleton] at h1
        rw [h1, dig_byte (by omega)]; omega
def valI : List UInt8 → Int
  | [] => 0
  | c :: r => if c = 45 then -(val r : Int) else (val (c :: r) : Int)
theorem val_itoa (n : Int) : valI (itoa n) = n := by
  unfold itoa
  by_cases h : n < 0
  · rw [if_pos h]
    simp only [valI, if_true, val_dd]
    omega
  · rw [if_neg h]
    have h1 := val_dd n.toNat
    have h2 := dd_ge n.toNat
    cases hd : decDigits n.toNat with
    | nil => rw [hd] at h1; simp [val] at h1; simp [valI]; omega
    | cons c r =>
      rw [hd] at h1 h2
      have h3 := h2 c (by simp)
      have h4 : ¬ c = 45 := fun e => by subst e; simp at h3
      simp only [valI, if_neg h4, h1]
      omega
theorem itoa_inj {n m : Int} (h : itoa n = itoa m) : n = m := by rw [← val_itoa n, ← val_itoa m, h]

/-- right values of one kind: the ways two of them stand to each other -/
theorem right_cases {K N : Int} {S : ByteArray} (h : right K N S = true) : (K = 1 ∧ S = emp) ∨ (K = 2 ∧ S = emp ∧ (N = 0 ∨ N = 1)) ∨ (K = 3 ∧ N = 0 ∧ S.size ≤ 4096) := by
  have h' : (K = 1 ∧ S.size = 0) ∨ (K = 2 ∧ S.size = 0 ∧ (N = 0 ∨ N = 1)) ∨ (K = 3 ∧ N = 0 ∧ S.size ≤ 4096) := by simpa [right] using h
  have e : S.size = 0 → S = emp := fun h => by
    cases S with | mk d =>
      have : d = #[] := Array.size_eq_zero_iff.1 h
      subst this; rfl
  rcases h' with ⟨a, b⟩ | ⟨a, b, c⟩ | c
  · exact .inl ⟨a, e b⟩
  · exact .inr (.inl ⟨a, e b, c⟩)
  · exact .inr (.inr c)
theorem text_eq (K N : Int) (S : ByteArray) (M : Int) (T : ByteArray) (h1 : right K N S = true) (h2 : right K M T = true) : (anyOf K N S).text = (anyOf K M T).text ↔ N = M ∧ S = T := by
  constructor
  · intro h
    unfold anyOf at h
    rw [if_pos h1, if_pos h2] at h
    rcases right_cases h1 with ⟨rfl, rfl⟩ | ⟨rfl, rfl, hn⟩ | ⟨rfl, rfl, _⟩
    · rcases right_cases h2 with ⟨_, rfl⟩ | ⟨e, _⟩ | ⟨e, _⟩
      · exact ⟨itoa_inj h, rfl⟩
      · omega
      · omega
    · rcases right_cases h2 with ⟨e, _⟩ | ⟨_, rfl, hm⟩ | ⟨e, _⟩
      · omega
      · refine ⟨?_, rfl⟩
        rcases hn with rfl | rfl <;> rcases hm with rfl | rfl <;> first | rfl | exact absurd h (by decide)
      · omega
    · rcases right_cases h2 with ⟨e, _⟩ | ⟨e, _⟩ | ⟨_, rfl, _⟩
      · omega
      · omega
      · refine ⟨rfl, ?_⟩
        have h' : S.data.toList = T.data.toList := h
        exact ByteArray.ext (Array.toList_inj.1 h')
  · rintro ⟨rfl, rfl⟩
    rfl
theorem ci_zero {x y : Int} (h : compareInt x y = 0) : x = y := by
  unfold compareInt at h
  split at h
  · omega
  · split at h
    · omega
    · omega
theorem cmpV_zero {K N : Int} {S : ByteArray} {L M : Int} {T : ByteArray} (h : cmpV K N S L M T = 0) : K = L ∧ N = M ∧ S = T := by
  unfold cmpV or3 at h
  split at h
  · contradiction
  · split at h
    · contradiction
    · rename_i h1 h2
      refine ⟨ci_zero (by omega), ci_zero (by omega), ?_⟩
      exact ByteArray.ext (Array.toList_inj.1 (cb_zero _ _ h))
theorem ci_self (x : Int) : compareInt x x = 0 := by unfold compareInt; rw [if_neg (by omega), if_neg (by omega)]
theorem cmpV_self (K N : Int) (S : ByteArray) : cmpV K N S K N S = 0 := by
  unfold cmpV
  rw [ci_self, ci_self, cb_self]
  rfl
theorem text_of {a b : List UInt8} {A B : ByteArray} (hA : ⟨a.toArray⟩ = A) (hB : ⟨b.toArray⟩ = B) (h : A.toList = B.toList) : a = b := by
  subst hA; subst hB
  rw [ByteArray.toList_eq, ByteArray.toList_eq] at h
  exact h
theorem pair_cases {K N : Int} {S : ByteArray} {M : Int} {T : ByteArray} (h1 : right K N S = true) (h2 : right K M T = true) (hE : ¬ (N = M ∧ S = T)) :
    (¬ K = 3 ∧ ¬ N = M ∧ S = T ∧ (N < M ↔ cmpV K N S K M T < 0)) ∨ (K = 3 ∧ N = M ∧ ¬ S.toList = T.toList) := by
  have hc : S = T → ¬ N = M → (N < M ↔ cmpV K N S K M T < 0) := fun e hn => by
    subst e
    unfold cmpV
    rw [ci_self, cb_self]
    unfold or3 compareInt
    repeat' split
    all_goals omega
  rcases right_cases h1 with ⟨rfl, rfl⟩ | ⟨rfl, rfl, hn⟩ | ⟨rfl, rfl, _⟩
  · rcases right_cases h2 with ⟨_, rfl⟩ | ⟨e, _⟩ | ⟨e, _⟩
    · have hN : ¬ N = M := fun e => hE ⟨e, rfl⟩
      exact .inl ⟨by omega, hN, rfl, hc rfl hN⟩
    · omega
    · omega
  · rcases right_cases h2 with ⟨e, _⟩ | ⟨_, rfl, hm⟩ | ⟨e, _⟩
    · omega
    · have hN : ¬ N = M := fun e => hE ⟨e, rfl⟩
      exact .inl ⟨by omega, hN, rfl, hc rfl hN⟩
    · omega
  · rcases right_cases h2 with ⟨e, _⟩ | ⟨e, _⟩ | ⟨_, rfl, _⟩
    · omega
    · omega
    · refine .inr ⟨rfl, rfl, fun h => hE ⟨rfl, ?_⟩⟩
      rw [ByteArray.toList_eq, ByteArray.toList_eq] at h
      exact ByteArray.ext (Array.toList_inj.1 h)
end Go.Proofs.Ytndcdidepdcmnaa.V04
