/-
  The plain theory of a table's bytes: what they are, what is read of them, there and back, cut anywhere.
-/
import Derived.Test.YtfnjpancoemihaaV01Back
import Derived.Test.YtfnjpancoemihaaS05Tab
namespace Go.Proofs.Ytfnjpancoemihaa.S05
open Go.Proofs.Ytfnjpancoemihaa.V01 Go.Proofs.Ytfnjpancoemihaa.Wd

theorem getF_bd : ∀ (l : List Nat) (i acc : Nat), (getF i acc l).2.1 ≤ i + l.length ∧ (getF i acc l).2.2 ≤ 11 := by
  intro l
  induction l with
  | nil => intro i acc; simp [getF]
  | cons c r ih =>
    intro i acc
    simp only [getF]
    split
    · simp
    · split
      · have := ih (i + 1) (acc + c % 128 * 2 ^ (7 * i))
        simp only [List.length_cons]
        omega
      · split
        · simp
        · simp only [List.length_cons]
          omega
theorem get_bd {l : List UInt8} {m k e : Nat} (h : getF 0 0 (nat8 l) = (m, k, e)) : k ≤ l.length ∧ e ≤ 11 := by
  have := getF_bd (nat8 l) 0 0
  rw [h, nat8_len] at this
  simpa using this

def one (s : ByteArray) : List UInt8 := vby s.size ++ bs s
def tx : List ByteArray → List UInt8
  | [] => []
  | s :: r => one s ++ tx r
theorem tx_app (a b : List ByteArray) : tx (a ++ b) = tx a ++ tx b := by
  induction a with
  | nil => rfl
  | cons x r ih => simp [tx, ih]
theorem tx_snoc (a : List ByteArray) (s : ByteArray) : tx (a ++ [s]) = tx a ++ one s := by simp [tx_app, tx]
def tb (L : List ByteArray) : List UInt8 := vby L.length ++ tx L
theorem vby_le (n : Nat) : (vby n).length ≤ 10 := by rw [vby_len]; exact vsize_le n
theorem vby_pos (n : Nat) : 0 < (vby n).length := by rw [vby_len]; exact vsize_pos n
theorem one_len (s : ByteArray) : (one s).length ≤ 10 + s.size := by
  have := vby_le s.size
  simp only [one, List.length_append, bs_len]
  omega
theorem tx_len (q : Nat) : ∀ L : List ByteArray, (∀ s ∈ L, s.size ≤ q) → (tx L).length ≤ L.length * (q + 10)
  | [], _ => by simp [tx]
  | s :: r, h => by
    have h1 := one_len s
    have h2 := h s (by simp)
    have h3 := tx_len q r (fun t ht => h t (by simp [ht]))
    simp only [tx, List.length_append, List.length_cons, Nat.add_mul]
    omega
theorem tb_pos (L : List ByteArray) : 0 < (tb L).length := by
  have := vby_pos L.length
  simp only [tb, List.length_append]
  omega

open Classical in
/-- what readText answers: how many bytes, the error, the text -/
noncomputable def rtF (L : List ByteArray) (b : List UInt8) : Nat × Nat × ByteArray :=
  match getF 0 0 (nat8 b) with
  | (m, k, e) =>
    if e ≠ 0 then (0, e, ByteArray.empty)
    else if 4096 < m then (0, 11, ByteArray.empty)
    else if b.length < k + m then (0, 10, ByteArray.empty)
    else if str ((b.drop k).take m) ∈ L then (0, 11, ByteArray.empty)
    else (k + m, 0, str ((b.drop k).take m))
noncomputable def rdF : Nat → List ByteArray → List UInt8 → Nat → List ByteArray × Nat × Nat
  | 0, L, _, u => (L, u, 0)
  | n + 1, L, b, u => match rtF L (b.drop u) with
    | (k, e, s) => if e ≠ 0 then ([], 0, e) else rdF n (L ++ [s]) b (u + k)
noncomputable def readF (b : List UInt8) : List ByteArray × Nat × Nat :=
  match getF 0 0 (nat8 b) with
  | (n, k, e) => if e ≠ 0 then ([], 0, e) else if 4096 < n then ([], 0, 11) else rdF n [] b k

theorem rt_err {L : List ByteArray} {b : List UInt8} {m k e : Nat} (h : getF 0 0 (nat8 b) = (m, k, e)) (he : e ≠ 0) : rtF L b = (0, e, ByteArray.empty) := by simp [rtF, h, he]
theorem rt_great {L : List ByteArray} {b : List UInt8} {m k : Nat} (h : getF 0 0 (nat8 b) = (m, k, 0)) (hm : 4096 < m) : rtF L b = (0, 11, ByteArray.empty) := by simp [rtF, h, hm]
theorem rt_short {L : List ByteArray} {b : List UInt8} {m k : Nat} (h : getF 0 0 (nat8 b) = (m, k, 0)) (hm : ¬ 4096 < m) (hs : b.length < k + m) : rtF L b = (0, 10, ByteArray.empty) := by simp [rtF, h, hm, hs]
theorem rt_twice {L : List ByteArray} {b : List UInt8} {m k : Nat} (h : getF 0 0 (nat8 b) = (m, k, 0)) (hm : ¬ 4096 < m) (hs : ¬ b.length < k + m) (hi : str ((b.drop k).take m) ∈ L) : rtF L b = (0, 11, ByteArray.empty) := by simp [rtF, h, hm, hs, hi]
theorem rt_ok {L : List ByteArray} {b : List UInt8} {m k : Nat} (h : getF 0 0 (nat8 b) = (m, k, 0)) (hm : ¬ 4096 < m) (hs : ¬ b.length < k + m) (hi : str ((b.drop k).take m) ∉ L) : rtF L b = (k + m, 0, str ((b.drop k).take m)) := by simp [rtF, h, hm, hs, hi]
theorem rt_bd {L : List ByteArray} {b : List UInt8} {k e : Nat} {s : ByteArray} (h : rtF L b = (k, e, s)) : k ≤ b.length ∧ e ≤ 11 ∧ (e = 0 → s ∉ L ∧ s.size ≤ 4096) := by
  obtain ⟨m, q, e1, hg⟩ : ∃ m q e1, getF 0 0 (nat8 b) = (m, q, e1) := ⟨_, _, _, rfl⟩
  have hb := get_bd hg
  by_cases he : e1 = 0
  · subst he
    by_cases h1 : 4096 < m
    · rw [rt_great hg h1] at h; cases h; exact ⟨by omega, by omega, by omega⟩
    · by_cases h2 : b.length < q + m
      · rw [rt_short hg h1 h2] at h; cases h; exact ⟨by omega, by omega, by omega⟩
      · by_cases h3 : str ((b.drop q).take m) ∈ L
        · rw [rt_twice hg h1 h2 h3] at h; cases h; exact ⟨by omega, by omega, by omega⟩
        · rw [rt_ok hg h1 h2 h3] at h; cases h
          exact ⟨by omega, by omega, fun _ => ⟨h3, by rw [str_size, List.length_take]; omega⟩⟩
  · rw [rt_err hg he] at h; cases h; exact ⟨by omega, hb.2, fun e => absurd e he⟩

/-- one text, there and back -/
theorem rt_one (L : List ByteArray) (s : ByteArray) (rest : List UInt8) (hs : s ∉ L) (hz : s.size ≤ 4096) : rtF L (one s ++ rest) = ((one s).length, 0, s) := by
  have hg := get_put (n := s.size) (by omega) (bs s ++ rest)
  have e1 : one s ++ rest = vby s.size ++ (bs s ++ rest) := by simp [one]
  rw [← e1] at hg
  have e2 : ((one s ++ rest).drop (vby s.size).length).take s.size = bs s := by
    rw [e1, List.drop_left, ← bs_len s, List.take_left]
  have e3 := rt_ok (L := L) hg (by omega) (by simp [one, bs_len]) (by rw [e2, str_bs]; exact hs)
  rw [e3, e2, str_bs]
  simp [one, bs_len]
/-- one text, cut -/
theorem rt_cut (L : List ByteArray) (s : ByteArray) (j : Nat) (hz : s.size ≤ 4096) (hj : j < (one s).length) : rtF L ((one s).take j) = (0, 10, ByteArray.empty) := by
  by_cases h1 : j < (vby s.size).length
  · have e1 : (one s).take j = (vby s.size).take j := by rw [one, List.take_append_of_le_length (by omega)]
    rw [e1]
    exact rt_err (get_begin (by omega) j h1) (by omega)
  · have e1 : (one s).take j = vby s.size ++ (bs s).take (j - (vby s.size).length) := by rw [one, List.take_append, List.take_of_length_le (by omega)]
    have hg := get_put (n := s.size) (by omega) ((bs s).take (j - (vby s.size).length))
    rw [← e1] at hg
    refine rt_short hg (by omega) ?_
    simp only [one, List.length_append, bs_len] at hj
    simp only [List.length_take, one, List.length_append, bs_len]
    omega
theorem rd_back (rest : List UInt8) : ∀ (suf pre : List ByteArray) (X : List UInt8), (pre ++ suf).Nodup → (∀ s ∈ suf, s.size ≤ 4096) →
    rdF suf.length pre (X ++ (tx suf ++ rest)) X.length = (pre ++ suf, X.length + (tx suf).length, 0)
  | [], pre, X, _, _ => by simp [rdF, tx]
  | s :: r, pre, X, hn, hz => by
    have hs : s ∉ pre := fun hm => by
      rw [List.nodup_append] at hn
      exact hn.2.2 s hm s (by simp) rfl
    have h1 := rt_one pre s (tx r ++ rest) hs (hz s (by simp))
    have e1 : (X ++ (tx (s :: r) ++ rest)).drop X.length = one s ++ (tx r ++ rest) := by rw [List.drop_left]; simp [tx]
    have ih := rd_back rest r (pre ++ [s]) (X ++ one s) (by simpa using hn) (fun t ht => hz t (by simp [ht]))
    have e2 : X ++ (tx (s :: r) ++ rest) = X ++ one s ++ (tx r ++ rest) := by simp [tx]
    simp only [List.length_cons, rdF]
    rw [e1, h1]
    simp only [ne_eq, not_true_eq_false, if_false]
    rw [List.length_append] at ih
    rw [e2, ih]
    simp [tx, Nat.add_assoc]
theorem read_back (L : List ByteArray) (rest : List UInt8) (hn : L.Nodup) (hl : L.length ≤ 4096) (hz : ∀ s ∈ L, s.size ≤ 4096) : readF (tb L ++ rest) = (L, (tb L).length, 0) := by
  have hg := get_put (n := L.length) (by omega) (tx L ++ rest)
  have e1 : tb L ++ rest = vby L.length ++ (tx L ++ rest) := by simp [tb]
  rw [← e1] at hg
  unfold readF
  rw [hg]
  simp only [ne_eq, not_true_eq_false, if_false]
  rw [if_neg (by omega), e1, rd_back rest L [] (vby L.length) (by simpa using hn) hz]
  simp [tb]
theorem rd_cut : ∀ (suf pre : List ByteArray) (X : List UInt8) (j : Nat), (pre ++ suf).Nodup → (∀ s ∈ suf, s.size ≤ 4096) → j < (tx suf).length →
    rdF suf.length pre (X ++ (tx suf).take j) X.length = ([], 0, 10)
  | [], _, _, j, _, _, hj => by simp [tx] at hj
  | s :: r, pre, X, j, hn, hz, hj => by
    have hs : s ∉ pre := fun hm => by
      rw [List.nodup_append] at hn
      exact hn.2.2 s hm s (by simp) rfl
    have hzs := hz s (by simp)
    simp only [List.length_cons, rdF]
    rw [List.drop_left]
    by_cases h1 : j < (one s).length
    · have e1 : (tx (s :: r)).take j = (one s).take j := by rw [tx, List.take_append_of_le_length (by omega)]
      rw [e1, rt_cut pre s j hzs h1]
      simp
    · have e1 : (tx (s :: r)).take j = one s ++ (tx r).take (j - (one s).length) := by rw [tx, List.take_append, List.take_of_length_le (by omega)]
      have h2 : j - (one s).length < (tx r).length := by simp only [tx, List.length_append] at hj; omega
      have ih := rd_cut r (pre ++ [s]) (X ++ one s) (j - (one s).length) (by simpa using hn) (fun t ht => hz t (by simp [ht])) h2
      rw [e1, rt_one pre s _ hs hzs]
      simp only [ne_eq, not_true_eq_false, if_false]
      rw [List.length_append] at ih
      rw [← List.append_assoc, ih]
theorem read_cut (L : List ByteArray) (k : Nat) (hn : L.Nodup) (hl : L.length ≤ 4096) (hz : ∀ s ∈ L, s.size ≤ 4096) (hk : k < (tb L).length) : readF ((tb L).take k) = ([], 0, 10) := by
  by_cases h1 : k < (vby L.length).length
  · have e1 : (tb L).take k = (vby L.length).take k := by rw [tb, List.take_append_of_le_length (by omega)]
    rw [e1]
    unfold readF
    rw [get_begin (by omega) k h1]
    simp
  · have e1 : (tb L).take k = vby L.length ++ (tx L).take (k - (vby L.length).length) := by rw [tb, List.take_append, List.take_of_length_le (by omega)]
    have hg := get_put (n := L.length) (by omega) ((tx L).take (k - (vby L.length).length))
    rw [← e1] at hg
    unfold readF
    rw [hg]
    simp only [ne_eq, not_true_eq_false, if_false]
    rw [if_neg (by omega), e1]
    exact rd_cut L [] (vby L.length) _ (by simpa using hn) hz (by simp only [tb, List.length_append] at hk; omega)
end Go.Proofs.Ytfnjpancoemihaa.S05
