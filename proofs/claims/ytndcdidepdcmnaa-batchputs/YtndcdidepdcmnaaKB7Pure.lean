/-
  Layer 7 in plain lists, the writing side: the texts of spans, their bytes, what Put answers.
-/
import Derived.Test.YtndcdidepdcmnaaKWords
import Derived.Test.YtndcdidepdcmnaaKV04Back
import Derived.Test.YtndcdidepdcmnaaKP06Span
set_option linter.unusedSimpArgs false
set_option linter.unusedVariables false
namespace Go.Proofs.Ytndcdidepdcmnaa.B07
open Go.Proofs.Ytndcdidepdcmnaa.V01 Go.Proofs.Ytndcdidepdcmnaa.Wd Go.Proofs.Ytndcdidepdcmnaa.V04 Go.Proofs.Ytndcdidepdcmnaa.P06
open Go.Proofs.Ytndcdidepdcmnaa.S05 (ix ix_lt ix_get ix_of nd_inj tb tx one readF rdF rtF)

/-- a span: its nine fields, its attributes -/
abbrev Pn := Sp × List At

/-! ### texts, in the order in which they come up -/
open Classical in
noncomputable def add (T : List ByteArray) (s : ByteArray) : List ByteArray := if s ∈ T then T else T ++ [s]
noncomputable def adds (T : List ByteArray) (l : List ByteArray) : List ByteArray := l.foldl add T
theorem add_in {T : List ByteArray} {s : ByteArray} (h : s ∈ T) : add T s = T := if_pos h
theorem add_not {T : List ByteArray} {s : ByteArray} (h : s ∉ T) : add T s = T ++ [s] := if_neg h
theorem add_pre (T : List ByteArray) (s : ByteArray) : ∃ U, add T s = T ++ U := by
  by_cases h : s ∈ T
  · exact ⟨[], by rw [add_in h]; simp⟩
  · exact ⟨[s], add_not h⟩
theorem add_mem (T : List ByteArray) (s : ByteArray) : s ∈ add T s := by
  by_cases h : s ∈ T
  · rw [add_in h]; exact h
  · rw [add_not h]; simp
theorem add_nodup {T : List ByteArray} (h : T.Nodup) (s : ByteArray) : (add T s).Nodup := by
  by_cases hs : s ∈ T
  · rw [add_in hs]; exact h
  · rw [add_not hs, List.nodup_append]
    exact ⟨h, by simp, fun a ha b hb e => by simp at hb; subst hb; subst e; exact hs ha⟩
theorem adds_nil (T : List ByteArray) : adds T [] = T := rfl
theorem adds_cons (T : List ByteArray) (s : ByteArray) (l : List ByteArray) : adds T (s :: l) = adds (add T s) l := rfl
theorem adds_app (T : List ByteArray) (l m : List ByteArray) : adds T (l ++ m) = adds (adds T l) m := by simp [adds]
theorem adds_pre : ∀ (l T : List ByteArray), ∃ U, adds T l = T ++ U
  | [], T => ⟨[], by simp [adds]⟩
  | s :: l, T => by
    obtain ⟨U, hU⟩ := add_pre T s
    obtain ⟨V, hV⟩ := adds_pre l (add T s)
    exact ⟨U ++ V, by rw [adds_cons, hV, hU, List.append_assoc]⟩
theorem adds_sub {l T : List ByteArray} {s : ByteArray} (h : s ∈ T) : s ∈ adds T l := by
  obtain ⟨U, hU⟩ := adds_pre l T
  rw [hU]; simp [h]
theorem adds_mem : ∀ (l T : List ByteArray), ∀ s ∈ l, s ∈ adds T l
  | x :: l, T, s, h => by
    rw [adds_cons]
    rcases List.mem_cons.1 h with rfl | h
    · exact adds_sub (add_mem T s)
    · exact adds_mem l _ s h
theorem adds_nodup : ∀ (l T : List ByteArray), T.Nodup → (adds T l).Nodup
  | [], T, h => h
  | s :: l, T, h => adds_nodup l _ (add_nodup h s)
theorem adds_of : ∀ (l T : List ByteArray) (s : ByteArray), s ∈ adds T l → s ∈ T ∨ s ∈ l
  | [], T, s, h => .inl h
  | x :: l, T, s, h => by
    rw [adds_cons] at h
    rcases adds_of l _ s h with h | h
    · by_cases hx : x ∈ T
      · rw [add_in hx] at h; exact .inl h
      · rw [add_not hx] at h
        rcases List.mem_append.1 h with h | h
        · exact .inl h
        · simp at h; subst h; exact .inr (by simp)
    · exact .inr (by simp [h])
theorem add_len (T : List ByteArray) (s : ByteArray) : (add T s).length ≤ T.length + 1 := by
  by_cases h : s ∈ T
  · rw [add_in h]; omega
  · rw [add_not h]; simp
theorem adds_len : ∀ (l T : List ByteArray), (adds T l).length ≤ T.length + l.length
  | [], T => by simp [adds]
  | s :: l, T => by
    have h1 := add_len T s
    have h2 := adds_len l (add T s)
    rw [adds_cons]
    simp only [List.length_cons]
    omega
theorem adds_le (l T : List ByteArray) : T.length ≤ (adds T l).length := by
  obtain ⟨U, hU⟩ := adds_pre l T
  rw [hU]; simp
theorem ix_app {T : List ByteArray} (U : List ByteArray) {s : ByteArray} (h : s ∈ T) : ix (T ++ U) s = ix T s := by
  unfold ix
  rw [List.findIdx_append, if_pos (List.findIdx_lt_length_of_exists ⟨s, h, by simp⟩)]
theorem ix_adds {T : List ByteArray} (l : List ByteArray) {s : ByteArray} (h : s ∈ T) : ix (adds T l) s = ix T s := by
  obtain ⟨U, hU⟩ := adds_pre l T
  rw [hU]; exact ix_app U h
theorem ix_new {T : List ByteArray} {s : ByteArray} (h : s ∉ T) : ix (T ++ [s]) s = T.length := by
  unfold ix
  rw [List.findIdx_append, if_neg (fun hl => h ?_)]
  · simp
  · have := List.findIdx_getElem (p := fun x => decide (x = s)) (xs := T) (w := hl)
    have e := of_decide_eq_true this
    rw [← e]; exact List.getElem_mem _

/-- the texts of a span -/
def tex (x : Pn) : List ByteArray := x.1.sv :: x.1.nm :: x.2.map At.key
noncomputable def texts (L : List Pn) : List ByteArray := adds [] (L.flatMap tex)
theorem texts_snoc (L : List Pn) (x : Pn) : texts (L ++ [x]) = adds (texts L) (tex x) := by simp [texts, adds_app]
theorem texts_take {L : List Pn} (k : Nat) (h : k < L.length) : texts (L.take (k + 1)) = adds (texts (L.take k)) (tex L[k]) := by
  rw [← List.take_append_getElem h, texts_snoc]
theorem texts_pre (L M : List Pn) : ∃ U, texts (L ++ M) = texts L ++ U := by
  unfold texts
  rw [List.flatMap_append, adds_app]
  exact adds_pre _ _
theorem texts_le (L : List Pn) (k : Nat) : (texts (L.take k)).length ≤ (texts L).length := by
  obtain ⟨U, hU⟩ := texts_pre (L.take k) (L.drop k)
  rw [List.take_append_drop] at hU
  rw [hU]; simp
theorem texts_nodup (L : List Pn) : (texts L).Nodup := adds_nodup _ _ List.nodup_nil
theorem texts_mem {L : List Pn} {x : Pn} (h : x ∈ L) : ∀ s ∈ tex x, s ∈ texts L := fun s hs => adds_mem _ _ s (List.mem_flatMap.2 ⟨x, h, hs⟩)
theorem texts_of {L : List Pn} {s : ByteArray} (h : s ∈ texts L) : ∃ x ∈ L, s ∈ tex x := by
  rcases adds_of _ _ s h with h | h
  · cases h
  · exact List.mem_flatMap.1 h
theorem texts_len (L : List Pn) (q : Nat) (h : ∀ x ∈ L, x.2.length ≤ q) : (texts L).length ≤ L.length * (q + 2) := by
  refine Nat.le_trans (adds_len _ _) ?_
  simp only [List.length_nil, Nat.zero_add]
  induction L with
  | nil => simp
  | cons x L ih =>
    have h1 := ih fun y hy => h y (by simp [hy])
    have h2 := h x (by simp)
    simp only [List.flatMap_cons, List.length_append, List.length_cons, Nat.add_mul, tex, List.length_map] at h1 ⊢
    omega

/-! ### bytes -/
def byte (z : Int) : UInt8 := UInt8.ofNat (z.toNat)
/-- the bytes of an attribute, of a span, by a table -/
def atB (t : List ByteArray) (a : At) : List UInt8 := vby (ix t a.key) ++ vbs a.K a.N a.S
def midB (s : Sp) (n : Nat) : List UInt8 := [byte s.kd, byte s.st] ++ vby s.t0.toNat ++ vby s.t1.toNat ++ vby n
def headB (s : Sp) : List UInt8 := vby s.T.toNat ++ vby s.I.toNat ++ vby s.P.toNat
def twoB (t : List ByteArray) (s : Sp) : List UInt8 := vby (ix t s.sv) ++ vby (ix t s.nm)
def spB (t : List ByteArray) (x : Pn) : List UInt8 := headB x.1 ++ twoB t x.1 ++ midB x.1 x.2.length ++ x.2.flatMap (atB t)
theorem atB_adds {T : List ByteArray} (l : List ByteArray) {a : At} (h : a.key ∈ T) : atB (adds T l) a = atB T a := by
  unfold atB
  rw [ix_adds l h]
theorem ats_adds {T : List ByteArray} (l : List ByteArray) {m : List At} (h : ∀ a ∈ m, a.key ∈ T) : m.flatMap (atB (adds T l)) = m.flatMap (atB T) := by
  induction m with
  | nil => rfl
  | cons a m ih => rw [List.flatMap_cons, List.flatMap_cons, atB_adds l (h a (by simp)), ih fun b hb => h b (by simp [hb])]
theorem spB_adds {T : List ByteArray} (l : List ByteArray) {x : Pn} (h : ∀ s ∈ tex x, s ∈ T) : spB (adds T l) x = spB T x := by
  unfold spB twoB
  rw [ix_adds l (h _ (by simp [tex])), ix_adds l (h _ (by simp [tex])), ats_adds l fun a ha => h _ (by simp only [tex, List.mem_cons, List.mem_map]; exact .inr (.inr ⟨a, ha, rfl⟩))]
theorem spBs_adds {T : List ByteArray} (l : List ByteArray) {L : List Pn} (h : ∀ x ∈ L, ∀ s ∈ tex x, s ∈ T) : L.flatMap (spB (adds T l)) = L.flatMap (spB T) := by
  induction L with
  | nil => rfl
  | cons x L ih => rw [List.flatMap_cons, List.flatMap_cons, spB_adds l (h x (by simp)), ih fun y hy => h y (by simp [hy])]
/-- one span more: the bytes of those ahead stay -/
theorem spBs_snoc (L : List Pn) (x : Pn) : (L ++ [x]).flatMap (spB (texts (L ++ [x]))) = L.flatMap (spB (texts L)) ++ spB (adds (texts L) (tex x)) x := by
  rw [texts_snoc, List.flatMap_append, spBs_adds _ fun y hy => texts_mem hy]
  simp
noncomputable def body (L : List Pn) (n : Nat) (k : Nat) : List UInt8 := vby n ++ (L.take k).flatMap (spB (texts (L.take k)))
theorem body_zero (L : List Pn) (n : Nat) : body L n 0 = vby n := by simp [body]
theorem body_step {L : List Pn} {n k : Nat} (h : k < L.length) : body L n (k + 1) = body L n k ++ spB (adds (texts (L.take k)) (tex L[k])) L[k] := by
  unfold body
  rw [← List.take_append_getElem h, spBs_snoc]
  simp
/-- all bytes -/
noncomputable def okB (L : List Pn) : List UInt8 := tb (texts L) ++ (vby L.length ++ L.flatMap (spB (texts L)))
theorem okB_body (L : List Pn) : okB L = tb (texts L) ++ body L L.length L.length := by simp [okB, body]

theorem vby_le (n : Nat) : (vby n).length ≤ 10 := S05.vby_le n
theorem vbs_le (K N : Int) (S : ByteArray) : (vbs K N S).length ≤ 5000 := vbs_len K N S
theorem atB_len (t : List ByteArray) (a : At) : (atB t a).length ≤ 5010 := by
  have h1 := vby_le (ix t a.key)
  have h2 := vbs_le a.K a.N a.S
  simp only [atB, List.length_append]
  omega
theorem ats_len (t : List ByteArray) (l : List At) : (l.flatMap (atB t)).length ≤ l.length * 5010 := by
  induction l with
  | nil => simp
  | cons a l ih =>
    have := atB_len t a
    simp only [List.flatMap_cons, List.length_append, List.length_cons, Nat.add_mul]
    omega
theorem spB_len (t : List ByteArray) (x : Pn) : (spB t x).length ≤ 100 + x.2.length * 5010 := by
  have h := ats_len t x.2
  have a1 := vby_le x.1.T.toNat
  have a2 := vby_le x.1.I.toNat
  have a3 := vby_le x.1.P.toNat
  have a4 := vby_le x.1.t0.toNat
  have a5 := vby_le x.1.t1.toNat
  have a6 := vby_le (ix t x.1.sv)
  have a7 := vby_le (ix t x.1.nm)
  have a8 := vby_le x.2.length
  simp only [spB, headB, twoB, midB, List.length_append, List.length_cons, List.length_nil]
  omega

/-! ### what is wrong -/
def inB (z : Int) : Bool := decide (0 ≤ z ∧ z ≤ 255)
def rightA (a : At) : Bool := right a.K a.N a.S
def bad (x : Pn) : Bool := !(inB x.1.kd) || !(inB x.1.st) || !(x.2.all rightA)
def lng (x : Pn) : Bool := decide (16 < x.2.length) || decide (4096 < x.1.sv.size) || decide (4096 < x.1.nm.size) || x.2.any fun a => decide (4096 < a.key.size)
/-- the first error of a span -/
def ck (x : Pn) : Nat := if bad x then 1 else if lng x then 2 else 0
/-- the first error of spans -/
def cks : List Pn → Nat
  | [] => 0
  | x :: L => if ck x ≠ 0 then ck x else cks L
theorem cks_zero : ∀ {L : List Pn}, cks L = 0 ↔ ∀ x ∈ L, ck x = 0
  | [] => by simp [cks]
  | x :: L => by
    have ih := @cks_zero L
    unfold cks
    by_cases h : ck x = 0
    · simp [h, ih]
    · simp [h]
/-- what Put answers -/
noncomputable def putF (L : List Pn) : List UInt8 × Nat :=
  if 1024 < L.length then ([], 2) else if cks L ≠ 0 then ([], cks L) else if 65536 < (okB L).length then ([], 2) else (okB L, 0)
/-- where the errors stand: at k, none ahead -/
theorem cks_drop {L : List Pn} {k : Nat} (h : ∀ x ∈ L.take k, ck x = 0) : cks L = cks (L.drop k) := by
  induction k generalizing L with
  | zero => rfl
  | succ k ih =>
    cases L with
    | nil => rfl
    | cons x L =>
      have h1 : ck x = 0 := h x (by simp)
      rw [List.drop_succ_cons, ← ih (L := L) fun y hy => h y (by simp [hy])]
      simp [cks, h1]
theorem cks_at {L : List Pn} {k : Nat} (h : ∀ x ∈ L.take k, ck x = 0) (hk : k < L.length) (he : ck L[k] ≠ 0) : cks L = ck L[k] := by
  rw [cks_drop h, List.drop_eq_getElem_cons hk]
  simp [cks, he]
theorem ck_ok {x : Pn} (h : ck x = 0) : bad x = false ∧ lng x = false := by
  unfold ck at h
  cases hb : bad x <;> cases hl : lng x <;> simp [hb, hl] at h ⊢
end Go.Proofs.Ytndcdidepdcmnaa.B07
