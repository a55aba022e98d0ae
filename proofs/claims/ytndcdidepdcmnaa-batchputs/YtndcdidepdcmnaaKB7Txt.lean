/-
  writer.texts: texts' numbers behind the bytes that are there.
-/
import Derived.Test.YtndcdidepdcmnaaKB7Num
set_option linter.unusedSimpArgs false
set_option linter.unusedVariables false
namespace Go.Proofs.Ytndcdidepdcmnaa.B07
open Go.RowKit Go.Lib Go.Maps Go.Proofs.Ytndcdidepdcmnaa.Wd Go.Proofs.Ytndcdidepdcmnaa.V01 Go.Proofs.Ytndcdidepdcmnaa.V04 Go.Proofs.Ytndcdidepdcmnaa.P06
open Go.Proofs.Ytndcdidepdcmnaa.S05 (Fr Sub Tab ix put_there put_new put_long)

theorem Fr.wide {w w' : World} {o O : List Nat} (f : Fr o w w') (h : ∀ x ∈ o, x ∈ O) : Fr O w w' :=
  ⟨f.os, f.tape, f.output, f.size, fun k hk hn => f.block k hk fun hm => hn (h k hm)⟩
theorem Wrt.put {w w' : World} {g p : Nat} {T T' : List ByteArray} {o o' : List Nat} {A : Option Addr} {c : Nat} {b : List UInt8} (h : Wrt w g p T o A c b) (t : Tab w' p T' o') (f : Fr o w w') (s : Sub w o' o) :
    Wrt w' g p T' o' A c b ∧ Fr (owns g o A) w w' ∧ Sub w (owns g o' A) (owns g o A) := by
  have hl := h.lt
  refine ⟨⟨Fr.bk h.box f h.og, t, own_fr h.row f (fun k hk => ?_), Sub.out s h.box.lt h.og, fun a e => ⟨Sub.out s (hl _ (by rw [e]; exact owns_a)) (h.ra a e).1, (h.ra a e).2⟩⟩, Fr.wide f fun x hx => owns_o hx, fun x hx => ?_⟩
  · cases A with
    | none => cases hk
    | some a =>
      injection hk with e
      subst e
      exact (h.ra a rfl).1
  · rcases owns_cases hx with rfl | hx | ⟨a, rfl, rfl⟩
    · exact .inl (owns_g _ _ _)
    · rcases s x hx with h1 | h1
      · exact .inl (owns_o h1)
      · exact .inr h1
    · exact .inl owns_a
theorem tput (w : World) (g p : Nat) (T : List ByteArray) (o : List Nat) (A : Option Addr) (c : Nat) (b : List UInt8) (s : ByteArray) (n : Nat) (h : Wrt w g p T o A c b) (hz : s.size ≤ 4096) (hl : (add T s).length ≤ 4096) (hn : ix (add T s) s = n) :
    Calls Try.prog 58 #[.pointer (some ⟨p, 0, none⟩), .string s] w fun e w' => e = .returned (.tuple #[.int .i64 n, .int .i64 0]) ∧ Out w w' g (add T s) b (owns g o A) := by
  subst hn
  by_cases hs : s ∈ T
  · rw [add_in hs]
    refine (put_there w p T o s _ h.tab hs rfl).mono ?_
    rintro e w' ⟨rfl, rfl⟩
    exact ⟨rfl, _, ⟨p, o, A, c, h, rfl⟩, Fr.refl _ _, Sub.refl _ _⟩
  · rw [add_not hs] at hl ⊢
    rw [ix_new hs]
    refine (put_new w p T o s _ h.tab hs hz rfl (by simpa using hl)).mono ?_
    rintro e w' ⟨rfl, o', h1, h2, h3⟩
    obtain ⟨k1, k2, k3⟩ := h.put h1 h2 h3
    exact ⟨rfl, _, ⟨p, o', A, c, k1, rfl⟩, k2, k3⟩

/-- the bytes of texts' numbers -/
noncomputable def numB (T : List ByteArray) (ss : List ByteArray) (k : Nat) : List UInt8 := (ss.take k).flatMap fun s => vby (ix (adds T (ss.take k)) s)
theorem adds_step {ss : List ByteArray} (T : List ByteArray) {k : Nat} (h : k < ss.length) : adds T (ss.take (k + 1)) = add (adds T (ss.take k)) ss[k] := by
  rw [← List.take_append_getElem h, adds_app]
  rfl
theorem numB_step {ss : List ByteArray} (T : List ByteArray) {k : Nat} (h : k < ss.length) : numB T ss (k + 1) = numB T ss k ++ vby (ix (add (adds T (ss.take k)) ss[k]) ss[k]) := by
  unfold numB
  rw [adds_step T h]
  conv => lhs; rw [← List.take_append_getElem h, List.flatMap_append]
  congr 1
  · have : ∀ l : List ByteArray, (∀ s ∈ l, s ∈ adds T (ss.take k)) → (l.flatMap fun s => vby (ix (add (adds T (ss.take k)) ss[k]) s)) = l.flatMap fun s => vby (ix (adds T (ss.take k)) s) := fun l hl => by
      induction l with
      | nil => rfl
      | cons s l ih =>
        have := ix_adds [ss[k]] (hl s (by simp))
        rw [adds_cons, adds_nil] at this
        rw [List.flatMap_cons, List.flatMap_cons, ih fun t ht => hl t (by simp [ht]), this]
    exact this _ fun s hs => adds_mem _ _ s hs
  · simp
theorem numB_len (T ss : List ByteArray) : ∀ k, (numB T ss k).length ≤ k * 10
  | 0 => by simp [numB]
  | k + 1 => by
    by_cases h : k < ss.length
    · rw [numB_step T h, List.length_append]
      have := numB_len T ss k
      have := vby_le (ix (add (adds T (ss.take k)) ss[k]) ss[k])
      omega
    · have e : numB T ss (k + 1) = numB T ss k := by
        unfold numB
        rw [List.take_of_length_le (by omega : ss.length ≤ k + 1), List.take_of_length_le (by omega : ss.length ≤ k)]
      have := numB_len T ss k
      rw [e]
      omega
theorem adds_take_le (T ss : List ByteArray) (k : Nat) : (adds T (ss.take k)).length ≤ (adds T ss).length := by
  obtain ⟨U, hU⟩ := adds_pre (ss.drop k) (adds T (ss.take k))
  rw [← adds_app, List.take_append_drop] at hU
  rw [hU]; simp
def tooLong (ss : List ByteArray) : Bool := ss.any fun s => decide (4096 < s.size)
/-- what texts leaves -/
def TxOut (w : World) (g : Nat) (T ss : List ByteArray) (b : List UInt8) (O : List Nat) (code : Nat) (e : Ending) (w' : World) : Prop :=
  e = .returned (.int .i64 code) ∧ Fr O w w' ∧ (code = 0 → Out w w' g (adds T ss) (b ++ numB T ss ss.length) O)

structure TxR (w : World) (g : Nat) (T ss : List ByteArray) (b : List UInt8) (O : List Nat) (A : Option Addr) (c : Nat) (k : Nat) (wr : World) : Prop where
  out : Out w wr g (adds T (ss.take k)) (b ++ numB T ss k) O
  ok : ∀ s ∈ ss.take k, s.size ≤ 4096
  str : ∀ (j : Nat) (ad : Addr) (v : Value), A = some ad → w.cell? (ad.add j) = some v → wr.cell? (ad.add j) = some v
theorem ss_keep {w wr : World} {O : List Nat} {A : Option Addr} (hd : ∀ a, A = some a → a.block ∉ O) (f : Fr O w wr) : ∀ (j : Nat) (ad : Addr) (v : Value), A = some ad → w.cell? (ad.add j) = some v → wr.cell? (ad.add j) = some v := fun j ad v ha hv => by
  have hb := World.block_lt_of_cell? _ _ hv
  rw [add_block] at hb
  rw [World.cell?_of_block (w := w) (w' := wr) (by rw [add_block]; exact f.block _ hb (hd ad ha))]
  exact hv

set_option maxRecDepth 20000 in
set_option maxHeartbeats 1000000 in
theorem texts_any (w : World) (g : Nat) (T ss : List ByteArray) (b : List UInt8) (O : List Nat) (A : Option Addr) (c n : Nat) (code : Nat) (h : Wx w g T b O) (hS : Ss w A c ss) (hn : ss.length = n) (hd : ∀ a, A = some a → a.block ∉ O)
    (hl : (adds T ss).length ≤ 4096) (hz : ∀ s ∈ ss, s.size ≤ 65536) (hb : b.length ≤ 900000000) (hm : n ≤ 100) (hc : code = if tooLong ss then 2 else 0) :
    Calls Try.prog 44 #[.pointer (some ⟨g, 0, none⟩), .slice A n c] w (TxOut w g T ss b O code) := by
  have hT0 : TxR w g T ss b O A c 0 w := ⟨⟨O, by simpa [numB, adds_nil] using h, Fr.refl _ _, Sub.refl _ _⟩, by simp, fun _ _ _ _ h => h⟩
  have HN := Lib.hid hn
  have HC := Lib.hid hc
  clear hn h hc
  go_enter Try.func44, Try.ntmps44
  go_wp2_with fail
  go_loopw [11] (fun v wr => ∃ k : Nat, v = .int .i64 k ∧ k ≤ n ∧ TxR w g T ss b O A c k wr) (fun v _ => n - (intOf v).toNat)
  case atStart => exact ⟨0, rfl, Nat.zero_le _, hT0⟩
  case round =>
    clear hT0
    obtain ⟨k, rfl, hk, R⟩ := hrel
    by_cases hlt : k < n
    · have hltz : (k : Int) < (n : Int) := by omega
      have hkl : k < ss.length := by rw [un HN]; exact hlt
      obtain ⟨ad, rfl, hcell⟩ := hS.get hkl
      have hcell := R.str k ad _ rfl hcell
      obtain ⟨O1, W1, f1, s1⟩ := R.out
      obtain ⟨p, o, A1, c1, W1, rfl⟩ := W1
      have k0 : wr.cell? ⟨g, 0, none⟩ = some (.pointer (some ⟨p, 0, none⟩)) := W1.box.cell 0
      have hzk := hz _ (List.getElem_mem hkl)
      obtain ⟨s, hs⟩ : ∃ s, ss[k] = s := ⟨_, rfl⟩
      rw [hs] at hcell hzk
      by_cases h4 : 4096 < s.size
      · have hcode : code = 2 := by
          rw [un HC, if_pos]
          unfold tooLong
          rw [List.any_eq_true]
          exact ⟨s, by rw [← hs]; exact List.getElem_mem hkl, by simpa using h4⟩
        have hput := put_long wr p s h4 hzk
        have HS := Lib.hid hs
        have HF := Lib.hid f1
        clear hs s1 W1 R f1 hS hz hl
        go_wp2_with fail
        refine hput.mono ?_
        rintro e w2 ⟨rfl, rfl⟩
        go_wp2
        go_ret
        refine ⟨by rw [hcode]; rfl, HF.out, fun h0 => ?_⟩
        omega
      · have hz4 : s.size ≤ 4096 := by omega
        have hl2 : (add (adds T (ss.take k)) s).length ≤ 4096 := by
          rw [← hs, ← adds_step T hkl]
          exact Nat.le_trans (adds_take_le T ss (k + 1)) hl
        obtain ⟨q, hq⟩ : ∃ q, ix (add (adds T (ss.take k)) s) s = q := ⟨_, rfl⟩
        have hq1 : q ≤ 4096 := by
          have := S05.ix_lt (add_mem (adds T (ss.take k)) s)
          omega
        have hput := tput wr g p _ o A1 c1 _ s q W1 hz4 hl2 hq
        have hlen := numB_len T ss k
        have hnum := fun (w2 : World) (O2 : List Nat) (hW : Wx w2 g (add (adds T (ss.take k)) s) (b ++ numB T ss k) O2) => number_any w2 g _ (b ++ numB T ss k) (b ++ numB T ss (k + 1)) O2 (q : Int) q hW rfl (by omega) (by rw [List.length_append]; omega) (by rw [numB_step T hkl, hs, hq, List.append_assoc])
        have he : adds T (ss.take (k + 1)) = add (adds T (ss.take k)) s := by rw [adds_step T hkl, hs]
        have hok : ∀ t ∈ ss.take (k + 1), t.size ≤ 4096 := fun t ht => by
          rw [← List.take_append_getElem hkl] at ht
          rcases List.mem_append.1 ht with ht | ht
          · exact R.ok t ht
          · simp at ht; rw [ht, hs]; exact hz4
        have HE := Lib.hid he
        have HO := Lib.hid hok
        have HF := Lib.hid f1
        have H1 := Lib.hid s1
        clear he hok f1 s1 hs hq W1 R hS hz hl hl2 hlen
        go_wp2_with fail
        refine hput.mono ?_
        rintro e w2 ⟨rfl, O2, W2, f2, s2⟩
        have HW2 := hnum w2 O2 W2
        have F2 := Lib.hid f2
        have S2 := Lib.hid s2
        clear hnum hput W2 f2 s2 hcell k0
        go_wp2_with fail
        refine HW2.mono ?_
        rintro e w3 ⟨rfl, O3, W3, f3, s3⟩
        have hR : TxR w g T ss b O (some ad) c (k + 1) w3 := by
          have hf : Fr O w w3 := (HF.out.trans F2.out H1.out).trans f3 (H1.out.trans S2.out HF.out.size)
          refine ⟨⟨O3, by rw [HE.out]; exact W3, hf, (H1.out.trans S2.out HF.out.size).trans s3 (HF.out.trans F2.out H1.out).size⟩, HO.out, ss_keep hd hf⟩
        clear HW2 W3 f3 s3 F2 S2 HE HO HF H1
        go_wp2
        go_roundw
        case rel => exact ⟨k + 1, by go_num, by omega, hR⟩
        case measure => first | go_num | (simp [intOf]; omega)
    · have hltz : ¬ ((k : Int) < (n : Int)) := by omega
      have hkn : k = n := by omega
      subst hkn
      have hcode : code = 0 := by
        rw [un HC, if_neg]
        intro ht
        unfold tooLong at ht
        rw [List.any_eq_true] at ht
        obtain ⟨s, hs, h4⟩ := ht
        have := R.ok s (by rw [List.take_of_length_le (by rw [un HN]; exact Nat.le_refl _)]; exact hs)
        simp at h4
        omega
      have hO := R.out
      rw [List.take_of_length_le (by rw [un HN]; exact Nat.le_refl _)] at hO
      obtain ⟨O1, W1, f1, s1⟩ := hO
      have hOut : Out w wr g (adds T ss) (b ++ numB T ss ss.length) O := ⟨O1, by rw [un HN]; exact W1, f1, s1⟩
      have HF := Lib.hid f1
      have HT := Lib.hid hOut
      clear W1 f1 s1 R hOut hS hz hl
      go_wp2
      go_ret
      exact ⟨rfl, HF.out, fun _ => HT.out⟩
end Go.Proofs.Ytndcdidepdcmnaa.B07
