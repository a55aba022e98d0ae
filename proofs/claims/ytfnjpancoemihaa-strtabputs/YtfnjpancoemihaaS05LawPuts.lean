/-
  The walk of StrtabPuts: how any texts are numbered.
-/
import Derived.Test.YtfnjpancoemihaaS05Alive
import Derived.Test.YtfnjpancoemihaaS05RefBytes
namespace Go.Proofs.Ytfnjpancoemihaa.S05
open Go.RowKit Go.Lib Go.Maps Go.Proofs.Ytfnjpancoemihaa.Wd Go.Proofs.Ytfnjpancoemihaa.V01

/-- a table, and a row of the same texts beside it -/
structure Inv (w wr : World) (p : Nat) (M : List ByteArray) (o : List Nat) (A : Option Addr) (n c : Nat) : Prop where
  tab : Tab wr p M o
  new : ∀ y ∈ o, w.heap.size ≤ y
  row : wr.ownsRow w.heap.size 9 1 (.slice A n c) n (sc M)
  apart : ∀ a, A = some a → a.block ∉ o
  len : M.length = n
  below : Below w.heap.size w wr
theorem Inv.put {w wr w2 : World} {p : Nat} {M M' : List ByteArray} {o o' : List Nat} {A : Option Addr} {n c : Nat} (h : Inv w wr p M o A n c) (f : Fr o wr w2) (s : Sub wr o' o) (_t : Tab w2 p M' o') :
    (∀ y ∈ o', w.heap.size ≤ y) ∧ w2.ownsRow w.heap.size 9 1 (.slice A n c) n (sc M) ∧ (∀ a, A = some a → a.block ∉ o') ∧ Below w.heap.size w w2 := by
  have hlt : ∀ a, A = some a → a.block < wr.heap.size := fun a e => by
    subst e
    exact (h.row.lt _ rfl).2
  refine ⟨s.above h.below.size h.new, row_kept h.row (fun k hk => ?_), fun a e hm => ?_, h.below.trans (f.below h.below.size h.new)⟩
  · cases A with
    | none => cases hk
    | some a =>
      injection hk with hk
      subst hk
      exact f.block _ (hlt a rfl) (h.apart a rfl)
  · rcases s _ hm with h1 | h1
    · exact h.apart a e h1
    · have := hlt a e; omega
theorem Inv.app {w w2 w3 : World} {p : Nat} {M' : List ByteArray} {o' : List Nat} {A A' : Option Addr} {n m c c' : Nat} {ob : Obj} (t : Tab w2 p M' o') (hn : ∀ y ∈ o', w.heap.size ≤ y) (ha : ∀ a, A = some a → a.block ∉ o') (hl : M'.length = m) (hb : Below w.heap.size w w2)
    (hrow0 : w2.ownsRow w.heap.size 9 1 (.slice A n c) n (sc (M'.take n)))
    (hrow : w3.ownsRow w.heap.size 9 1 (.slice A' m c') m (sc M')) (hg : (w2.alloc ob).grownBy w3 (Value.slice A n c).ownBlock)
    (hat : (Value.slice A' m c').ownBlock = (Value.slice A n c).ownBlock ∨ (Value.slice A' m c').ownBlock = some (w2.alloc ob).heap.size) : Inv w w3 p M' o' A' m c' := by
  have hlt := t.lt
  have hne : ∀ k, (Value.slice A n c).ownBlock = some k → k ∉ o' := fun k hk => by
    cases A with
    | none => cases hk
    | some a =>
      injection hk with hk
      subst hk
      exact ha a rfl
  have hk : ∀ x ∈ o', w3.heap[x]? = w2.heap[x]? := fun x hx => by
    rw [hg.block x (by simp; have := hlt x hx; omega) (fun e => hne x e.symm hx), Below.heap_alloc w2 _ x (hlt x hx)]
  refine ⟨?_, hn, hrow, fun a e hm => ?_, hl, ?_⟩
  · obtain ⟨TA, tc, M1, t, rfl⟩ := t
    exact ⟨TA, tc, M1, t.same hk, rfl⟩
  · subst e
    rcases hat with h1 | h1
    · exact hne a.block h1.symm hm
    · injection h1 with h1
      have := hlt a.block hm
      simp at h1
      omega
  · exact (hb.alloc hb.size _).grown hg (by simp; have := hb.size; omega) (fun k hk => (hrow0.lt k hk).1)

set_option maxRecDepth 20000 in
set_option maxHeartbeats 4000000 in
theorem puts_law (A : Option Addr) (c : Nat) (l : List ByteArray) (w : World) (hS : Ss w A c l) (hz : ∀ s ∈ l, s.size ≤ maxLen) :
    Calls Try.prog 3 #[.slice A l.length c] w fun e w' => e = .returned (.bool true) ∧ Below w.heap.size w w' := by
  obtain ⟨i0, hi, hz0, hz1, hz2⟩ := info_parts text_info
  have hmax := hS.max
  have hcap := hS.cap
  unfold maxLen at hmax hz
  by_cases hl : l.length ≤ 200
  · obtain ⟨len, hlen⟩ : ∃ n, l.length = n := ⟨_, rfl⟩
    rw [hlen] at hl hcap ⊢
    have HL := Lib.hid hlen
    clear hlen
    go_enter Try.func3, Try.ntmps3
    go_wp2_with fail
    refine (alive_any _).mono ?_
    rintro e w1 ⟨rfl, hb1⟩
    go_wp2_with fail
    refine (new_any w1).mono ?_
    rintro e w2 ⟨rfl, hT2, hb2⟩
    have hbw := hb1.trans (hb2.mono hb1.size)
    obtain ⟨p, hp⟩ : ∃ p, w1.heap.size = p := ⟨_, rfl⟩
    have hp1 := hb1.size
    rw [hp] at hT2 hp1 ⊢
    clear hb1 hb2 hp
    go_wp2_with fail
    go_loopw [4, 5] (fun v i wr => ∃ (k n : Nat) (M : List ByteArray) (o : List Nat) (A' : Option Addr) (c' : Nat), v = .slice A' n c' ∧ i = .int .i64 (k : Nat) ∧ k ≤ len ∧ n ≤ k ∧ Inv w wr p M o A' n c') (fun _ i _ => len - (RowKit.intOf i).toNat)
    case atStart => exact ⟨0, 0, [], _, none, 0, rfl, rfl, by omega, by omega, ⟨hT2, by simpa using hp1, World.ownsRow_nil _ _ _ _, fun a e => (by cases e), rfl, hbw⟩⟩
    case round =>
      obtain ⟨k, n, M, o, A2, c2, rfl, rfl, hk, hnk, I⟩ := hrel
      have hb := I.below
      clear hT2 hbw
      by_cases hkl : k < len
      · have hkL : k < l.length := by rw [HL.out]; exact hkl
        obtain ⟨ad, rfl, hc⟩ := hS.get hkL
        have hzk := hz _ (List.getElem_mem hkL)
        have hblk := World.block_lt_of_cell? _ _ hc
        obtain ⟨s, hs⟩ : ∃ s, l[k] = s := ⟨_, rfl⟩
        rw [hs] at hc hzk
        have hcr := (hb.cell hblk).trans hc
        have hfind := find_any A2 c2 n M s
        have HM := Lib.hid I.len
        clear hs hS hz
        by_cases h5 : 5000 < s.size
        · have h5i : (5000 : Int) < s.size := by omega
          clear I hfind
          go_wp2
          go_ret
          exact ⟨rfl, hb⟩
        · by_cases h4 : 4096 < s.size
          · have h4i : (4096 : Int) < s.size := by omega
            have hmem : s ∉ M := fun hm => by have := I.tab.size s hm; omega
            have hput := put_long wr p s h4 (by omega)
            have hf := hfind wr (Ss.own (by rw [HM.out]; exact I.row)) HM.out
            have HI := Lib.hid I
            have HX := Lib.hid hmem
            clear I hmem hfind
            go_wp2_with fail
            refine hput.mono ?_
            rintro e w3 ⟨rfl, rfl⟩
            go_wp2_with fail
            refine hf.mono ?_
            rintro e w3 ⟨z, rfl, rfl, f1, f2⟩
            obtain rfl := f2 HX.out
            clear f1 f2 hf hput
            go_wp2
            go_roundw
            case rel => exact ⟨k + 1, n, M, o, A2, c2, rfl, by go_num, by omega, by omega, HI.out⟩
            case measure => simp [RowKit.intOf]; omega
          · by_cases hm : s ∈ M
            · obtain ⟨q, hq⟩ : ∃ q, ix M s = q := ⟨_, rfl⟩
              have hput := put_there wr p M o s q I.tab hm hq
              have hf := hfind wr (Ss.own (by rw [HM.out]; exact I.row)) HM.out
              have HI := Lib.hid I
              have HX := Lib.hid hm
              have HQ := Lib.hid hq
              have hqn : q < n := by rw [← hq, ← HM.out]; exact ix_lt hm
              clear I hm hfind hq
              go_wp2_with fail
              refine hput.mono ?_
              rintro e w3 ⟨rfl, rfl⟩
              go_wp2_with fail
              refine hf.mono ?_
              rintro e w3 ⟨z, rfl, rfl, f1, f2⟩
              obtain rfl := f1 HX.out
              rw [HQ.out]
              clear f1 f2 hf hput
              go_wp2
              go_roundw
              case rel => exact ⟨k + 1, n, M, o, A2, c2, rfl, by go_num, by omega, by omega, HI.out⟩
              case measure => simp [RowKit.intOf]; omega
            · have hput := put_new wr p M o s n I.tab hm (by omega) HM.out (by omega)
              have HX := Lib.hid hm
              have hbs := hb.size
              clear hm
              go_wp2_with fail
              refine hput.mono ?_
              rintro e w3 ⟨rfl, o', t3, f3, s3⟩
              obtain ⟨n3, r3, a3, b3⟩ := I.put f3 s3 t3
              have hc3 := (b3.cell hblk).trans hc
              have hf := hfind w3 (Ss.own (by rw [HM.out]; exact r3)) HM.out
              clear I f3 s3 hput hcr hfind
              go_wp2_with fail
              refine hf.mono ?_
              rintro e w4 ⟨z, rfl, rfl, f1, f2⟩
              obtain rfl := f2 HX.out
              clear f1 f2 hf
              have h3s := b3.size
              go_wp2_with (at_builtin; refine wpList_append_one_at w3 rfl (.tmp 58) (.tmp 63) 22 rfl w.heap.size 9 i0 _ 16 Try.underlying22 hi hz0 hz1 hz2 rfl (.slice A2 n c2) n (sc M) rfl r3 (.string s) _ rfl rfl rfl ?d1 ?d2 ?d3 ?_)
              case d1 => unfold maxLen; omega
              case d2 => omega
              case d3 => exact h3s
              intro A' c' w4 hrow4 hg4 hat4
              have hml : (M ++ [s]).length = n + 1 := by simp [HM.out]
              have I4 : Inv w w4 p (M ++ [s]) o' A' (n + 1) c' := Inv.app (n := n) (m := n + 1) t3 n3 a3 hml b3 (by rw [List.take_left' HM.out]; exact r3) (by rw [sc_app]; exact hrow4) hg4 (by simpa using hat4)
              have HI := Lib.hid I4
              clear I4 hml hrow4 hg4 hat4 r3 a3 n3 t3 hc3 b3
              go_wp2
              go_roundw
              case rel => exact ⟨k + 1, n + 1, M ++ [s], o', A', c', rfl, by go_num, by omega, by omega, HI.out⟩
              case measure => simp [RowKit.intOf]; omega
      · have hS2 : Ss wr A2 c2 M := Ss.own (by rw [I.len]; exact I.row)
        have hsh := shows_any wr p M o A2 c2 n I.tab hS2 I.len
        have hby := bytes_tab wr p M o _ I.tab rfl
        have HM := Lib.hid I.len
        have hsz := I.tab.size
        have hz4 : n ≤ 4096 := by omega
        clear I hS hz
        obtain ⟨r, hr⟩ : ∃ r, tb M = r := ⟨_, rfl⟩
        rw [hr] at hby
        go_wp2_with fail
        refine hsh.mono ?_
        rintro e w3 ⟨rfl, rfl⟩
        go_wp2_with fail
        refine hby.mono ?_
        rintro e w3 ⟨A3, c3, rfl, hown3, hb3⟩
        have hb3' := hb.trans (hb3.mono hb.size)
        have hB3 := Bs.own hown3
        have hS3 := hS2.below hb3
        clear hown3 hb3 hS2 hby hsh
        go_wp2_with fail
        refine (refbytes_any A2 c2 n M r _ hS3 HM.out hz4 hsz hr).mono ?_
        rintro e w4 ⟨A4, c4, rfl, hown4, hb4⟩
        have hb4' := hb3'.trans (hb4.mono hb3'.size)
        have hB4 := Bs.own hown4
        have hB3' := hB3.below hb4
        clear hown4 hb4 hS3 hb3' hB3 hr
        go_wp2_with fail
        refine (bytes_at A3 A4 c3 c4 _ _ r r true _ hB3' hB4 rfl rfl (by simp)).mono ?_
        rintro e w5 ⟨rfl, rfl⟩
        go_wp2
        go_ret
        exact ⟨rfl, hb4'⟩
  · have h1 : (200 : Int) < l.length := by omega
    go_enter Try.func3, Try.ntmps3
    go_wp2_with fail
    refine (alive_any _).mono ?_
    rintro e w1 ⟨rfl, hb1⟩
    go_wp2
    go_ret
    exact ⟨rfl, hb1⟩
end Go.Proofs.Ytfnjpancoemihaa.S05
