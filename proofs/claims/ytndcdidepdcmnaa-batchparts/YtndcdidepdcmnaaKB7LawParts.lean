/-
  The walk of BatchParts: parts of a list, and what is got is the caller's.
-/
import Derived.Test.YtndcdidepdcmnaaKB7LawBack
import Derived.Test.YtndcdidepdcmnaaKB7Part
set_option linter.unusedSimpArgs false
set_option linter.unusedVariables false
namespace Go.Proofs.Ytndcdidepdcmnaa.B07
open Go.RowKit Go.Lib Go.Maps Go.Proofs.Ytndcdidepdcmnaa.Wd Go.Proofs.Ytndcdidepdcmnaa.V01 Go.Proofs.Ytndcdidepdcmnaa.V04 Go.Proofs.Ytndcdidepdcmnaa.P06 Go.Proofs.Ytndcdidepdcmnaa.Q07

theorem Sps.take {w : World} {A : Option Addr} {c : Nat} {L : List Spn} (h : Sps w A c L) (k : Nat) (hk : k ≤ L.length) : Sps w A c (L.take k) := by
  have hl : (L.take k).length = k := by simp; omega
  refine ⟨⟨tm_len _, fun e => ?_, ?_, h.rd.max, fun ad ha i u hu => ?_⟩, fun x hx => h.ats x (List.mem_of_mem_take hx)⟩
  · obtain ⟨h1, h2⟩ := h.rd.none_ e
    exact ⟨by omega, h2⟩
  · have := h.rd.cap; omega
  · refine h.rd.at_ ad ha i u ?_
    rw [← List.take_append_drop k L, List.flatMap_append]
    rw [List.getElem?_append_left (List.getElem?_eq_some_iff.1 hu).1]
    exact hu

/-- what a caller may write: the texts in a list of spans of its own -/
structure Mx (B : Nat) (w : World) (g n : Nat) (X : List Spn) : Prop where
  len : X.length = n
  gB : B ≤ g
  gl : g < w.heap.size
  fz : ∀ o, w.frozen? ⟨g, o, none⟩ = false
  sv : ∀ i, i < n → ∃ s, w.cell? ⟨g, i * 10 + 3, none⟩ = some (.string s)
  at_ : ∀ i (h : i < X.length), w.cell? ⟨g, i * 10 + 9, none⟩ = some (.slice X[i].A X[i].l.length X[i].c)
  ks : ∀ i (h : i < X.length) j, j < X[i].l.length → ∃ q s, X[i].A = some ⟨q, 0, none⟩ ∧ q ≠ g ∧ B ≤ q ∧ q < w.heap.size ∧ w.cell? ⟨q, j * 4, none⟩ = some (.string s) ∧ w.frozen? ⟨q, j * 4, none⟩ = false
theorem cell_str {w : World} {a b : Addr} {s v : ByteArray} (h : w.cell? b = some (.string s)) : ∃ s', (w.setCell a (.string v)).cell? b = some (.string s') := by
  by_cases e : a = b
  · subst e
    exact ⟨v, World.cell?_setCell_same _ _ _ h⟩
  · exact ⟨s, by rw [World.cell?_setCell_other _ _ _ _ e]; exact h⟩
theorem Mx.set_sv {B : Nat} {w : World} {g n : Nat} {X : List Spn} (h : Mx B w g n X) (i : Nat) (v : ByteArray) : Mx B (w.setCell ⟨g, i * 10 + 3, none⟩ (.string v)) g n X := by
  refine ⟨h.len, h.gB, by simpa using h.gl, fun o => by simpa using h.fz o, fun k hk => ?_, fun k hk => ?_, fun k hk j hj => ?_⟩
  · obtain ⟨s, hs⟩ := h.sv k hk
    exact cell_str hs
  · rw [World.cell?_setCell_other _ _ _ _ (fun e => by injection e with _ e _; omega)]
    exact h.at_ k hk
  · obtain ⟨q, s, h1, h2, h3, h4, h5, h6⟩ := h.ks k hk j hj
    obtain ⟨s', hs'⟩ := cell_str (a := ⟨g, i * 10 + 3, none⟩) (v := v) h5
    exact ⟨q, s', h1, h2, h3, by simpa using h4, hs', by simpa using h6⟩
theorem Mx.set_key {B : Nat} {w : World} {g n : Nat} {X : List Spn} (h : Mx B w g n X) (q o : Nat) (v : ByteArray) (hq : q ≠ g) : Mx B (w.setCell ⟨q, o, none⟩ (.string v)) g n X := by
  refine ⟨h.len, h.gB, by simpa using h.gl, fun o => by simpa using h.fz o, fun k hk => ?_, fun k hk => ?_, fun k hk j hj => ?_⟩
  · obtain ⟨s, hs⟩ := h.sv k hk
    exact cell_str hs
  · rw [World.cell?_setCell_other _ _ _ _ (fun e => by injection e with e _ _; exact hq e)]
    exact h.at_ k hk
  · obtain ⟨q', s, h1, h2, h3, h4, h5, h6⟩ := h.ks k hk j hj
    obtain ⟨s', hs'⟩ := cell_str (a := ⟨q, o, none⟩) (v := v) h5
    exact ⟨q', s', h1, h2, h3, by simpa using h4, hs', by simpa using h6⟩
theorem Mx.of {B : Nat} {t : TypeId} {w : World} {A : Option Addr} {c : Nat} {X : List Spn} (h : OwnS B t w A c X) (hl : 0 < X.length) : ∃ g, A = some ⟨g, 0, none⟩ ∧ Mx B w g X.length X := by
  rcases h.row.2 with ⟨hv, hn⟩ | ⟨g, cap, cur, hv, hb, hg, hnc, hm, hcs, ht⟩
  · omega
  · injection hv with h1 h2 h3
    subst h1
    have hfz : ∀ o, w.frozen? ⟨g, o, none⟩ = false := fun o => h.row.frozenAt o
    have H : ∀ i (hi : i < X.length), Ten w ⟨g, i * 10, none⟩ X[i] := fun i hi => by
      obtain ⟨ad, p, e, hp, F⟩ := h.sps.get hi
      injection e with e
      subst e
      rw [Addr.add_lit, Nat.zero_add] at hp
      subst hp
      exact F
    refine ⟨g, rfl, rfl, hb, (Array.getElem?_eq_some_iff.1 hg).1, hfz, fun i hi => ⟨_, (H i hi).c3⟩, fun i hi => (H i hi).c9, fun i hi j hj => ?_⟩
    have hx := h.ats X[i] (List.getElem_mem hi)
    have hap := h.apart ⟨g, 0, none⟩ rfl X[i] (List.getElem_mem hi)
    rcases hx with ⟨_, _, e⟩ | ⟨q, hA, hB, hq, hH, r⟩
    · rw [e] at hj; simp at hj
    · have F := Hd.four hH hj
      refine ⟨q, _, hA, hap _ hA, hB, hq, F.c0, ?_⟩
      have := (hH (j * 4) (by simp only [Go.Sort.size_flatK, List.size_toArray]; omega)).2
      simpa using this

theorem below_set {B : Nat} {w w' : World} (h : Below B w w') {b : Nat} (o : Nat) (v : Value) (hb : B ≤ b) : Below B w (w'.setCell ⟨b, o, none⟩ v) :=
  ⟨h.os, h.tape, h.output, by simpa using h.size, fun k hk => by rw [heap_set _ _ _ _ _ (by omega)]; exact h.block k hk⟩
/-- same bytes just if they are the same -/
theorem same_bytes {L M : List Pn} {a b : List UInt8} (hL : ∀ x ∈ L, OkP x) (hM : ∀ x ∈ M, OkP x) (tL : (texts L).length ≤ 4096) (tM : (texts M).length ≤ 4096) (ha : putF L = (a, 0)) (hb : putF M = (b, 0)) : a = b ↔ L = M := by
  constructor
  · rintro rfl
    have h1 := (get_put_b (fun x hx => (hL x hx).ok) tL ha).1
    have h2 := (get_put_b (fun x hx => (hM x hx).ok) tM hb).1
    rw [h1] at h2
    injection h2
  · rintro rfl
    rw [ha] at hb
    injection hb

set_option maxRecDepth 20000 in
set_option maxHeartbeats 8000000 in
theorem parts_law (A : Option Addr) (c : Nat) (L : List Spn) (B : Option Addr) (d : Nat) (M : List Spn) (t : Nat) (w : World) (hS : Sps w A c L) (hok : ∀ x ∈ pns L, OkP x) (hS' : Sps w B d M) (hok' : ∀ x ∈ pns M, OkP x) (ht : t ≤ 255) :
    Calls Try.prog 6 #[.slice A L.length c, .slice B M.length d, .int .u8 (t : Int)] w fun e w' => e = .returned (.bool true) ∧ Below w.heap.size w w' := by
  have hmax : L.length ≤ 9223372036854775807 ∧ M.length ≤ 9223372036854775807 ∧ L.length ≤ c ∧ c ≤ 9223372036854775807 := by
    have h1 := hS.rd.max
    have h2 := hS.rd.cap
    have h3 := hS'.rd.max
    have h4 := hS'.rd.cap
    unfold maxLen at h1 h3
    omega
  obtain ⟨n, hn⟩ : ∃ n, L.length = n := ⟨_, rfl⟩
  obtain ⟨n2, hn2⟩ : ∃ n, M.length = n := ⟨_, rfl⟩
  rw [hn, hn2] at hmax ⊢
  have HN := Lib.hid hn
  have HN2 := Lib.hid hn2
  clear hn hn2
  go_enter Try.func6, Try.ntmps6
  go_wp2_with fail
  refine (alive_any _).mono ?_
  rintro e w1 ⟨rfl, b1⟩
  have hS1 := hS.below b1
  have hT1 := hS'.below b1
  have hf := fars_any w1 A c n L hS1 HN.out hmax.1
  clear hS hS'
  go_wp2_with fail
  refine hf.mono ?_
  rintro e w2 ⟨fb, rfl, hnear, b2⟩
  have bb2 := b1.trans (b2.mono b1.size)
  have hS2 := hS1.below b2
  have hT2 := hT1.below b2
  clear hf hS1 hT1 b1 b2
  cases fb with
  | true =>
    go_wp2
    go_ret
    exact ⟨rfl, bb2⟩
  | false =>
    have hNr := hnear rfl
    clear hnear
    have hf := fars_any w2 B d n2 M hT2 HN2.out hmax.2.1
    go_wp2_with fail
    refine hf.mono ?_
    rintro e w3 ⟨fb, rfl, hnear, b3⟩
    have bb3 := bb2.trans (b3.mono bb2.size)
    have hS3 := hS2.below b3
    have hT3 := hT2.below b3
    clear hf hS2 hT2 b3 bb2
    cases fb with
    | true =>
      go_wp2
      go_ret
      exact ⟨rfl, bb3⟩
    | false =>
      have hNr2 := hnear rfl
      clear hnear
      obtain ⟨hl1, hl2⟩ := near_len hNr
      obtain ⟨hm1, hm2⟩ := near_len hNr2
      rw [HN.out] at hl1
      rw [HN2.out] at hm1
      have hof := ofs_any w3 A c n L hS3 HN.out hl1 hl2
      go_wp2_with fail
      refine hof.mono ?_
      rintro e w4 ⟨A4, c4, M4, rfl, hMl4, hMp4, own4, b4⟩
      have bb4 := bb3.trans (b4.mono bb3.size)
      have hS4 := hS3.below b4
      have hT4 := hT3.below b4
      have hput := put_near w4 A4 c4 n M4 own4.sps hMl4 (by rw [hMp4]; exact hok) (by rw [hMp4]; exact hNr)
      rw [hMp4] at hput
      clear hof own4 hS3 hT3 bb3 b4 hMp4 hMl4
      go_wp2_with fail
      refine hput.mono ?_
      rintro e w5 ⟨h5, b5⟩
      have bb5 := bb4.trans (b5.mono bb4.size)
      have hS5 := hS4.below b5
      have hT5 := hT4.below b5
      clear hput hS4 hT4 b5 bb4
      obtain ⟨⟨a, ea⟩, hra⟩ : ∃ r, putF (pns L) = r := ⟨_, rfl⟩
      rw [hra] at h5
      dsimp only at h5
      have hof := ofs_any w5 B d n2 M hT5 HN2.out hm1 hm2
      obtain ⟨Va, hVa, hcase⟩ : ∃ Va : Value, e = .returned (.tuple #[Va, .int .i64 (ea : Int)]) ∧ (ea = 0 → ∃ Aa ca, Va = .slice Aa a.length ca ∧ Bs w5 Aa ca a) := by
        rcases h5 with ⟨he, rfl⟩ | ⟨he, Aa, ca, rfl, own5⟩
        · exact ⟨_, rfl, fun h => absurd h he⟩
        · rw [he]
          exact ⟨_, rfl, fun _ => ⟨Aa, ca, rfl, Bs.own own5⟩⟩
      subst hVa
      clear h5
      go_wp2_with fail
      refine hof.mono ?_
      rintro e w6 ⟨A6, c6, M6, rfl, hMl6, hMp6, own6, b6⟩
      have bb6 := bb5.trans (b6.mono bb5.size)
      have hS6 := hS5.below b6
      have hT6 := hT5.below b6
      have hput := put_near w6 A6 c6 n2 M6 own6.sps hMl6 (by rw [hMp6]; exact hok') (by rw [hMp6]; exact hNr2)
      rw [hMp6] at hput
      clear hof own6 hS5 hT5 bb5 hMp6 hMl6
      go_wp2_with fail
      refine hput.mono ?_
      rintro e w7 ⟨h7, b7⟩
      have bb7 := bb6.trans (b7.mono bb6.size)
      have b57 := b6.trans (b7.mono b6.size)
      have hS7 := hS6.below b7
      have hT7 := hT6.below b7
      clear hput hS6 hT6 b7 b6 bb6
      obtain ⟨⟨b, eb⟩, hrb⟩ : ∃ r, putF (pns M) = r := ⟨_, rfl⟩
      rw [hrb] at h7
      dsimp only at h7
      by_cases hea : ea = 0
      · obtain ⟨Aa, ca, rfl, hBa5⟩ := hcase hea
        have hBa7 := hBa5.below b57
        clear hcase hBa5 b57
        subst hea
        rcases h7 with ⟨heb, rfl⟩ | ⟨heb, Ab, cb, rfl, own7⟩
        · have hz : ¬ ((eb : Int) = 0) := by omega
          clear hra hrb
          go_wp2
          go_ret
          exact ⟨rfl, bb7⟩
        · subst heb
          have hBb7 := Bs.own own7
          clear own7
          have hpl : (pns L).length ≤ 1024 := (putF_ok hra).2.1
          have hpm : (pns M).length ≤ 1024 := (putF_ok hrb).2.1
          have hn24 : n ≤ 1024 := by rw [pns_len, HN.out] at hpl; exact hpl
          have hsb := same_bytes hok hok' (near_texts hNr hpl) (near_texts hNr2 hpm) hra hrb
          obtain ⟨x, hx⟩ : ∃ x : Bool, (a == b) = x := ⟨_, rfl⟩
          have hsx : x = true ↔ pns L = pns M := by rw [← hx, beq_iff_eq]; exact hsb
          obtain ⟨la, hla⟩ : ∃ la, a.length = la := ⟨_, rfl⟩
          obtain ⟨lb, hlb⟩ : ∃ lb, b.length = lb := ⟨_, rfl⟩
          have hby := bytes_at Aa Ab ca cb la lb a b x w7 hBa7 hBb7 hla hlb hx
          have hsm := sames_any w7 A B c d n n2 L M x hS7 hT7 HN.out HN2.out hl1 hmax.2.1 hl2 hm2 hsx
          have hla65 : la ≤ 65536 := by rw [← hla]; exact (putF_ok hra).2.2.2
          have HLa := Lib.hid hla
          have Hra := Lib.hid hra
          rw [hla, hlb]
          clear hx hsx hlb hla hra hrb hsb hBb7 hpm hm1 hm2 hNr2 hok' HN2
          go_wp2_with fail
          refine hby.mono ?_
          rintro e w8 ⟨rfl, rfl⟩
          clear hby
          go_wp2_with fail
          refine hsm.mono ?_
          rintro e w8 ⟨rfl, b8⟩
          have bb8 := bb7.trans (b8.mono bb7.size)
          have hS8 := hS7.below b8
          have hBa8 := hBa7.below b8
          clear hsm hS7 hT7 hBa7 b8 bb7
          obtain ⟨k, hk⟩ : ∃ k, t % (n + 1) = k := ⟨_, rfl⟩
          have hkn : k ≤ n := by rw [← hk]; have := Nat.mod_lt t (show 0 < n + 1 by omega); omega
          have hkz : (t : Int) % ((n : Int) + 1) = (k : Int) := by have := Int.natCast_emod t (n + 1); rw [hk] at this; simpa using this.symm
          have hnz : ¬ ((n : Int) + 1 = 0) := by omega
          have y0 : (0 : Int) ≤ (k : Int) := by omega
          have y1 : (k : Int) ≤ (n : Int) := by omega
          have y2 : (k : Int) ≤ (c : Int) := by omega
          have y3 : ((k : Int)).toNat = k := by omega
          have HK := Lib.hid hk
          clear hk
          have hoft := ofs_any w8 A c k (L.take k) (hS8.take k (by rw [HN.out]; exact hkn)) (by simp; rw [HN.out]; omega) (by omega) (fun y hy => hl2 y (List.mem_of_mem_take hy))
          have hxx : (x != x) = false := by cases x <;> rfl
          go_wp2_with fail
          refine hoft.mono ?_
          rintro e w9 ⟨A9, c9, M9, rfl, hMl9, hMp9, own9, b9⟩
          have bb9 := bb8.trans (b9.mono bb8.size)
          have hS9 := hS8.below b9
          have hBa9 := hBa8.below b9
          have hpt : pns (L.take k) = (pns L).take k := by unfold pns; rw [List.map_take]
          obtain ⟨cc, hcc, hcl⟩ := putF_take Hra.out k
          have hn40 : (pns L).length ≤ 40 := by rcases hNr.len with h | h <;> omega
          have hput := put_near w9 A9 c9 k M9 own9.sps hMl9 (by rw [hMp9, hpt]; exact fun y hy => hok y (List.mem_of_mem_take hy)) (by rw [hMp9, hpt]; exact ⟨.inl (by simp; omega), fun y hy => hNr.each y (List.mem_of_mem_take hy)⟩)
          rw [hMp9, hpt, hcc] at hput
          rw [pns_len, HN.out, HLa.out] at hcl
          clear hoft own9 hS8 hBa8 bb8 b9 hMp9 hMl9 hpt hcc hn40
          go_wp2_with fail
          refine hput.mono ?_
          rintro e w10 ⟨h10, b10⟩
          rcases h10 with ⟨hx0, _⟩ | ⟨_, A10, c10, rfl, own10⟩
          · exact absurd rfl hx0
          dsimp only at own10 ⊢
          have bb10 := bb9.trans (b10.mono bb9.size)
          have hS10 := hS9.below b10
          have hBa10 := hBa9.below b10
          obtain ⟨lc, hlc⟩ : ∃ lc, cc.length = lc := ⟨_, rfl⟩
          rw [hlc] at hcl ⊢
          have hg1 := (get_put_b (fun y hy => (hok y hy).ok) (near_texts hNr hpl) Hra.out).1
          have hga := get_any Aa ca la a w10 hBa10 HLa.out hla65
          rw [hg1] at hga
          clear hput own10 hS9 hBa9 bb9 b10 hlc
          have hlcz : (k : Int) < (n : Int) → (lc : Int) < (la : Int) := fun h => by have := hcl (by omega); omega
          have hcase : (¬ ((k : Int) < (n : Int))) ∨ ((k : Int) < (n : Int) ∧ ¬ ((la : Int) ≤ (lc : Int))) := by
            by_cases h : (k : Int) < (n : Int)
            · exact .inr ⟨h, by have := hlcz h; omega⟩
            · exact .inl h
          have Hg1 := Lib.hid hg1
          clear hg1 hcl hlcz
          rcases hcase with hcs | ⟨hcs, hcs2⟩
          · go_wp2_with fail
            refine hga.mono ?_
            rintro e w11 ⟨⟨A11, c11, X, rfl, hXp, own11, hX16, hX1024⟩, b11⟩
            have hXl : X.length = n := by rw [← pns_len, hXp, pns_len, HN.out]
            have hM0 : n = 0 ∨ ∃ g, A11 = some ⟨g, 0, none⟩ ∧ Mx w10.heap.size w11 g n X := by
              by_cases h0 : n = 0
              · exact .inl h0
              · obtain ⟨g, hg, hm⟩ := Mx.of own11 (by omega)
                rw [hXl] at hm
                exact .inr ⟨g, hg, hm⟩
            rw [pns_len, HN.out]
            have hm64 : ∀ i (h : i < X.length), X[i].l.length ≤ 16 := fun i h => by
              have h1 : X[i].pn ∈ pns X := List.mem_map.2 ⟨X[i], List.getElem_mem h, rfl⟩
              rw [hXp] at h1
              exact hX16 _ h1
            have Hm64 := Lib.hid hm64
            clear hga own11 hXp hX16 hX1024 hm64
            go_wp2_with fail
            go_loopw [16] (fun v wr => ∃ i : Nat, v = .int .i64 (i : Nat) ∧ i ≤ n ∧ Below w10.heap.size w10 wr ∧ (n = 0 ∨ ∃ g, A11 = some ⟨g, 0, none⟩ ∧ Mx w10.heap.size wr g n X)) (fun v _ => n - (intOf v).toNat)
            case atStart => exact ⟨0, rfl, Nat.zero_le _, b11, hM0⟩
            case round =>
              clear hM0 b11
              obtain ⟨i, rfl, hi, bi, hMi⟩ := hrel
              by_cases hlt : i < n
              · obtain ⟨g, rfl, hMx⟩ := hMi.resolve_left (by omega)
                have hltz : (i : Int) < (n : Int) := by omega
                have z0 : (0 : Int) ≤ (i : Int) := by omega
                have z1 : ((i : Int)).toNat = i := by omega
                have hp : (⟨g, 0, none⟩ : Addr).add (i * 10) = ⟨g, i * 10, none⟩ := by rw [Addr.add_lit, Nat.zero_add]
                obtain ⟨sv, hsv⟩ := hMx.sv i hlt
                have hfz := hMx.fz (i * 10 + 3)
                have hM2 := hMx.set_sv i ⟨#[111, 116, 104, 101, 114]⟩
                have b2 : Below w10.heap.size w10 (wr.setCell ⟨g, i * 10 + 3, none⟩ (.string ⟨#[111, 116, 104, 101, 114]⟩)) := below_set bi _ _ hMx.gB
                have hiX : i < X.length := by rw [hXl]; exact hlt
                clear hMx hMi bi
                go_wp2_with fail
                generalize wr.setCell ⟨g, i * 10 + 3, none⟩ (.string ⟨#[111, 116, 104, 101, 114]⟩) = w12 at hM2 b2 ⊢
                clear hsv hfz
                obtain ⟨m, hm⟩ : ∃ m, X[i].l.length = m := ⟨_, rfl⟩
                obtain ⟨Ai, hAi⟩ : ∃ Ai, X[i].A = Ai := ⟨_, rfl⟩
                obtain ⟨ci, hci⟩ : ∃ ci, X[i].c = ci := ⟨_, rfl⟩
                have hm64 : m ≤ 9223372036854775807 := by
                  have := Hm64.out i hiX
                  omega
                go_loopw [17] (fun v wr => ∃ j : Nat, v = .int .i64 (j : Nat) ∧ j ≤ m ∧ Below w10.heap.size w10 wr ∧ Mx w10.heap.size wr g n X) (fun v _ => m - (intOf v).toNat)
                case atStart => exact ⟨0, rfl, Nat.zero_le _, b2, hM2⟩
                case round =>
                  clear hM2 b2
                  obtain ⟨j, rfl, hj, bj, hMj⟩ := hrel
                  have x9 : wr.cell? ⟨g, i * 10 + 9, none⟩ = some (.slice Ai m ci) := by have := hMj.at_ i hiX; rw [hm, hAi, hci] at this; exact this
                  by_cases hjm : j < m
                  · have hjz : (j : Int) < (m : Int) := by omega
                    obtain ⟨q, sk, hq1, hq2, hq3, hq4, hq5, hq6⟩ := hMj.ks i hiX j (by omega)
                    rw [hAi] at hq1
                    have u0 : (0 : Int) ≤ (j : Int) := by omega
                    have u1 : ((j : Int)).toNat = j := by omega
                    have hp1 : (⟨q, 0, none⟩ : Addr).add (j * 4) = ⟨q, j * 4, none⟩ := by rw [Addr.add_lit, Nat.zero_add]
                    have hM3 := hMj.set_key q (j * 4) ⟨#[111, 116, 104, 101, 114]⟩ hq2
                    have b3 : Below w10.heap.size w10 (wr.setCell ⟨q, j * 4, none⟩ (.string ⟨#[111, 116, 104, 101, 114]⟩)) := below_set bj _ _ hq3
                    clear hMj bj
                    rw [hq1] at x9
                    go_wp2_with fail
                    generalize wr.setCell ⟨q, j * 4, none⟩ (.string ⟨#[111, 116, 104, 101, 114]⟩) = w13 at hM3 b3 ⊢
                    clear x9 hq5 hq6
                    go_wp2
                    go_roundw
                    case rel => exact ⟨j + 1, by go_num, by omega, b3, hM3⟩
                    case measure => first | go_num | (simp [intOf]; omega)
                  · have hjz : ¬ ((j : Int) < (m : Int)) := by omega
                    go_wp2
                    go_roundw
                    case rel => exact ⟨i + 1, by go_num, by omega, bj, .inr ⟨g, rfl, hMj⟩⟩
                    case measure => first | go_num | (simp [intOf]; omega)
              · have hltz : ¬ ((i : Int) < (n : Int)) := by omega
                have hBa11 := hBa10.below bi
                have hS11 := hS10.below bi
                have bb11 := bb10.trans (bi.mono bb10.size)
                have hga := get_any Aa ca la a wr hBa11 HLa.out hla65
                rw [Hg1.out] at hga
                clear hMi bi
                go_wp2_with fail
                refine hga.mono ?_
                rintro e w14 ⟨⟨A14, c14, Y, rfl, hYp, own14, hY16, hY1024⟩, b14⟩
                have bb14 := bb11.trans (b14.mono bb11.size)
                have hS14 := hS11.below b14
                have hYl : Y.length = n := by rw [← pns_len, hYp, pns_len, HN.out]
                have hto := tos_any w14 A14 c14 n Y own14.sps hYl (by omega) (fun y hy => by
                  have h1 : y.pn ∈ pns Y := List.mem_map.2 ⟨y, hy, rfl⟩
                  rw [hYp] at h1
                  have h2 : y.l.length ≤ 16 := hY16 _ h1
                  omega)
                rw [pns_len, HN.out]
                clear hga own14 b14 bb11 hS11 hBa11
                go_wp2_with fail
                refine hto.mono ?_
                rintro e w15 ⟨A15, c15, M15, rfl, hM15, hMp15, own15, b15⟩
                have bb15 := bb14.trans (b15.mono bb14.size)
                have hsm := sames_any w15 A15 A c15 c n n M15 L true own15.sps (hS14.below b15) hM15 HN.out (by omega) hmax.1 (fun y hy => by
                  have h1 : y.pn ∈ pns M15 := List.mem_map.2 ⟨y, hy, rfl⟩
                  rw [hMp15, hYp] at h1
                  have h2 : y.l.length ≤ 16 := hY16 _ h1
                  omega) hl2 (by rw [hMp15, hYp]; simp)
                clear hto own15 hS14 b15 bb14
                go_wp2_with fail
                refine hsm.mono ?_
                rintro e w16 ⟨rfl, b16⟩
                have bb16 := bb15.trans (b16.mono bb15.size)
                clear hsm b16 bb15
                go_wp2
                go_ret
                exact ⟨rfl, bb16⟩
          · go_wp2_with fail
            refine hga.mono ?_
            rintro e w11 ⟨⟨A11, c11, X, rfl, hXp, own11, hX16, hX1024⟩, b11⟩
            have hXl : X.length = n := by rw [← pns_len, hXp, pns_len, HN.out]
            have hM0 : n = 0 ∨ ∃ g, A11 = some ⟨g, 0, none⟩ ∧ Mx w10.heap.size w11 g n X := by
              by_cases h0 : n = 0
              · exact .inl h0
              · obtain ⟨g, hg, hm⟩ := Mx.of own11 (by omega)
                rw [hXl] at hm
                exact .inr ⟨g, hg, hm⟩
            rw [pns_len, HN.out]
            have hm64 : ∀ i (h : i < X.length), X[i].l.length ≤ 16 := fun i h => by
              have h1 : X[i].pn ∈ pns X := List.mem_map.2 ⟨X[i], List.getElem_mem h, rfl⟩
              rw [hXp] at h1
              exact hX16 _ h1
            have Hm64 := Lib.hid hm64
            clear hga own11 hXp hX16 hX1024 hm64
            go_wp2_with fail
            go_loopw [16] (fun v wr => ∃ i : Nat, v = .int .i64 (i : Nat) ∧ i ≤ n ∧ Below w10.heap.size w10 wr ∧ (n = 0 ∨ ∃ g, A11 = some ⟨g, 0, none⟩ ∧ Mx w10.heap.size wr g n X)) (fun v _ => n - (intOf v).toNat)
            case atStart => exact ⟨0, rfl, Nat.zero_le _, b11, hM0⟩
            case round =>
              clear hM0 b11
              obtain ⟨i, rfl, hi, bi, hMi⟩ := hrel
              by_cases hlt : i < n
              · obtain ⟨g, rfl, hMx⟩ := hMi.resolve_left (by omega)
                have hltz : (i : Int) < (n : Int) := by omega
                have z0 : (0 : Int) ≤ (i : Int) := by omega
                have z1 : ((i : Int)).toNat = i := by omega
                have hp : (⟨g, 0, none⟩ : Addr).add (i * 10) = ⟨g, i * 10, none⟩ := by rw [Addr.add_lit, Nat.zero_add]
                obtain ⟨sv, hsv⟩ := hMx.sv i hlt
                have hfz := hMx.fz (i * 10 + 3)
                have hM2 := hMx.set_sv i ⟨#[111, 116, 104, 101, 114]⟩
                have b2 : Below w10.heap.size w10 (wr.setCell ⟨g, i * 10 + 3, none⟩ (.string ⟨#[111, 116, 104, 101, 114]⟩)) := below_set bi _ _ hMx.gB
                have hiX : i < X.length := by rw [hXl]; exact hlt
                clear hMx hMi bi
                go_wp2_with fail
                generalize wr.setCell ⟨g, i * 10 + 3, none⟩ (.string ⟨#[111, 116, 104, 101, 114]⟩) = w12 at hM2 b2 ⊢
                clear hsv hfz
                obtain ⟨m, hm⟩ : ∃ m, X[i].l.length = m := ⟨_, rfl⟩
                obtain ⟨Ai, hAi⟩ : ∃ Ai, X[i].A = Ai := ⟨_, rfl⟩
                obtain ⟨ci, hci⟩ : ∃ ci, X[i].c = ci := ⟨_, rfl⟩
                have hm64 : m ≤ 9223372036854775807 := by
                  have := Hm64.out i hiX
                  omega
                go_loopw [17] (fun v wr => ∃ j : Nat, v = .int .i64 (j : Nat) ∧ j ≤ m ∧ Below w10.heap.size w10 wr ∧ Mx w10.heap.size wr g n X) (fun v _ => m - (intOf v).toNat)
                case atStart => exact ⟨0, rfl, Nat.zero_le _, b2, hM2⟩
                case round =>
                  clear hM2 b2
                  obtain ⟨j, rfl, hj, bj, hMj⟩ := hrel
                  have x9 : wr.cell? ⟨g, i * 10 + 9, none⟩ = some (.slice Ai m ci) := by have := hMj.at_ i hiX; rw [hm, hAi, hci] at this; exact this
                  by_cases hjm : j < m
                  · have hjz : (j : Int) < (m : Int) := by omega
                    obtain ⟨q, sk, hq1, hq2, hq3, hq4, hq5, hq6⟩ := hMj.ks i hiX j (by omega)
                    rw [hAi] at hq1
                    have u0 : (0 : Int) ≤ (j : Int) := by omega
                    have u1 : ((j : Int)).toNat = j := by omega
                    have hp1 : (⟨q, 0, none⟩ : Addr).add (j * 4) = ⟨q, j * 4, none⟩ := by rw [Addr.add_lit, Nat.zero_add]
                    have hM3 := hMj.set_key q (j * 4) ⟨#[111, 116, 104, 101, 114]⟩ hq2
                    have b3 : Below w10.heap.size w10 (wr.setCell ⟨q, j * 4, none⟩ (.string ⟨#[111, 116, 104, 101, 114]⟩)) := below_set bj _ _ hq3
                    clear hMj bj
                    rw [hq1] at x9
                    go_wp2_with fail
                    generalize wr.setCell ⟨q, j * 4, none⟩ (.string ⟨#[111, 116, 104, 101, 114]⟩) = w13 at hM3 b3 ⊢
                    clear x9 hq5 hq6
                    go_wp2
                    go_roundw
                    case rel => exact ⟨j + 1, by go_num, by omega, b3, hM3⟩
                    case measure => first | go_num | (simp [intOf]; omega)
                  · have hjz : ¬ ((j : Int) < (m : Int)) := by omega
                    go_wp2
                    go_roundw
                    case rel => exact ⟨i + 1, by go_num, by omega, bj, .inr ⟨g, rfl, hMj⟩⟩
                    case measure => first | go_num | (simp [intOf]; omega)
              · have hltz : ¬ ((i : Int) < (n : Int)) := by omega
                have hBa11 := hBa10.below bi
                have hS11 := hS10.below bi
                have bb11 := bb10.trans (bi.mono bb10.size)
                have hga := get_any Aa ca la a wr hBa11 HLa.out hla65
                rw [Hg1.out] at hga
                clear hMi bi
                go_wp2_with fail
                refine hga.mono ?_
                rintro e w14 ⟨⟨A14, c14, Y, rfl, hYp, own14, hY16, hY1024⟩, b14⟩
                have bb14 := bb11.trans (b14.mono bb11.size)
                have hS14 := hS11.below b14
                have hYl : Y.length = n := by rw [← pns_len, hYp, pns_len, HN.out]
                have hto := tos_any w14 A14 c14 n Y own14.sps hYl (by omega) (fun y hy => by
                  have h1 : y.pn ∈ pns Y := List.mem_map.2 ⟨y, hy, rfl⟩
                  rw [hYp] at h1
                  have h2 : y.l.length ≤ 16 := hY16 _ h1
                  omega)
                rw [pns_len, HN.out]
                clear hga own14 b14 bb11 hS11 hBa11
                go_wp2_with fail
                refine hto.mono ?_
                rintro e w15 ⟨A15, c15, M15, rfl, hM15, hMp15, own15, b15⟩
                have bb15 := bb14.trans (b15.mono bb14.size)
                have hsm := sames_any w15 A15 A c15 c n n M15 L true own15.sps (hS14.below b15) hM15 HN.out (by omega) hmax.1 (fun y hy => by
                  have h1 : y.pn ∈ pns M15 := List.mem_map.2 ⟨y, hy, rfl⟩
                  rw [hMp15, hYp] at h1
                  have h2 : y.l.length ≤ 16 := hY16 _ h1
                  omega) hl2 (by rw [hMp15, hYp]; simp)
                clear hto own15 hS14 b15 bb14
                go_wp2_with fail
                refine hsm.mono ?_
                rintro e w16 ⟨rfl, b16⟩
                have bb16 := bb15.trans (b16.mono bb15.size)
                clear hsm b16 bb15
                go_wp2
                go_ret
                exact ⟨rfl, bb16⟩
      · have hz : ¬ ((ea : Int) = 0) := by omega
        obtain ⟨Vb, rfl⟩ : ∃ Vb : Value, e = .returned (.tuple #[Vb, .int .i64 (eb : Int)]) := by
          rcases h7 with ⟨he, rfl⟩ | ⟨he, Ab, cb, rfl, own7⟩
          · exact ⟨_, rfl⟩
          · rw [he]; exact ⟨_, rfl⟩
        clear h7 hcase hra hrb
        go_wp2
        go_ret
        exact ⟨rfl, bb7⟩
end Go.Proofs.Ytndcdidepdcmnaa.B07
