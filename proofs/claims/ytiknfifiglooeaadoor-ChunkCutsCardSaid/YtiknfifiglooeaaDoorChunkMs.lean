/- A store's snapshots on a device's contents, in plain words: what Put makes of them, what Chunk, Hurt and Open read. No program. -/
import Derived.Test.YtiknfifiglooeaaDoorChunkM
namespace Go.Proofs.YtiknfifiglooeaaDoor
open Go.RowKit
set_option linter.unusedVariables false
set_option maxRecDepth 100000

/-- Chunks written one behind the other. -/
def wrC (q : Nat) (i : Int) : Ct → Nat → List ByteArray → Ct
  | C, _, [] => C
  | C, k, c :: cs => wrC q i (put2 C (q + k) (chunkR i (k : Int) c, 1)) (k + 1) cs
theorem wrC_out (q : Nat) (i : Int) : ∀ (cs : List ByteArray) (C : Ct) (k j : Nat), (j < q + k ∨ q + k + cs.length ≤ j) → wrC q i C k cs j = C j
  | [], C, k, j, _ => rfl
  | c :: cs, C, k, j, h => by
    unfold wrC
    simp only [List.length_cons] at h
    rw [wrC_out q i cs _ _ j (by omega), put2_other (by omega)]
theorem wrC_at (q : Nat) (i : Int) : ∀ (cs : List ByteArray) (C : Ct) (k j : Nat), j < cs.length → wrC q i C k cs (q + k + j) = (chunkR i ((k + j : Nat) : Int) (cs.getD j ByteArray.empty), 1)
  | [], C, k, j, h => by simp at h
  | c :: cs, C, k, 0, h => by
    unfold wrC
    rw [wrC_out q i cs _ _ _ (by omega), Nat.add_zero, put2_same]
    rfl
  | c :: cs, C, k, j + 1, h => by
    unfold wrC
    have := wrC_at q i cs (put2 C (q + k) (chunkR i (k : Int) c, 1)) (k + 1) j (by simpa using h)
    rw [show q + k + (j + 1) = q + (k + 1) + j by omega, this, show k + 1 + j = k + (j + 1) by omega]
    simp
theorem wrs_cont {q : Nat} {i : Int} (hi : 0 ≤ i ∧ i ≤ 281474976710655) : ∀ (cs : List ByteArray) (D : Dv) (k : Nat), Live D → (∀ c ∈ cs, c.size ≤ 488) → q + k + cs.length ≤ D.bs.length → D.bs.length ≤ 4096 →
    ∃ D', Dv.wrs (q : Int) i D k cs = (0, D') ∧ Live D' ∧ D'.bs.length = D.bs.length ∧ cont D' = wrC q i (cont D) k cs
  | [], D, k, h, _, _, _ => ⟨D, rfl, h, rfl, rfl⟩
  | c :: cs, D, k, h, hc, hr, hb => by
    simp only [List.length_cons] at hr
    obtain ⟨D1, e1, l1, n1, _, c1⟩ := swrite_cont h (chunkR_ok (k := (k : Int)) hi ⟨by omega, by omega⟩ (hc c (by simp))) (k := q + k) (by omega)
    obtain ⟨D2, e2, l2, n2, c2⟩ := wrs_cont (q := q) hi cs D1 (k + 1) l1 (fun x hx => hc x (List.mem_cons_of_mem _ hx)) (by omega) (by omega)
    have e : (q : Int) + (k : Int) = ((q + k : Nat) : Int) := by omega
    refine ⟨D2, ?_, l2, n2.trans n1, ?_⟩
    · rw [wrs_go (by rw [e, e1]), e, e1]; exact e2
    · rw [c2, c1]; rfl
theorem cutS_at (s : ByteArray) {k : Nat} (hk : k < cutN s.size) : (cutS s).getD k ByteArray.empty = cutAt s k := by
  unfold cutS
  rw [List.getD_eq_getElem?_getD, List.getElem?_map, List.getElem?_range hk]
  rfl
theorem cutS_size (s : ByteArray) : ∀ c ∈ cutS s, c.size ≤ 488 := by
  intro c hc
  obtain ⟨k, hk, rfl⟩ := List.mem_map.1 hc
  have := cut_size s (List.mem_range.1 hk)
  omega
/-- A snapshot put into the area that begins at block a. -/
def putC (C : Ct) (a : Nat) (i t : Int) (s : ByteArray) : Ct := put2 (put2 (wrC (a + 2) i C 0 (cutS s)) a (listR (ofL i t s), 1)) (a + 1) (listR (ofL i t s), 1)
section
variable {C : Ct} {a : Nat} {i t : Int} {s : ByteArray}
theorem putC_l0 : putC C a i t s a = (listR (ofL i t s), 1) := by unfold putC; rw [put2_other (by omega), put2_same]
theorem putC_l1 : putC C a i t s (a + 1) = (listR (ofL i t s), 1) := by unfold putC; rw [put2_same]
theorem putC_ck {k : Nat} (hk : k < cutN s.size) : putC C a i t s (a + 2 + k) = (chunkR i (k : Int) (cutAt s k), 1) := by
  unfold putC
  rw [put2_other (by omega), put2_other (by omega)]
  have := wrC_at (a + 2) i (cutS s) C 0 k (by rw [cutS_length]; exact hk)
  rw [Nat.add_zero, Nat.zero_add, cutS_at s hk] at this
  exact this
theorem putC_out {j : Nat} (hs : s.size ≤ 25600) (hj : j < a ∨ a + 66 ≤ j) : putC C a i t s j = C j := by
  have := cutN_le.2 hs
  unfold putC
  rw [put2_other (by omega), put2_other (by omega), wrC_out _ _ _ _ _ _ (by rw [cutS_length]; omega)]
end
theorem good_size {i t : Int} {s : ByteArray} (h : (ofL i t s).Good) : s.size ≤ 25600 := by
  have := h.in
  have e : (ofL i t s).sums.length = cutN s.size := sumsOf_length s
  rw [e] at this
  exact cutN_le.1 (by omega)
theorem put_cont {D : Dv} {base i0 area i t : Int} {s : ByteArray} {a : Nat} (h : Live D) (hg : (ofL i t s).Good) (ha : base + nextA i0 area * 66 = (a : Int)) (hr : a + 66 ≤ D.bs.length) (hb : D.bs.length ≤ 4096) :
    ∃ D', putP D base i0 area i t s = (0, D') ∧ Calm D' ∧ D'.bs.length = D.bs.length ∧ cont D' = putC (cont D) a i t s := by
  have hsz := good_size hg
  have hn := cutN_le.2 hsz
  have hin := hg.in
  have hi : 0 ≤ i ∧ i ≤ 281474976710655 := by
    have h1 : 1 ≤ i ∧ i ≤ 1099511627776 := ⟨hin.1, hin.2.1⟩
    omega
  have e0 : wcB base (nextA i0 area) 0 0 = (a : Int) := by unfold wcB; rw [if_pos rfl]; omega
  have e1 : wcB base (nextA i0 area) 0 1 = ((a + 1 : Nat) : Int) := by unfold wcB; rw [if_neg (by decide)]; omega
  have e2 : base + nextA i0 area * 66 + 2 = ((a + 2 : Nat) : Int) := by omega
  obtain ⟨D1, w1, l1, n1, c1⟩ := wrs_cont hi (cutS s) D 0 h (cutS_size s) (q := a + 2) (by rw [cutS_length]; omega) hb
  obtain ⟨D2, w2, l2, n2, c2⟩ := flush_cont l1
  obtain ⟨D3, w3, l3, n3, c3⟩ := pair_cont l2.toLive (listR_ok hg) (x := a) (y := a + 1) (by omega) (by omega)
  refine ⟨D3, ?_, l3, by omega, ?_⟩
  · unfold putP
    rw [e0, e1, e2, put7_go (by rw [w1]) (by rw [w1, w2]), w1, w2]
    exact w3
  · rw [c3, c2, c1]
    rfl
/-- What Chunk answers, from the contents; q is the area's first chunk. -/
noncomputable def chunkC (C : Ct) (q : Nat) (l : Ls) (k : Nat) : ByteArray × Int :=
  open Classical in if (C (q + k)).1 = chunkR l.index (k : Int) (C (q + k)).1.data ∧ matchB l k (C (q + k)).1.data = true then ((C (q + k)).1.data, 0) else (⟨#[]⟩, 6)
theorem chunkF_cont {D : Dv} {base area : Int} {l : Ls} {k q : Nat} (h : D.down = false) (hq : base + area * 66 + 2 = (q : Int)) (hk : q + k < D.bs.length) : chunkF D base area l k = chunkC (cont D) q l k := by
  have e : base + area * 66 + 2 + (k : Int) = ((q + k : Nat) : Int) := by omega
  unfold chunkF chunkC
  rw [e, sread_cont' h hk]
  rfl
theorem chunkC_good {C : Ct} {q k : Nat} {i t : Int} {s : ByteArray} (h : C (q + k) = (chunkR i (k : Int) (cutAt s k), 1)) (hk : k < cutN s.size) : chunkC C q (ofL i t s) k = (cutAt s k, 0) := by
  unfold chunkC
  rw [h]
  exact if_pos ⟨rfl, match_cut i t s hk⟩
theorem chunkC_lost {C : Ct} {q k : Nat} {l : Ls} (h : C (q + k) = (rc0, 2)) : chunkC C q l k = (⟨#[]⟩, 6) := by
  unfold chunkC
  rw [h]
  exact if_neg (fun e => by have := congrArg Rc.kind e.1; simp [rc0, chunkR] at this)
/-- The list that a block is a copy of. -/
def cpC (C : Ct) (q : Nat) : Ls := listF (C q).1
theorem cpC_list {C : Ct} {q : Nat} {l : Ls} {x : Int} (h : C q = (listR l, x)) (hg : l.Good) : cpC C q = l := by unfold cpC; rw [h]; exact listF_listR hg
theorem cpC_rc0 {C : Ct} {q : Nat} {x : Int} (h : C q = (rc0, x)) : cpC C q = ls0 := by unfold cpC; rw [h]; exact listF_none (by show (0 : Int) ≠ 4; decide)
theorem cpC_chunk {C : Ct} {q : Nat} {x i k : Int} {c : ByteArray} (h : C q = (chunkR i k c, x)) : cpC C q = ls0 := by unfold cpC; rw [h]; exact listF_none (by show (5 : Int) ≠ 4; decide)
theorem copyF_cont {D : Dv} {x : Int} {q : Nat} (h : D.down = false) (hx : x = (q : Int)) (hq : q < D.bs.length) : copyF D x = (cpC (cont D) q, 0) := by
  subst hx
  unfold copyF cpC
  rw [sread_cont' h hq]
  exact if_pos rfl
def opS (C : Ct) (base ar n : Nat) (p : Ls × Int) : Ls × Int := if p.1.index < (cpC C (base + ar * 66 + n)).index then (cpC C (base + ar * 66 + n), (ar : Int)) else p
def opnC (C : Ct) (base : Nat) : Ls × Int := opS C base 1 1 (opS C base 1 0 (opS C base 0 1 (opS C base 0 0 (ls0, 0))))
theorem openF_cont {D : Dv} {base : Nat} (h : D.down = false) (hr : base + 132 ≤ D.bs.length) : openF D (base : Int) opnQ (ls0, 0) = (opnC (cont D) base, 0) := by
  have hc : ∀ ar n : Nat, ar ≤ 1 → n ≤ 1 → copyF D ((base : Int) + (ar : Int) * 66 + (n : Int)) = (cpC (cont D) (base + ar * 66 + n), 0) := fun ar n h1 h2 => copyF_cont h (by omega) (by omega)
  have hs : ∀ (ar n : Nat) (p : Ls × Int), ar ≤ 1 → n ≤ 1 → openS D (base : Int) (ar : Int) (n : Int) p = opS (cont D) base ar n p := fun ar n p h1 h2 => by
    unfold openS opS
    rw [hc ar n h1 h2]
  have c00 := hc 0 0 (by omega) (by omega)
  have c01 := hc 0 1 (by omega) (by omega)
  have c10 := hc 1 0 (by omega) (by omega)
  have c11 := hc 1 1 (by omega) (by omega)
  have s00 := fun p => hs 0 0 p (by omega) (by omega)
  have s01 := fun p => hs 0 1 p (by omega) (by omega)
  have s10 := fun p => hs 1 0 p (by omega) (by omega)
  have s11 := fun p => hs 1 1 p (by omega) (by omega)
  simp only [Int.natCast_zero, Int.natCast_one] at c00 c01 c10 c11 s00 s01 s10 s11
  unfold opnQ
  rw [openF_cons, c00, if_pos rfl, s00, openF_cons, c01, if_pos rfl, s01, openF_cons, c10, if_pos rfl, s10, openF_cons, c11, if_pos rfl, s11]
  rfl
/-- What Open finds: the list with the greatest index. -/
theorem opnC_zero {C : Ct} {base : Nat} (h : ∀ ar n, ar ≤ 1 → n ≤ 1 → (cpC C (base + ar * 66 + n)).index = 0) : opnC C base = (ls0, 0) := by
  have hs : ∀ ar n, ar ≤ 1 → n ≤ 1 → opS C base ar n (ls0, 0) = (ls0, 0) := fun ar n h1 h2 => by
    unfold opS
    rw [h ar n h1 h2]
    exact if_neg (by show ¬ (0 : Int) < 0; omega)
  unfold opnC
  rw [hs 0 0 (by omega) (by omega), hs 0 1 (by omega) (by omega), hs 1 0 (by omega) (by omega), hs 1 1 (by omega) (by omega)]
theorem opnC_max {C : Ct} {base ar : Nat} {l : Ls} (har : ar ≤ 1) (h0 : 0 < l.index) (hc : ∃ n, n ≤ 1 ∧ cpC C (base + ar * 66 + n) = l) (hl : ∀ a n, a ≤ 1 → n ≤ 1 → (cpC C (base + a * 66 + n)).index < l.index ∨ (a = ar ∧ cpC C (base + a * 66 + n) = l)) : opnC C base = (l, (ar : Int)) := by
  -- a step keeps 'l is taken, or all before it are smaller'
  have st : ∀ (a n : Nat) (p : Ls × Int), a ≤ 1 → n ≤ 1 → (p = (l, (ar : Int)) ∨ p.1.index < l.index) → (opS C base a n p = (l, (ar : Int)) ∨ (opS C base a n p).1.index < l.index) := by
    intro a n p ha hn hp
    unfold opS
    rcases hl a n ha hn with h | ⟨rfl, h⟩
    · split
      · rename_i hi
        rcases hp with rfl | hp
        · exfalso; simp only at hi; omega
        · exact .inr h
      · exact hp
    · rw [h]
      split
      · exact .inl rfl
      · rename_i hi
        rcases hp with hp | hp
        · exact .inl hp
        · exact absurd hp hi
  have tk : ∀ (n : Nat) (p : Ls × Int), n ≤ 1 → cpC C (base + ar * 66 + n) = l → (p = (l, (ar : Int)) ∨ p.1.index < l.index) → opS C base ar n p = (l, (ar : Int)) := by
    intro n p hn he hp
    unfold opS
    rw [he]
    rcases hp with rfl | hp
    · exact if_neg (by simp)
    · exact if_pos hp
  have kp : ∀ (a n : Nat), a ≤ 1 → n ≤ 1 → opS C base a n (l, (ar : Int)) = (l, (ar : Int)) := by
    intro a n ha hn
    unfold opS
    refine if_neg ?_
    show ¬ l.index < _
    rcases hl a n ha hn with h | ⟨_, h⟩
    · omega
    · rw [h]; omega
  have p0 : ((ls0, 0) : Ls × Int) = (l, (ar : Int)) ∨ ((ls0, 0) : Ls × Int).1.index < l.index := .inr h0
  have p1 := st 0 0 _ (by omega) (by omega) p0
  have p2 := st 0 1 _ (by omega) (by omega) p1
  have p3 := st 1 0 _ (by omega) (by omega) p2
  obtain ⟨n, hn, he⟩ := hc
  unfold opnC
  have h4 : (ar = 0 ∧ n = 0) ∨ (ar = 0 ∧ n = 1) ∨ (ar = 1 ∧ n = 0) ∨ (ar = 1 ∧ n = 1) := by omega
  rcases h4 with ⟨rfl, rfl⟩ | ⟨rfl, rfl⟩ | ⟨rfl, rfl⟩ | ⟨rfl, rfl⟩
  · rw [tk 0 _ hn he p0, kp 0 1 (by omega) (by omega), kp 1 0 (by omega) (by omega), kp 1 1 (by omega) (by omega)]
  · rw [tk 1 _ hn he p1, kp 1 0 (by omega) (by omega), kp 1 1 (by omega) (by omega)]
  · rw [tk 0 _ hn he p2, kp 1 1 (by omega) (by omega)]
  · rw [tk 1 _ hn he p3]
/-- What Hurt answers when all chunks but one are whole. -/
theorem hurtK_none {D : Dv} {base area : Int} {l : Ls} (h : ∀ k, k < l.sums.length → (chunkF D base area l k).2 = 0) : ∀ k, k ≤ l.sums.length → hurtK D base area l k = []
  | 0, _ => rfl
  | k + 1, hk => by rw [hurtK_miss (by rw [h k (by omega)]; decide)]; exact hurtK_none h k (by omega)
end Go.Proofs.YtiknfifiglooeaaDoor
