/- A device of package dev in memory: its block, the row of its blocks, and the rows of what is not durable yet; no conditions beyond those in each statement. -/
import Derived.Test.YtpjbkeheemhlnaaDoorBase0
import Derived.WalkKit
import Derived.WalkSpells
import Derived.WalkLawsBesides
import Derived.Lib.Hide
import Derived.OneCell
import Derived.Laws.MakeOwn
namespace Go.Proofs.YtpjbkeheemhlnaaDoor
open Go.RowKit
set_option linter.unusedVariables false
set_option maxRecDepth 100000

/-- Outside of S, and but for new blocks, w' is as w was. -/
structure Mod (S : Nat → Prop) (w w' : World) : Prop where
  os : w'.os = w.os
  tape : w'.tape = w.tape
  output : w'.output = w.output
  size : w.heap.size ≤ w'.heap.size
  block : ∀ k, k < w.heap.size → ¬ S k → w'.heap[k]? = w.heap[k]?

section
variable {S T : Nat → Prop} {a w x : World}
theorem Mod.refl (S : Nat → Prop) (w : World) : Mod S w w := ⟨rfl, rfl, rfl, Nat.le_refl _, fun _ _ _ => rfl⟩
theorem Mod.trans (h : Mod S a w) (k : Mod T w x) (hT : ∀ k, T k → S k ∨ a.heap.size ≤ k) : Mod S a x :=
  ⟨k.os.trans h.os, k.tape.trans h.tape, k.output.trans h.output, Nat.le_trans h.size k.size, fun i hi hS =>
    (k.block i (Nat.lt_of_lt_of_le hi h.size) (fun ht => by rcases hT i ht with h1 | h1; exact hS h1; omega)).trans (h.block i hi hS)⟩
theorem Mod.mono (h : Mod S a w) (hT : ∀ k, S k → T k) : Mod T a w := ⟨h.os, h.tape, h.output, h.size, fun i hi ht => h.block i hi (fun hs => ht (hT i hs))⟩
theorem Mod.drew (h : Mod S a w) : Mod S a w.drew := ⟨h.os, h.tape, h.output, h.size, h.block⟩
theorem Mod.alloc (h : Mod S a w) (o : Obj) : Mod S a (w.alloc o) :=
  ⟨h.os, h.tape, h.output, Nat.le_trans h.size (by simp), fun i hi hne => (Below.heap_alloc w o i (Nat.lt_of_lt_of_le hi h.size)).trans (h.block i hi hne)⟩
theorem Mod.setCell (h : Mod S a w) {p : Addr} (hp : S p.block ∨ a.heap.size ≤ p.block) (u : Value) : Mod S a (w.setCell p u) :=
  ⟨h.os, h.tape, h.output, by simpa [World.setCell] using h.size, fun i hi hne => (Below.heap_setCell w p u i (by
    rintro rfl
    rcases hp with hp | hp
    · exact hne hp
    · omega)).trans (h.block i hi hne)⟩
theorem Mod.below (h : Mod S a w) (k : Below a.heap.size w x) : Mod S a x :=
  ⟨k.os.trans h.os, k.tape.trans h.tape, k.output.trans h.output, Nat.le_trans h.size k.size, fun i hi hS => (k.block i hi).trans (h.block i hi hS)⟩
theorem Mod.of_below (h : Below a.heap.size a w) (S : Nat → Prop) : Mod S a w := ⟨h.os, h.tape, h.output, h.size, fun i hi _ => h.block i hi⟩
theorem Mod.grown {row : Option Nat} (h : Mod S a w) (hg : w.grownBy x row) (hr : ∀ k, row = some k → S k ∨ a.heap.size ≤ k) : Mod S a x :=
  ⟨hg.os.trans h.os, hg.tape.trans h.tape, hg.output.trans h.output, Nat.le_trans h.size hg.size, fun i hi hS =>
    (hg.block i (Nat.lt_of_lt_of_le hi h.size) (fun e => by rcases hr i e.symm with h1 | h1; exact hS h1; omega)).trans (h.block i hi hS)⟩
theorem Mod.toBelow {B : Nat} (h : Mod S a w) (hS : ∀ k, S k → B ≤ k) (hB : B ≤ a.heap.size) : Below B a w :=
  ⟨h.os, h.tape, h.output, h.size, fun k hk => h.block k (by omega) (fun hs => by have := hS k hs; omega)⟩
end

theorem block_setCell_other {w : World} {b k i : Nat} {u : Value} (h : k ≠ b) : (w.setCell ⟨b, i, none⟩ u).heap[k]? = w.heap[k]? := Below.heap_setCell w ⟨b, i, none⟩ u k h
theorem cell_of {w : World} {b i : Nat} {vs : Array Value} {u : Value} {t : TypeId} (h : w.heap[b]? = some (.cells vs t (0, 0))) (hu : vs[i]? = some u) : w.cell? ⟨b, i, none⟩ = some u := by
  simp [World.cell?, h, hu]
theorem free_of {w : World} {b i : Nat} {vs : Array Value} {t : TypeId} (h : w.heap[b]? = some (.cells vs t (0, 0))) : w.frozen? ⟨b, i, none⟩ = false := by
  simp [World.frozen?, h]

/-- A write that is not durable yet. -/
structure Wr where
  place : Nat
  data : ByteArray
/-- A block: what is durable, whether it was torn or flipped, whether it is lost, what is not durable yet. -/
structure Blk where
  durable : ByteArray
  spoiled : Bool
  lost : Bool
  pending : List Wr
/-- A device. -/
structure Dv where
  bs : List Blk
  writes : Nat
  falling : Bool
  turns : Nat
  down : Bool

def wrCells : List Wr → List Value
  | [] => []
  | p :: ps => .int .i64 p.place :: .string p.data :: wrCells ps
theorem wrCells_append (l r : List Wr) : wrCells (l ++ r) = wrCells l ++ wrCells r := by
  induction l with
  | nil => rfl
  | cons p l ih => simp [wrCells, ih]
theorem wrCells_length (l : List Wr) : (wrCells l).length = l.length * 2 := by
  induction l with
  | nil => rfl
  | cons p l ih => simp only [wrCells, List.length_cons, ih]; omega
theorem wrCells_at : ∀ (l : List Wr) (j : Nat) (p : Wr), l[j]? = some p → (wrCells l)[j * 2]? = some (.int .i64 p.place) ∧ (wrCells l)[j * 2 + 1]? = some (.string p.data)
  | [], j, p, h => by simp at h
  | q :: l, 0, p, h => by
    obtain rfl : q = p := by simpa using h
    exact ⟨rfl, rfl⟩
  | q :: l, j + 1, p, h => by
    have := wrCells_at l j p (by simpa using h)
    rw [show (j + 1) * 2 = j * 2 + 1 + 1 by omega]
    exact ⟨by simpa [wrCells] using this.1, by simpa [wrCells] using this.2⟩

def NB : Nat := 4096
/-- A device's own words on sizes: at most 4096 blocks, of at most 512 bytes each. -/
structure Dv.Fits (D : Dv) : Prop where
  many : D.bs.length ≤ 4096
  durable : ∀ b ∈ D.bs, b.durable.size ≤ 512
  pending : ∀ b ∈ D.bs, ∀ p ∈ b.pending, p.data.size ≤ 512 ∧ p.place < D.writes
  count : ∀ b ∈ D.bs, b.pending.length ≤ D.writes
  turns : D.turns ≤ 9223372036854775807

def devCells (R : Nat) (D : Dv) : Array Value := #[.slice (some ⟨R, 0, none⟩) D.bs.length D.bs.length, .int .i64 D.writes, .bool D.falling, .int .i64 D.turns, .bool D.down]

/-- Block B holds device D: R the row of its blocks, sv the slices of what is not durable yet; S the blocks of memory that are its own. -/
structure DevIn (S : Nat → Prop) (w : World) (B R : Nat) (sv : Nat → Value) (C : Array Value) (D : Dv) : Prop where
  hB : w.heap[B]? = some (.cells (devCells R D) 92 (0, 0))
  hR : w.heap[R]? = some (.cells C 109 (0, 0))
  hC : C.size = D.bs.length * 4
  cells : ∀ i b, D.bs[i]? = some b → C[i * 4]? = some (.string b.durable) ∧ C[i * 4 + 1]? = some (.bool b.spoiled) ∧ C[i * 4 + 2]? = some (.bool b.lost) ∧ C[i * 4 + 3]? = some (sv i)
  rows : ∀ i b, D.bs[i]? = some b → w.ownsRow 0 144 2 (sv i) b.pending.length (wrCells b.pending)
  sB : S B
  sR : S R
  sP : ∀ i k, i < D.bs.length → (sv i).ownBlock = some k → S k
  lt : ∀ k, S k → k < w.heap.size
  one : ∀ i j k, i < D.bs.length → j < D.bs.length → (sv i).ownBlock = some k → (sv j).ownBlock = some k → i = j
  fits : D.Fits

def DevAt (S : Nat → Prop) (w : World) (B : Nat) (D : Dv) : Prop := ∃ R sv C, DevIn S w B R sv C D
/-- What an operation does to a device: it is D' behind it; nothing but its own blocks and new ones has turned. -/
def DevTo (S : Nat → Prop) (w : World) (B : Nat) (D' : Dv) (w' : World) : Prop := ∃ S', DevAt S' w' B D' ∧ (∀ k, S' k → S k ∨ w.heap.size ≤ k) ∧ Mod S w w'

section
variable {S T : Nat → Prop} {w x : World} {B R : Nat} {sv : Nat → Value} {C : Array Value} {D : Dv}
theorem DevIn.c0 (h : DevIn S w B R sv C D) : w.cell? ⟨B, 0, none⟩ = some (.slice (some ⟨R, 0, none⟩) D.bs.length D.bs.length) := cell_of h.hB rfl
theorem DevIn.c1 (h : DevIn S w B R sv C D) : w.cell? ⟨B, 1, none⟩ = some (.int .i64 D.writes) := cell_of h.hB rfl
theorem DevIn.c2 (h : DevIn S w B R sv C D) : w.cell? ⟨B, 2, none⟩ = some (.bool D.falling) := cell_of h.hB rfl
theorem DevIn.c3 (h : DevIn S w B R sv C D) : w.cell? ⟨B, 3, none⟩ = some (.int .i64 D.turns) := cell_of h.hB rfl
theorem DevIn.c4 (h : DevIn S w B R sv C D) : w.cell? ⟨B, 4, none⟩ = some (.bool D.down) := cell_of h.hB rfl
theorem DevIn.fB (h : DevIn S w B R sv C D) (i : Nat) : w.frozen? ⟨B, i, none⟩ = false := free_of h.hB
theorem DevIn.fR (h : DevIn S w B R sv C D) (i : Nat) : w.frozen? ⟨R, i, none⟩ = false := free_of h.hR
theorem DevIn.r0 (h : DevIn S w B R sv C D) {i : Nat} {b : Blk} (hb : D.bs[i]? = some b) : w.cell? ⟨R, i * 4, none⟩ = some (.string b.durable) := cell_of h.hR (h.cells i b hb).1
theorem DevIn.r1 (h : DevIn S w B R sv C D) {i : Nat} {b : Blk} (hb : D.bs[i]? = some b) : w.cell? ⟨R, i * 4 + 1, none⟩ = some (.bool b.spoiled) := cell_of h.hR (h.cells i b hb).2.1
theorem DevIn.r2 (h : DevIn S w B R sv C D) {i : Nat} {b : Blk} (hb : D.bs[i]? = some b) : w.cell? ⟨R, i * 4 + 2, none⟩ = some (.bool b.lost) := cell_of h.hR (h.cells i b hb).2.2.1
theorem DevIn.r3 (h : DevIn S w B R sv C D) {i : Nat} {b : Blk} (hb : D.bs[i]? = some b) : w.cell? ⟨R, i * 4 + 3, none⟩ = some (sv i) := cell_of h.hR (h.cells i b hb).2.2.2

/-- The device's block is no row of blocks, and neither is one of writes. -/
theorem DevIn.BR (h : DevIn S w B R sv C D) : B ≠ R := by
  rintro rfl
  have := h.hB.symm.trans h.hR
  simp at this
theorem ownsRow_block {w : World} {base : Nat} {e : TypeId} {size : Nat} {v : Value} {n k : Nat} {xs : List Value} (h : w.ownsRow base e size v n xs) (hk : v.ownBlock = some k) : ∃ cur, w.heap[k]? = some (.cells cur e (0, 0)) := by
  rcases h.2 with ⟨rfl, _⟩ | ⟨g, cap, cur, rfl, _, hg, _⟩
  · simp [Value.ownBlock] at hk
  · obtain rfl : g = k := by simpa [Value.ownBlock] using hk
    exact ⟨cur, hg⟩
theorem DevIn.notB (h : DevIn S w B R sv C D) {i : Nat} (hi : i < D.bs.length) : (sv i).ownBlock ≠ some B := by
  intro e
  obtain ⟨cur, hc⟩ := ownsRow_block (h.rows i _ (List.getElem?_eq_getElem hi)) e
  have := h.hB.symm.trans hc
  simp at this
theorem DevIn.notR (h : DevIn S w B R sv C D) {i : Nat} (hi : i < D.bs.length) : (sv i).ownBlock ≠ some R := by
  intro e
  obtain ⟨cur, hc⟩ := ownsRow_block (h.rows i _ (List.getElem?_eq_getElem hi)) e
  have := h.hR.symm.trans hc
  simp at this
theorem ownsRow_same {w w' : World} {base : Nat} {e : TypeId} {size : Nat} {v : Value} {n : Nat} {xs : List Value} (h : w.ownsRow base e size v n xs) (hk : ∀ k, v.ownBlock = some k → w'.heap[k]? = w.heap[k]?) : w'.ownsRow base e size v n xs := by
  refine ⟨h.1, ?_⟩
  rcases h.2 with hn | ⟨g, cap, cur, rfl, hb, hg, r⟩
  · exact .inl hn
  · exact .inr ⟨g, cap, cur, rfl, hb, (hk g rfl).trans hg, r⟩

/-- Where none of its own blocks has turned a device is as it was. -/
theorem DevIn.keep (h : DevIn S w B R sv C D) (hs : w.heap.size ≤ x.heap.size) (hk : ∀ k, S k → x.heap[k]? = w.heap[k]?) : DevIn S x B R sv C D :=
  { hB := (hk B h.sB).trans h.hB, hR := (hk R h.sR).trans h.hR, hC := h.hC, cells := h.cells,
    rows := fun i b hb => ownsRow_same (h.rows i b hb) (fun k e => hk k (h.sP i k (List.getElem?_eq_some_iff.1 hb).1 e)),
    sB := h.sB, sR := h.sR, sP := h.sP, lt := fun k hS => Nat.lt_of_lt_of_le (h.lt k hS) hs, one := h.one, fits := h.fits }
theorem DevAt.lt (h : DevAt S w B D) : ∀ k, S k → k < w.heap.size := by obtain ⟨R, sv, C, h⟩ := h; exact h.lt
theorem DevAt.fits (h : DevAt S w B D) : D.Fits := by obtain ⟨R, sv, C, h⟩ := h; exact h.fits
theorem DevAt.keep (h : DevAt S w B D) (hm : Mod T w x) (hd : ∀ k, S k → ¬ T k) : DevAt S x B D := by
  obtain ⟨R, sv, C, h⟩ := h
  exact ⟨R, sv, C, h.keep hm.size (fun k hS => hm.block k (h.lt k hS) (hd k hS))⟩
theorem DevAt.below (h : DevAt S w B D) (hb : Below w.heap.size w x) : DevAt S x B D := by
  obtain ⟨R, sv, C, h⟩ := h
  exact ⟨R, sv, C, h.keep hb.size (fun k hS => hb.block k (h.lt k hS))⟩
theorem DevAt.drew (h : DevAt S w B D) : DevAt S w.drew B D := h.below ⟨rfl, rfl, rfl, Nat.le_refl _, fun _ _ => rfl⟩

/-- The device's own block is written: the numbers, the power. -/
theorem DevIn.own {D' : Dv} (h : DevIn S w B R sv C D) (hx : x.heap[B]? = some (.cells (devCells R D') 92 (0, 0))) (hbs : D'.bs = D.bs) (hf : D'.Fits)
    (hs : w.heap.size ≤ x.heap.size) (hk : ∀ k, S k → k ≠ B → x.heap[k]? = w.heap[k]?) : DevIn S x B R sv C D' :=
  { hB := hx, hR := (hk R h.sR h.BR.symm).trans h.hR, hC := by rw [hbs]; exact h.hC, cells := by rw [hbs]; exact h.cells,
    rows := by rw [hbs]; exact fun i b hb => ownsRow_same (h.rows i b hb) (fun k e => hk k (h.sP i k (List.getElem?_eq_some_iff.1 hb).1 e) (fun e' => h.notB (List.getElem?_eq_some_iff.1 hb).1 (e' ▸ e))),
    sB := h.sB, sR := h.sR, sP := by rw [hbs]; exact h.sP, lt := fun k hS => Nat.lt_of_lt_of_le (h.lt k hS) hs, one := by rw [hbs]; exact h.one, fits := hf }

/-- One of its blocks becomes b', with the slice v'. -/
theorem DevIn.put {D' : Dv} {i : Nat} {b b' : Blk} {v' : Value} {C' : Array Value} (h : DevIn S w B R sv C D) (hi : D.bs[i]? = some b) (hbs : D'.bs = D.bs.set i b')
    (hB : x.heap[B]? = some (.cells (devCells R D') 92 (0, 0))) (hR : x.heap[R]? = some (.cells C' 109 (0, 0))) (hC : C'.size = C.size) (hoth : ∀ j, (j < i * 4 ∨ i * 4 + 4 ≤ j) → C'[j]? = C[j]?)
    (c0 : C'[i * 4]? = some (.string b'.durable)) (c1 : C'[i * 4 + 1]? = some (.bool b'.spoiled)) (c2 : C'[i * 4 + 2]? = some (.bool b'.lost)) (c3 : C'[i * 4 + 3]? = some v')
    (hown : x.ownsRow 0 144 2 v' b'.pending.length (wrCells b'.pending)) (hnew : ∀ k, v'.ownBlock = some k → (sv i).ownBlock = some k ∨ w.heap.size ≤ k)
    (hs : w.heap.size ≤ x.heap.size) (hk : ∀ k, S k → k ≠ B → k ≠ R → (sv i).ownBlock ≠ some k → x.heap[k]? = w.heap[k]?) (hf : D'.Fits) :
    DevIn (fun k => S k ∨ v'.ownBlock = some k) x B R (fun j => if j = i then v' else sv j) C' D' := by
  have hil : i < D.bs.length := (List.getElem?_eq_some_iff.1 hi).1
  have hlen : D'.bs.length = D.bs.length := by rw [hbs, List.length_set]
  refine { hB := hB, hR := hR, hC := by rw [hC, h.hC, hlen], cells := ?_, rows := ?_, sB := .inl h.sB, sR := .inl h.sR, sP := ?_, lt := ?_, one := ?_, fits := hf }
  · intro j d hj
    rw [hbs] at hj
    by_cases e : j = i
    · subst e
      obtain rfl : b' = d := by simpa [hil] using hj
      rw [if_pos rfl]
      exact ⟨c0, c1, c2, c3⟩
    · rw [List.getElem?_set_ne (by omega)] at hj
      obtain ⟨g0, g1, g2, g3⟩ := h.cells j d hj
      rw [if_neg e, hoth (j * 4) (by omega), hoth (j * 4 + 1) (by omega), hoth (j * 4 + 2) (by omega), hoth (j * 4 + 3) (by omega)]
      exact ⟨g0, g1, g2, g3⟩
  · intro j d hj
    rw [hbs] at hj
    by_cases e : j = i
    · subst e
      obtain rfl : b' = d := by simpa [hil] using hj
      rw [if_pos rfl]
      exact hown
    · rw [List.getElem?_set_ne (by omega)] at hj
      have hjl := (List.getElem?_eq_some_iff.1 hj).1
      rw [if_neg e]
      refine ownsRow_same (h.rows j d hj) (fun k ek => hk k (h.sP j k hjl ek) (fun e' => h.notB hjl (e' ▸ ek)) (fun e' => h.notR hjl (e' ▸ ek)) (fun e' => e (h.one j i k hjl hil ek e')))
  · intro j k hj hk'
    by_cases e : j = i
    · simp only [if_pos e] at hk'
      exact .inr hk'
    · simp only [if_neg e] at hk'
      exact .inl (h.sP j k (by omega) hk')
  · intro k hS
    rcases hS with hS | hS
    · exact Nat.lt_of_lt_of_le (h.lt k hS) hs
    · obtain ⟨cur, hc⟩ := ownsRow_block hown hS
      exact lt_of_block hc
  · intro j j' k hj hj' ek ek'
    rw [hlen] at hj hj'
    by_cases e : j = i
    · by_cases e' : j' = i
      · omega
      · simp only [if_pos e] at ek
        simp only [if_neg e'] at ek'
        rcases hnew k ek with h1 | h1
        · exact absurd (h.one i j' k hil hj' h1 ek') (by omega)
        · exact absurd (h.lt k (h.sP j' k hj' ek')) (by omega)
    · by_cases e' : j' = i
      · simp only [if_neg e] at ek
        simp only [if_pos e'] at ek'
        rcases hnew k ek' with h1 | h1
        · exact absurd (h.one i j k hil hj h1 ek) (by omega)
        · exact absurd (h.lt k (h.sP j k hj ek)) (by omega)
      · simp only [if_neg e] at ek
        simp only [if_neg e'] at ek'
        exact h.one j j' k hj hj' ek ek'
end
end Go.Proofs.YtpjbkeheemhlnaaDoor
