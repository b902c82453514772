/- A device of package dev in memory: its block, the row of its blocks, and the rows of what is not durable yet; no conditions beyond those in each statement. The device's small methods: Size, Down, operate, has, Fall; the contents of a block. No conditions beyond those in each statement. The contents of a block, New, and Read; no conditions beyond those in each statement. New: a device of so many empty blocks; no condition. Flush: everything that was written becomes durable; no conditions beyond those in each statement. -/
import Derived.Test.YtiknfifiglooeaaDoorBase0
import Derived.WalkKit
import Derived.WalkSpells
import Derived.WalkLawsBesides
import Derived.Lib.Hide
import Derived.OneCell
import Derived.Laws.MakeOwn
namespace Go.Proofs.YtiknfifiglooeaaDoor
section
open Go.RowKit
set_option linter.unusedVariables false
set_option maxRecDepth 100000

/-- Outside of S, and but for new blocks, w' is as w was. -/
structure Mod (S : Nat → Prop) (w w' : World) : Prop where
  os : w'.os = w.os
  tape : w'.tape = w.tape
  output : w'.output = w.output
  size : w.heap.size ≤ w'.heap.size
  block : ∀ k, k < w.heap.size → ¬ S k → w'.heap[k]? = w.heap[k]?

section
variable {S T : Nat → Prop} {a w x : World}
theorem Mod.refl (S : Nat → Prop) (w : World) : Mod S w w := ⟨rfl, rfl, rfl, Nat.le_refl _, fun _ _ _ => rfl⟩
theorem Mod.trans (h : Mod S a w) (k : Mod T w x) (hT : ∀ k, T k → S k ∨ a.heap.size ≤ k) : Mod S a x :=
  ⟨k.os.trans h.os, k.tape.trans h.tape, k.output.trans h.output, Nat.le_trans h.size k.size, fun i hi hS =>
    (k.block i (Nat.lt_of_lt_of_le hi h.size) (fun ht => by rcases hT i ht with h1 | h1; exact hS h1; omega)).trans (h.block i hi hS)⟩
theorem Mod.mono (h : Mod S a w) (hT : ∀ k, S k → T k) : Mod T a w := ⟨h.os, h.tape, h.output, h.size, fun i hi ht => h.block i hi (fun hs => ht (hT i hs))⟩
theorem Mod.drew (h : Mod S a w) : Mod S a w.drew := ⟨h.os, h.tape, h.output, h.size, h.block⟩
theorem Mod.alloc (h : Mod S a w) (o : Obj) : Mod S a (w.alloc o) :=
  ⟨h.os, h.tape, h.output, Nat.le_trans h.size (by simp), fun i hi hne => (Below.heap_alloc w o i (Nat.lt_of_lt_of_le hi h.size)).trans (h.block i hi hne)⟩
theorem Mod.setCell (h : Mod S a w) {p : Addr} (hp : S p.block ∨ a.heap.size ≤ p.block) (u : Value) : Mod S a (w.setCell p u) :=
  ⟨h.os, h.tape, h.output, by simpa [World.setCell] using h.size, fun i hi hne => (Below.heap_setCell w p u i (by
    rintro rfl
    rcases hp with hp | hp
    · exact hne hp
    · omega)).trans (h.block i hi hne)⟩
theorem Mod.below (h : Mod S a w) (k : Below a.heap.size w x) : Mod S a x :=
  ⟨k.os.trans h.os, k.tape.trans h.tape, k.output.trans h.output, Nat.le_trans h.size k.size, fun i hi hS => (k.block i hi).trans (h.block i hi hS)⟩
theorem Mod.of_below (h : Below a.heap.size a w) (S : Nat → Prop) : Mod S a w := ⟨h.os, h.tape, h.output, h.size, fun i hi _ => h.block i hi⟩
theorem Mod.grown {row : Option Nat} (h : Mod S a w) (hg : w.grownBy x row) (hr : ∀ k, row = some k → S k ∨ a.heap.size ≤ k) : Mod S a x :=
  ⟨hg.os.trans h.os, hg.tape.trans h.tape, hg.output.trans h.output, Nat.le_trans h.size hg.size, fun i hi hS =>
    (hg.block i (Nat.lt_of_lt_of_le hi h.size) (fun e => by rcases hr i e.symm with h1 | h1; exact hS h1; omega)).trans (h.block i hi hS)⟩
theorem Mod.toBelow {B : Nat} (h : Mod S a w) (hS : ∀ k, S k → B ≤ k) (hB : B ≤ a.heap.size) : Below B a w :=
  ⟨h.os, h.tape, h.output, h.size, fun k hk => h.block k (by omega) (fun hs => by have := hS k hs; omega)⟩
end

theorem block_setCell_other {w : World} {b k i : Nat} {u : Value} (h : k ≠ b) : (w.setCell ⟨b, i, none⟩ u).heap[k]? = w.heap[k]? := Below.heap_setCell w ⟨b, i, none⟩ u k h
theorem cell_of {w : World} {b i : Nat} {vs : Array Value} {u : Value} {t : TypeId} (h : w.heap[b]? = some (.cells vs t (0, 0))) (hu : vs[i]? = some u) : w.cell? ⟨b, i, none⟩ = some u := by
  simp [World.cell?, h, hu]
theorem free_of {w : World} {b i : Nat} {vs : Array Value} {t : TypeId} (h : w.heap[b]? = some (.cells vs t (0, 0))) : w.frozen? ⟨b, i, none⟩ = false := by
  simp [World.frozen?, h]

/-- A write that is not durable yet. -/
structure Wr where
  place : Nat
  data : ByteArray
/-- A block: what is durable, whether it was torn or flipped, whether it is lost, what is not durable yet. -/
structure Blk where
  durable : ByteArray
  spoiled : Bool
  lost : Bool
  pending : List Wr
/-- A device. -/
structure Dv where
  bs : List Blk
  writes : Nat
  falling : Bool
  turns : Nat
  down : Bool

def wrCells : List Wr → List Value
  | [] => []
  | p :: ps => .int .i64 p.place :: .string p.data :: wrCells ps
theorem wrCells_append (l r : List Wr) : wrCells (l ++ r) = wrCells l ++ wrCells r := by
  induction l with
  | nil => rfl
  | cons p l ih => simp [wrCells, ih]
theorem wrCells_length (l : List Wr) : (wrCells l).length = l.length * 2 := by
  induction l with
  | nil => rfl
  | cons p l ih => simp only [wrCells, List.length_cons, ih]; omega
theorem wrCells_at : ∀ (l : List Wr) (j : Nat) (p : Wr), l[j]? = some p → (wrCells l)[j * 2]? = some (.int .i64 p.place) ∧ (wrCells l)[j * 2 + 1]? = some (.string p.data)
  | [], j, p, h => by simp at h
  | q :: l, 0, p, h => by
    obtain rfl : q = p := by simpa using h
    exact ⟨rfl, rfl⟩
  | q :: l, j + 1, p, h => by
    have := wrCells_at l j p (by simpa using h)
    rw [show (j + 1) * 2 = j * 2 + 1 + 1 by omega]
    exact ⟨by simpa [wrCells] using this.1, by simpa [wrCells] using this.2⟩

def NB : Nat := 4096
/-- A device's own words on sizes: at most 4096 blocks, of at most 512 bytes each. -/
structure Dv.Fits (D : Dv) : Prop where
  many : D.bs.length ≤ 4096
  durable : ∀ b ∈ D.bs, b.durable.size ≤ 512
  pending : ∀ b ∈ D.bs, ∀ p ∈ b.pending, p.data.size ≤ 512 ∧ p.place < D.writes
  count : ∀ b ∈ D.bs, b.pending.length ≤ D.writes
  turns : D.turns ≤ 9223372036854775807

def devCells (R c : Nat) (D : Dv) : Array Value := #[.slice (some ⟨R, 0, none⟩) D.bs.length c, .int .i64 D.writes, .bool D.falling, .int .i64 D.turns, .bool D.down]

/-- Block B holds device D: R the row of its blocks, sv the slices of what is not durable yet; S the blocks of memory that are its own. -/
structure DevIn (S : Nat → Prop) (w : World) (B R : Nat) (sv : Nat → Value) (C : Array Value) (D : Dv) : Prop where
  hB : w.heap[B]? = some (.cells (devCells R (C.size / 4) D) 130 (0, 0))
  hR : w.heap[R]? = some (.cells C 133 (0, 0))
  hC : D.bs.length * 4 ≤ C.size
  nils : ∀ i b, D.bs[i]? = some b → b.pending = [] → sv i = .slice none 0 0
  cells : ∀ i b, D.bs[i]? = some b → C[i * 4]? = some (.string b.durable) ∧ C[i * 4 + 1]? = some (.bool b.spoiled) ∧ C[i * 4 + 2]? = some (.bool b.lost) ∧ C[i * 4 + 3]? = some (sv i)
  rows : ∀ i b, D.bs[i]? = some b → w.ownsRow 0 167 2 (sv i) b.pending.length (wrCells b.pending)
  sB : S B
  sR : S R
  sP : ∀ i k, i < D.bs.length → (sv i).ownBlock = some k → S k
  lt : ∀ k, S k → k < w.heap.size
  one : ∀ i j k, i < D.bs.length → j < D.bs.length → (sv i).ownBlock = some k → (sv j).ownBlock = some k → i = j
  fits : D.Fits

def DevAt (S : Nat → Prop) (w : World) (B : Nat) (D : Dv) : Prop := ∃ R sv C, DevIn S w B R sv C D
/-- What an operation does to a device: it is D' behind it; nothing but its own blocks and new ones has turned. -/
def DevTo (S : Nat → Prop) (w : World) (B : Nat) (D' : Dv) (w' : World) : Prop := ∃ S', DevAt S' w' B D' ∧ (∀ k, S' k → S k ∨ w.heap.size ≤ k) ∧ Mod S w w'

section
variable {S T : Nat → Prop} {w x : World} {B R : Nat} {sv : Nat → Value} {C : Array Value} {D : Dv}
theorem DevIn.c0 (h : DevIn S w B R sv C D) : w.cell? ⟨B, 0, none⟩ = some (.slice (some ⟨R, 0, none⟩) D.bs.length (C.size / 4)) := cell_of h.hB rfl
theorem DevIn.c1 (h : DevIn S w B R sv C D) : w.cell? ⟨B, 1, none⟩ = some (.int .i64 D.writes) := cell_of h.hB rfl
theorem DevIn.c2 (h : DevIn S w B R sv C D) : w.cell? ⟨B, 2, none⟩ = some (.bool D.falling) := cell_of h.hB rfl
theorem DevIn.c3 (h : DevIn S w B R sv C D) : w.cell? ⟨B, 3, none⟩ = some (.int .i64 D.turns) := cell_of h.hB rfl
theorem DevIn.c4 (h : DevIn S w B R sv C D) : w.cell? ⟨B, 4, none⟩ = some (.bool D.down) := cell_of h.hB rfl
theorem DevIn.fB (h : DevIn S w B R sv C D) (i : Nat) : w.frozen? ⟨B, i, none⟩ = false := free_of h.hB
theorem DevIn.fR (h : DevIn S w B R sv C D) (i : Nat) : w.frozen? ⟨R, i, none⟩ = false := free_of h.hR
theorem DevIn.r0 (h : DevIn S w B R sv C D) {i : Nat} {b : Blk} (hb : D.bs[i]? = some b) : w.cell? ⟨R, i * 4, none⟩ = some (.string b.durable) := cell_of h.hR (h.cells i b hb).1
theorem DevIn.r1 (h : DevIn S w B R sv C D) {i : Nat} {b : Blk} (hb : D.bs[i]? = some b) : w.cell? ⟨R, i * 4 + 1, none⟩ = some (.bool b.spoiled) := cell_of h.hR (h.cells i b hb).2.1
theorem DevIn.r2 (h : DevIn S w B R sv C D) {i : Nat} {b : Blk} (hb : D.bs[i]? = some b) : w.cell? ⟨R, i * 4 + 2, none⟩ = some (.bool b.lost) := cell_of h.hR (h.cells i b hb).2.2.1
theorem DevIn.r3 (h : DevIn S w B R sv C D) {i : Nat} {b : Blk} (hb : D.bs[i]? = some b) : w.cell? ⟨R, i * 4 + 3, none⟩ = some (sv i) := cell_of h.hR (h.cells i b hb).2.2.2

/-- The device's block is no row of blocks, and neither is one of writes. -/
theorem DevIn.BR (h : DevIn S w B R sv C D) : B ≠ R := by
  rintro rfl
  have := h.hB.symm.trans h.hR
  simp at this
theorem ownsRow_block {w : World} {base : Nat} {e : TypeId} {size : Nat} {v : Value} {n k : Nat} {xs : List Value} (h : w.ownsRow base e size v n xs) (hk : v.ownBlock = some k) : ∃ cur, w.heap[k]? = some (.cells cur e (0, 0)) := by
  rcases h.2 with ⟨rfl, _⟩ | ⟨g, cap, cur, rfl, _, hg, _⟩
  · simp [Value.ownBlock] at hk
  · obtain rfl : g = k := by simpa [Value.ownBlock] using hk
    exact ⟨cur, hg⟩
theorem DevIn.notB (h : DevIn S w B R sv C D) {i : Nat} (hi : i < D.bs.length) : (sv i).ownBlock ≠ some B := by
  intro e
  obtain ⟨cur, hc⟩ := ownsRow_block (h.rows i _ (List.getElem?_eq_getElem hi)) e
  have := h.hB.symm.trans hc
  simp at this
theorem DevIn.notR (h : DevIn S w B R sv C D) {i : Nat} (hi : i < D.bs.length) : (sv i).ownBlock ≠ some R := by
  intro e
  obtain ⟨cur, hc⟩ := ownsRow_block (h.rows i _ (List.getElem?_eq_getElem hi)) e
  have := h.hR.symm.trans hc
  simp at this
theorem ownsRow_same {w w' : World} {base : Nat} {e : TypeId} {size : Nat} {v : Value} {n : Nat} {xs : List Value} (h : w.ownsRow base e size v n xs) (hk : ∀ k, v.ownBlock = some k → w'.heap[k]? = w.heap[k]?) : w'.ownsRow base e size v n xs := by
  refine ⟨h.1, ?_⟩
  rcases h.2 with hn | ⟨g, cap, cur, rfl, hb, hg, r⟩
  · exact .inl hn
  · exact .inr ⟨g, cap, cur, rfl, hb, (hk g rfl).trans hg, r⟩

/-- Where none of its own blocks has turned a device is as it was. -/
theorem DevIn.keep (h : DevIn S w B R sv C D) (hs : w.heap.size ≤ x.heap.size) (hk : ∀ k, S k → x.heap[k]? = w.heap[k]?) : DevIn S x B R sv C D :=
  { hB := (hk B h.sB).trans h.hB, hR := (hk R h.sR).trans h.hR, hC := h.hC, nils := h.nils, cells := h.cells,
    rows := fun i b hb => ownsRow_same (h.rows i b hb) (fun k e => hk k (h.sP i k (List.getElem?_eq_some_iff.1 hb).1 e)),
    sB := h.sB, sR := h.sR, sP := h.sP, lt := fun k hS => Nat.lt_of_lt_of_le (h.lt k hS) hs, one := h.one, fits := h.fits }
theorem DevAt.lt (h : DevAt S w B D) : ∀ k, S k → k < w.heap.size := by obtain ⟨R, sv, C, h⟩ := h; exact h.lt
theorem DevAt.fits (h : DevAt S w B D) : D.Fits := by obtain ⟨R, sv, C, h⟩ := h; exact h.fits
theorem DevAt.keep (h : DevAt S w B D) (hm : Mod T w x) (hd : ∀ k, S k → ¬ T k) : DevAt S x B D := by
  obtain ⟨R, sv, C, h⟩ := h
  exact ⟨R, sv, C, h.keep hm.size (fun k hS => hm.block k (h.lt k hS) (hd k hS))⟩
theorem DevAt.below (h : DevAt S w B D) (hb : Below w.heap.size w x) : DevAt S x B D := by
  obtain ⟨R, sv, C, h⟩ := h
  exact ⟨R, sv, C, h.keep hb.size (fun k hS => hb.block k (h.lt k hS))⟩
theorem DevAt.drew (h : DevAt S w B D) : DevAt S w.drew B D := h.below ⟨rfl, rfl, rfl, Nat.le_refl _, fun _ _ => rfl⟩

/-- The device's own block is written: the numbers, the power. -/
theorem DevIn.own {D' : Dv} (h : DevIn S w B R sv C D) (hx : x.heap[B]? = some (.cells (devCells R (C.size / 4) D') 130 (0, 0))) (hbs : D'.bs = D.bs) (hf : D'.Fits)
    (hs : w.heap.size ≤ x.heap.size) (hk : ∀ k, S k → k ≠ B → x.heap[k]? = w.heap[k]?) : DevIn S x B R sv C D' :=
  { hB := hx, hR := (hk R h.sR h.BR.symm).trans h.hR, hC := by rw [hbs]; exact h.hC, nils := by rw [hbs]; exact h.nils, cells := by rw [hbs]; exact h.cells,
    rows := by rw [hbs]; exact fun i b hb => ownsRow_same (h.rows i b hb) (fun k e => hk k (h.sP i k (List.getElem?_eq_some_iff.1 hb).1 e) (fun e' => h.notB (List.getElem?_eq_some_iff.1 hb).1 (e' ▸ e))),
    sB := h.sB, sR := h.sR, sP := by rw [hbs]; exact h.sP, lt := fun k hS => Nat.lt_of_lt_of_le (h.lt k hS) hs, one := by rw [hbs]; exact h.one, fits := hf }

/-- One of its blocks becomes b', with the slice v'. -/
theorem DevIn.put {D' : Dv} {i : Nat} {b b' : Blk} {v' : Value} {C' : Array Value} (h : DevIn S w B R sv C D) (hi : D.bs[i]? = some b) (hbs : D'.bs = D.bs.set i b')
    (hB : x.heap[B]? = some (.cells (devCells R (C.size / 4) D') 130 (0, 0))) (hR : x.heap[R]? = some (.cells C' 133 (0, 0))) (hC : C'.size = C.size) (hoth : ∀ j, (j < i * 4 ∨ i * 4 + 4 ≤ j) → C'[j]? = C[j]?)
    (c0 : C'[i * 4]? = some (.string b'.durable)) (c1 : C'[i * 4 + 1]? = some (.bool b'.spoiled)) (c2 : C'[i * 4 + 2]? = some (.bool b'.lost)) (c3 : C'[i * 4 + 3]? = some v')
    (hown : x.ownsRow 0 167 2 v' b'.pending.length (wrCells b'.pending)) (hnew : ∀ k, v'.ownBlock = some k → (sv i).ownBlock = some k ∨ w.heap.size ≤ k) (hnil : b'.pending = [] → v' = .slice none 0 0)
    (hs : w.heap.size ≤ x.heap.size) (hk : ∀ k, S k → k ≠ B → k ≠ R → (sv i).ownBlock ≠ some k → x.heap[k]? = w.heap[k]?) (hf : D'.Fits) :
    DevIn (fun k => S k ∨ v'.ownBlock = some k) x B R (fun j => if j = i then v' else sv j) C' D' := by
  have hil : i < D.bs.length := (List.getElem?_eq_some_iff.1 hi).1
  have hlen : D'.bs.length = D.bs.length := by rw [hbs, List.length_set]
  refine { hB := by rw [hC]; exact hB, hR := hR, hC := by rw [hC, hlen]; exact h.hC, nils := ?_, cells := ?_, rows := ?_, sB := .inl h.sB, sR := .inl h.sR, sP := ?_, lt := ?_, one := ?_, fits := hf }
  · intro j d hj hd
    rw [hbs] at hj
    by_cases e : j = i
    · subst e
      obtain rfl : b' = d := by simpa [hil] using hj
      rw [if_pos rfl]
      exact hnil hd
    · rw [List.getElem?_set_ne (by omega)] at hj
      rw [if_neg e]
      exact h.nils j d hj hd
  · intro j d hj
    rw [hbs] at hj
    by_cases e : j = i
    · subst e
      obtain rfl : b' = d := by simpa [hil] using hj
      rw [if_pos rfl]
      exact ⟨c0, c1, c2, c3⟩
    · rw [List.getElem?_set_ne (by omega)] at hj
      obtain ⟨g0, g1, g2, g3⟩ := h.cells j d hj
      rw [if_neg e, hoth (j * 4) (by omega), hoth (j * 4 + 1) (by omega), hoth (j * 4 + 2) (by omega), hoth (j * 4 + 3) (by omega)]
      exact ⟨g0, g1, g2, g3⟩
  · intro j d hj
    rw [hbs] at hj
    by_cases e : j = i
    · subst e
      obtain rfl : b' = d := by simpa [hil] using hj
      rw [if_pos rfl]
      exact hown
    · rw [List.getElem?_set_ne (by omega)] at hj
      have hjl := (List.getElem?_eq_some_iff.1 hj).1
      rw [if_neg e]
      refine ownsRow_same (h.rows j d hj) (fun k ek => hk k (h.sP j k hjl ek) (fun e' => h.notB hjl (e' ▸ ek)) (fun e' => h.notR hjl (e' ▸ ek)) (fun e' => e (h.one j i k hjl hil ek e')))
  · intro j k hj hk'
    by_cases e : j = i
    · simp only [if_pos e] at hk'
      exact .inr hk'
    · simp only [if_neg e] at hk'
      exact .inl (h.sP j k (by omega) hk')
  · intro k hS
    rcases hS with hS | hS
    · exact Nat.lt_of_lt_of_le (h.lt k hS) hs
    · obtain ⟨cur, hc⟩ := ownsRow_block hown hS
      exact lt_of_block hc
  · intro j j' k hj hj' ek ek'
    rw [hlen] at hj hj'
    by_cases e : j = i
    · by_cases e' : j' = i
      · omega
      · simp only [if_pos e] at ek
        simp only [if_neg e'] at ek'
        rcases hnew k ek with h1 | h1
        · exact absurd (h.one i j' k hil hj' h1 ek') (by omega)
        · exact absurd (h.lt k (h.sP j' k hj' ek')) (by omega)
    · by_cases e' : j' = i
      · simp only [if_neg e] at ek
        simp only [if_pos e'] at ek'
        rcases hnew k ek' with h1 | h1
        · exact absurd (h.one i j k hil hj h1 ek) (by omega)
        · exact absurd (h.lt k (h.sP j k hj ek)) (by omega)
      · simp only [if_neg e] at ek
        simp only [if_neg e'] at ek'
        exact h.one j j' k hj hj' ek ek'
end
end
section
open Go.RowKit
set_option linter.unusedVariables false
set_option maxRecDepth 100000

/-- Is there power for an operation? -/
def Dv.up (D : Dv) : Bool := !D.down && !(D.falling && D.turns == 0)
/-- The device behind an operation's count. -/
def Dv.op (D : Dv) : Dv := if D.down then D else if D.falling then (if D.turns = 0 then { D with down := true } else { D with turns := D.turns - 1 }) else D
/-- Is there such a block? -/
def Dv.hasB (D : Dv) (i : Int) : Bool := decide (0 ≤ i ∧ i < (D.bs.length : Int))
theorem Dv.op_bs (D : Dv) : D.op.bs = D.bs := by unfold Dv.op; split <;> (try split) <;> (try split) <;> rfl
theorem Dv.op_writes (D : Dv) : D.op.writes = D.writes := by unfold Dv.op; split <;> (try split) <;> (try split) <;> rfl
theorem Dv.op_falling (D : Dv) : D.op.falling = D.falling := by unfold Dv.op; split <;> (try split) <;> (try split) <;> rfl
theorem Dv.op_turns (D : Dv) : D.op.turns ≤ D.turns := by unfold Dv.op; split <;> (try split) <;> (try split) <;> simp
theorem Dv.Fits.same {D D' : Dv} (h : D.Fits) (hb : D'.bs = D.bs) (hw : D'.writes = D.writes) (ht : D'.turns ≤ 9223372036854775807) : D'.Fits :=
  ⟨by rw [hb]; exact h.many, by rw [hb]; exact h.durable, by rw [hb, hw]; exact h.pending, by rw [hb, hw]; exact h.count, ht⟩
theorem Dv.Fits.op {D : Dv} (h : D.Fits) : D.op.Fits := h.same D.op_bs D.op_writes (Nat.le_trans D.op_turns h.turns)

section
variable {S : Nat → Prop} {w : World} {B : Nat} {D : Dv}
theorem size_any (h : DevAt S w B D) : Calls Tryd.prog 67 #[.pointer (some ⟨B, 0, none⟩)] w fun e w' => e = .returned (.int .i64 D.bs.length) ∧ w = w' := by
  obtain ⟨R, sv, C, h⟩ := h
  have c0 := h.c0
  go_enter Tryd.func67, Tryd.ntmps67
  go_wp2
  go_ret
  exact ⟨rfl, rfl⟩
theorem down_any (h : DevAt S w B D) : Calls Tryd.prog 37 #[.pointer (some ⟨B, 0, none⟩)] w fun e w' => e = .returned (.bool D.down) ∧ w = w' := by
  obtain ⟨R, sv, C, h⟩ := h
  have c4 := h.c4
  go_enter Tryd.func37, Tryd.ntmps37
  go_wp2
  go_ret
  exact ⟨rfl, rfl⟩
theorem has_any (i : Int) (h : DevAt S w B D) : Calls Tryd.prog 83 #[.pointer (some ⟨B, 0, none⟩), .int .i64 i] w fun e w' => e = .returned (.bool (D.hasB i)) ∧ w = w' := by
  by_cases h0 : 0 ≤ i
  · have hd : decide (0 ≤ i) = true := by simpa using h0
    go_enter Tryd.func83, Tryd.ntmps83
    go_wp2_with (go_at_call 67; refine (size_any h).mono ?_; rintro e w' ⟨rfl, rfl⟩)
    go_ret
    exact ⟨by simp [Dv.hasB, h0], rfl⟩
  · have hd : decide (0 ≤ i) = false := by simpa using h0
    go_enter Tryd.func83, Tryd.ntmps83
    go_wp2
    go_ret
    exact ⟨by simp [Dv.hasB]; omega, rfl⟩

theorem DevAt.setDown (h : DevAt S w B D) : DevAt S (w.setCell ⟨B, 4, none⟩ (.bool true)) B { D with down := true } ∧ Mod S w (w.setCell ⟨B, 4, none⟩ (.bool true)) := by
  obtain ⟨R, sv, C, h⟩ := h
  exact ⟨⟨R, sv, C, h.own (block_setCell h.hB) rfl (h.fits.same rfl rfl h.fits.turns) (by simp [World.setCell]) (fun k _ hk => block_setCell_other hk)⟩, (Mod.refl S w).setCell (p := ⟨B, 4, none⟩) (.inl h.sB) _⟩
theorem DevAt.setTurns (t : Nat) (ht : t ≤ 9223372036854775807) (h : DevAt S w B D) : DevAt S (w.setCell ⟨B, 3, none⟩ (.int .i64 t)) B { D with turns := t } ∧ Mod S w (w.setCell ⟨B, 3, none⟩ (.int .i64 t)) := by
  obtain ⟨R, sv, C, h⟩ := h
  exact ⟨⟨R, sv, C, h.own (block_setCell h.hB) rfl (h.fits.same rfl rfl ht) (by simp [World.setCell]) (fun k _ hk => block_setCell_other hk)⟩, (Mod.refl S w).setCell (p := ⟨B, 3, none⟩) (.inl h.sB) _⟩
theorem DevAt.setWrites (n : Nat) (hf : Dv.Fits { D with writes := n }) (h : DevAt S w B D) : DevAt S (w.setCell ⟨B, 1, none⟩ (.int .i64 n)) B { D with writes := n } ∧ Mod S w (w.setCell ⟨B, 1, none⟩ (.int .i64 n)) := by
  obtain ⟨R, sv, C, h⟩ := h
  exact ⟨⟨R, sv, C, h.own (block_setCell h.hB) rfl hf (by simp [World.setCell]) (fun k _ hk => block_setCell_other hk)⟩, (Mod.refl S w).setCell (p := ⟨B, 1, none⟩) (.inl h.sB) _⟩
theorem DevAt.setFalling (h : DevAt S w B D) : DevAt S (w.setCell ⟨B, 2, none⟩ (.bool true)) B { D with falling := true } ∧ Mod S w (w.setCell ⟨B, 2, none⟩ (.bool true)) := by
  obtain ⟨R, sv, C, h⟩ := h
  exact ⟨⟨R, sv, C, h.own (block_setCell h.hB) rfl (h.fits.same rfl rfl h.fits.turns) (by simp [World.setCell]) (fun k _ hk => block_setCell_other hk)⟩, (Mod.refl S w).setCell (p := ⟨B, 2, none⟩) (.inl h.sB) _⟩
theorem DevAt.stay (h : DevAt S w B D) : DevAt S w B D ∧ Mod S w w := ⟨h, Mod.refl S w⟩
theorem DevAt.same {D' : Dv} (h : DevAt S w B D) (e : D = D') : DevAt S w B D' := e ▸ h

/-- 'operate()': what it answers, and the device behind it. -/
theorem operate_any (h : DevAt S w B D) : Calls Tryd.prog 113 #[.pointer (some ⟨B, 0, none⟩)] w fun e w' => e = .returned (.bool D.up) ∧ DevAt S w' B D.op ∧ Mod S w w' := by
  obtain ⟨R, sv, C, h0⟩ := id h
  have c2 := h0.c2
  have c3 := h0.c3
  have f3 := h0.fB 3
  have f4 := h0.fB 4
  have c4 := h0.c4
  have htm := h0.fits.turns
  clear h0
  by_cases hd : D.down = true
  · have e1 : D.up = false := by simp [Dv.up, hd]
    have e2 : D.op = D := by simp [Dv.op, hd]
    rw [e1, e2]
    clear e1 e2 c2 c3
    go_enter Tryd.func113, Tryd.ntmps113
    go_wp2_with (go_at_call 37; refine (down_any h).mono ?_; rintro e w' ⟨rfl, rfl⟩)
    go_ret
    exact ⟨rfl, h.stay⟩
  · have hd' : D.down = false := by simpa using hd
    clear hd
    by_cases hf : D.falling = true
    · by_cases ht : D.turns = 0
      · have e1 : D.up = false := by simp [Dv.up, hf, ht]
        have e2 : D.op = { D with down := true } := by simp [Dv.op, hd', hf, ht]
        rw [e1, e2]
        have HS := h.setDown
        rw [hf] at c2
        have c3' : w.cell? ⟨B, 3, none⟩ = some (.int .i64 0) := by rw [ht] at c3; exact c3
        clear e1 e2 ht hf c3
        go_enter Tryd.func113, Tryd.ntmps113
        go_wp2_with (go_at_call 37; refine (down_any h).mono ?_; rintro e w' ⟨rfl, rfl⟩)
        go_ret
        exact ⟨rfl, HS⟩
      · have e1 : D.up = true := by simp [Dv.up, hd', hf, ht]
        have e2 : D.op = { D with turns := D.turns - 1 } := by simp [Dv.op, hd', hf, ht]
        rw [e1, e2]
        have HS := h.setTurns (D.turns - 1) (by omega)
        rw [show ((D.turns - 1 : Nat) : Int) = (D.turns : Int) - 1 by omega] at HS
        have hb : ((D.turns : Int) == 0) = false := by simpa using ht
        rw [hf] at c2
        clear e1 e2 hf
        go_enter Tryd.func113, Tryd.ntmps113
        go_wp2_with (go_at_call 37; refine (down_any h).mono ?_; rintro e w' ⟨rfl, rfl⟩)
        go_ret
        exact ⟨rfl, HS⟩
    · have hf' : D.falling = false := by simpa using hf
      have e1 : D.up = true := by simp [Dv.up, hd', hf']
      have e2 : D.op = D := by simp [Dv.op, hd', hf']
      rw [e1, e2]
      rw [hf'] at c2
      clear e1 e2 hf hf'
      go_enter Tryd.func113, Tryd.ntmps113
      go_wp2_with (go_at_call 37; refine (down_any h).mono ?_; rintro e w' ⟨rfl, rfl⟩)
      go_ret
      exact ⟨rfl, h.stay⟩

/-- 'Fall(n)'. -/
def Dv.fall (D : Dv) (n : Int) : Dv := { D with falling := true, turns := n.toNat }
theorem fall_any (n : Int) (hn : n ≤ 9223372036854775807) (h : DevAt S w B D) : Calls Tryd.prog 35 #[.pointer (some ⟨B, 0, none⟩), .int .i64 n] w fun e w' => e = .returned (.tuple #[]) ∧ DevAt S w' B (D.fall n) ∧ Mod S w w' := by
  obtain ⟨R, sv, C, h0⟩ := id h
  have f2 := h0.fB 2
  have f3 := h0.fB 3
  have c2 := h0.c2
  have c3 := h0.c3
  clear h0
  have h1 := h.setFalling
  have h2 := h1.1.setTurns n.toNat (by omega)
  have HS : DevAt S ((w.setCell ⟨B, 2, none⟩ (.bool true)).setCell ⟨B, 3, none⟩ (.int .i64 ((n.toNat : Nat) : Int))) B (D.fall n) ∧ Mod S w ((w.setCell ⟨B, 2, none⟩ (.bool true)).setCell ⟨B, 3, none⟩ (.int .i64 ((n.toNat : Nat) : Int))) :=
    ⟨h2.1, h1.2.trans h2.2 (fun k hk => .inl hk)⟩
  clear h1 h2
  by_cases hn0 : 0 ≤ n
  · rw [show ((n.toNat : Nat) : Int) = n by omega] at HS
    go_enter Tryd.func35, Tryd.ntmps35
    go_wp2
    go_end0
    exact ⟨rfl, HS⟩
  · rw [show ((n.toNat : Nat) : Int) = 0 by omega] at HS
    go_enter Tryd.func35, Tryd.ntmps35
    go_wp2
    go_end0
    exact ⟨rfl, HS⟩
end
end
section
open Go.RowKit
set_option linter.unusedVariables false
set_option maxRecDepth 100000

/-- A slice of writes as the walk wants it: nil, or a row whose cells are known. -/
theorem row_of {w : World} {v : Value} {ps : List Wr} (h : w.ownsRow 0 167 2 v ps.length (wrCells ps)) :
    (v = .slice none 0 0 ∧ ps = []) ∨ ∃ g cap, v = .slice (some ⟨g, 0, none⟩) ps.length cap ∧ g < w.heap.size ∧ ps.length ≤ cap ∧ cap ≤ maxLen ∧ ∀ j p, ps[j]? = some p → w.cell? ⟨g, j * 2, none⟩ = some (.int .i64 p.place) ∧ w.cell? ⟨g, j * 2 + 1, none⟩ = some (.string p.data) := by
  rcases id h.2 with ⟨rfl, hn⟩ | ⟨g, cap, cur, rfl, _, hg, hl, hm, _, _⟩
  · exact .inl ⟨rfl, List.eq_nil_of_length_eq_zero hn⟩
  · refine .inr ⟨g, cap, rfl, lt_of_block hg, hl, hm, fun j p hp => ?_⟩
    obtain ⟨a, b⟩ := wrCells_at ps j p hp
    have ha := h.cells rfl _ _ a
    have hb := h.cells rfl _ _ b
    have hadd : ∀ j, (⟨g, 0, none⟩ : Addr).add j = ⟨g, j, none⟩ := fun j => by unfold Addr.add; split <;> simp_all
    rw [hadd] at ha hb
    exact ⟨ha, hb⟩

theorem slice_of {w : World} {base : Nat} {e : TypeId} {size : Nat} {v : Value} {n : Nat} {xs : List Value} (h : w.ownsRow base e size v n xs) : ∃ a cap, v = .slice a n cap := by
  rcases h.2 with ⟨rfl, rfl⟩ | ⟨g, cap, cur, rfl, _⟩
  · exact ⟨_, _, rfl⟩
  · exact ⟨_, _, rfl⟩

/-- What a block contains. -/
def Blk.contents (b : Blk) : ByteArray := match b.pending.getLast? with
  | some p => p.data
  | none => b.durable
/-- A block by value. -/
abbrev blkV (b : Blk) (v : Value) : Value := .agg #[.string b.durable, .bool b.spoiled, .bool b.lost, v]

theorem contents_any (b : Blk) (v : Value) (w : World) (hc : b.pending.length ≤ 4611686018427387904) (h : w.ownsRow 0 167 2 v b.pending.length (wrCells b.pending)) :
    Calls Tryd.prog 103 #[blkV b v] w fun e w' => e = .returned (.string b.contents) ∧ Below w.heap.size w w' := by
  obtain ⟨d, sp, lo, pend⟩ := b
  simp only at hc h
  by_cases hn : pend.length = 0
  · obtain rfl : pend = [] := List.eq_nil_of_length_eq_zero hn
    have e0 : (Blk.contents ⟨d, sp, lo, []⟩) = d := rfl
    rw [e0]
    rcases row_of h with ⟨rfl, _⟩ | ⟨g, cap, rfl, _, _, _, _⟩
    all_goals
      clear h e0 hn hc
      go_enter Tryd.func103, Tryd.ntmps103
      go_wp2
      go_ret
      exact ⟨rfl, (Below.refl _ _).alloc (Nat.le_refl _) _⟩
  · rcases row_of h with ⟨rfl, h0⟩ | ⟨g, cap, rfl, hg, _, _, hcell⟩
    · exact absurd (by rw [h0]; rfl) hn
    · obtain ⟨p, hp⟩ : ∃ p, pend[pend.length - 1]? = some p := ⟨_, List.getElem?_eq_getElem (by omega)⟩
      have e0 : (Blk.contents ⟨d, sp, lo, pend⟩) = p.data := by simp only [Blk.contents, List.getLast?_eq_getElem?, hp]
      rw [e0]
      have hq := (hcell _ p hp).2
      clear e0 hcell h hp
      have hpos : 0 < pend.length := by omega
      clear hn
      obtain ⟨m, hm⟩ : ∃ m, pend.length = m + 1 := ⟨pend.length - 1, by omega⟩
      rw [hm] at hc hq hpos ⊢
      rw [Nat.add_sub_cancel] at hq
      clear hm
      have h1 : decide ((0 : Int) < ((m + 1 : Nat) : Int)) = true := by simp
      go_enter Tryd.func103, Tryd.ntmps103
      go_wp2
      go_ret
      exact ⟨rfl, (Below.refl _ _).alloc (Nat.le_refl _) _⟩

/-- What Read answers. -/
def Dv.read (D : Dv) (i : Int) : ByteArray × Int :=
  if D.down then (⟨#[]⟩, 5) else match (if D.hasB i then D.bs[i.toNat]? else none) with
  | none => (⟨#[]⟩, 7)
  | some b => if b.lost then (⟨#[]⟩, 6) else (b.contents, 0)
abbrev two (x : ByteArray × Int) : Value := .tuple #[.string x.1, .int .i64 x.2]

section
variable {S : Nat → Prop} {w : World} {B : Nat} {D : Dv}
theorem Dv.has_at {i : Int} (h : D.hasB i = true) : ∃ (k : Nat) (b : Blk), i = (k : Int) ∧ k < D.bs.length ∧ D.bs[k]? = some b := by
  simp only [Dv.hasB, decide_eq_true_eq] at h
  obtain ⟨k, rfl⟩ : ∃ k : Nat, i = k := ⟨i.toNat, by omega⟩
  have hk : k < D.bs.length := by omega
  exact ⟨k, _, rfl, hk, List.getElem?_eq_getElem hk⟩
theorem read_any (i : Int) (h : DevAt S w B D) (hw : D.writes ≤ 4611686018427387904) :
    Calls Tryd.prog 69 #[.pointer (some ⟨B, 0, none⟩), .int .i64 i] w fun e w' => e = .returned (two (D.read i)) ∧ Below w.heap.size w w' := by
  by_cases hd : D.down = true
  · have e0 : D.read i = (⟨#[]⟩, 5) := by simp [Dv.read, hd]
    have hdn := down_any h
    rw [hd] at hdn
    rw [e0]
    clear hd e0
    go_enter Tryd.func69, Tryd.ntmps69
    go_wp2_with (go_at_call 37; refine hdn.mono ?_; rintro e w' ⟨rfl, rfl⟩)
    go_ret2
    exact ⟨rfl, Below.refl _ _⟩
  · have hd' : D.down = false := by simpa using hd
    have hdn := down_any h
    have hhs := has_any i h
    rw [hd'] at hdn
    clear hd
    by_cases hh : D.hasB i = true
    · obtain ⟨k, b, rfl, hk, hb⟩ := Dv.has_at hh
      obtain ⟨R, sv, C, h0⟩ := id h
      have c0 := h0.c0
      have r0 := h0.r0 hb
      have r1 := h0.r1 hb
      have r2 := h0.r2 hb
      have r3 := h0.r3 hb
      have hrow := h0.rows k b hb
      have hmany := h0.fits.many
      obtain ⟨sa, scap, hsv⟩ := slice_of hrow
      rw [hsv] at r3 hrow
      have hcnt := h0.fits.count b (List.mem_of_getElem? hb)
      rw [hh] at hhs
      by_cases hl : b.lost = true
      · have e0 : D.read (k : Int) = (⟨#[]⟩, 6) := by simp [Dv.read, hd', hh, hb, hl]
        rw [e0]
        rw [hl] at r2
        clear h0 hb hrow hh hd' e0 hl hsv
        go_enter Tryd.func69, Tryd.ntmps69
        go_wp2_with (first
          | (go_at_call 37; refine hdn.mono ?_; rintro e w' ⟨rfl, rfl⟩)
          | (go_at_call 83; refine hhs.mono ?_; rintro e w' ⟨rfl, rfl⟩))
        go_ret2
        exact ⟨rfl, (Below.refl _ _).alloc (Nat.le_refl _) _⟩
      · have hl' : b.lost = false := by simpa using hl
        have e0 : D.read (k : Int) = (b.contents, 0) := by simp [Dv.read, hd', hh, hb, hl']
        rw [e0]
        rw [hl'] at r2
        have hct : ∀ W : World, Below w.heap.size w W → Calls Tryd.prog 103 #[.agg #[.string b.durable, .bool b.spoiled, .bool false, .slice sa b.pending.length scap]] W fun e w' => e = .returned (.string b.contents) ∧ Below W.heap.size W w' := fun W hW => by
          have := contents_any b _ W (by omega) (ownsRow_same hrow (fun j e => hW.block j (by obtain ⟨cur, hc⟩ := ownsRow_block hrow e; exact lt_of_block hc)))
          rwa [blkV, hl'] at this
        have HCT := Lib.hid hct
        clear h0 hb hrow hh hd' e0 hl hl' hct hsv
        go_enter Tryd.func69, Tryd.ntmps69
        go_wp2_with (first
          | (go_at_call 37; refine hdn.mono ?_; rintro e w' ⟨rfl, rfl⟩)
          | (go_at_call 83; refine hhs.mono ?_; rintro e w' ⟨rfl, rfl⟩)
          | (go_at_call 103; refine (HCT.out _ ((Below.refl _ _).alloc (Nat.le_refl _) _)).mono ?_; rintro e w1 ⟨rfl, hb1⟩))
        go_ret2
        exact ⟨rfl, ((Below.refl _ _).alloc (Nat.le_refl _) _).trans (hb1.mono (by simp))⟩
    · have hh' : D.hasB i = false := by simpa using hh
      have e0 : D.read i = (⟨#[]⟩, 7) := by simp [Dv.read, hd', hh']
      rw [e0]
      rw [hh'] at hhs
      clear hh hh' e0 hd'
      go_enter Tryd.func69, Tryd.ntmps69
      go_wp2_with (first
        | (go_at_call 37; refine hdn.mono ?_; rintro e w' ⟨rfl, rfl⟩)
        | (go_at_call 83; refine hhs.mono ?_; rintro e w' ⟨rfl, rfl⟩))
      go_ret2
      exact ⟨rfl, Below.refl _ _⟩
end
end
section
open Go.RowKit
set_option linter.unusedVariables false
set_option maxRecDepth 100000

def blk0 : Blk := ⟨⟨#[]⟩, false, false, []⟩
def Dv.newN (m : Nat) : Dv := ⟨List.replicate m blk0, 0, false, 0, false⟩
/-- How many blocks 'New(n)' has. -/
def howMany (n : Int) : Nat := (min (max n 0) 4096).toNat
def Dv.new (n : Int) : Dv := Dv.newN (howMany n)
/-- The blocks of memory from a to b. -/
def span (a b : Nat) : Nat → Prop := fun k => a ≤ k ∧ k < b
def NewDev (D : Dv) (w : World) (e : Ending) (w' : World) : Prop := ∃ B, e = .returned (.pointer (some ⟨B, 0, none⟩)) ∧ DevAt (span w.heap.size w'.heap.size) w' B D ∧ Below w.heap.size w w'

theorem info_block : (Tryd.prog.info? 133).map (fun i => (i.zero, i.size, i.bytes)) = some (some (.agg #[.string ⟨#[]⟩, .bool false, .bool false, .slice none 0 0]), 4, 48) := by kernel_rfl
theorem und_blocks : Tryd.prog.underlying 128 = some (.slice 133) := by kernel_rfl

theorem made_at (z : Array Value) (n j : Nat) (hj : j < n) : (madeCells z n)[j]? = some (z[j % z.size]!) := by
  simp [madeCells, hj]
theorem newN_fits (m : Nat) (hm : m ≤ 4096) : (Dv.newN m).Fits :=
  ⟨by simpa [Dv.newN] using hm, by simp [Dv.newN, blk0]; intro _; exact Nat.zero_le _, by simp [Dv.newN, blk0], by simp [Dv.newN, blk0], by simp [Dv.newN]⟩
theorem new_at (m : Nat) (hm : m ≤ 4096) (w : World) (M : Array Value) (hM : M = madeCells (Value.agg #[.string ⟨#[]⟩, .bool false, .bool false, .slice none 0 0]).cells (m * 4)) :
    NewDev (Dv.newN m) w (.returned (.pointer (some ⟨w.heap.size + 1, 0, none⟩))) ((w.alloc (.cells M 133)).alloc (.cells #[.slice (some ⟨w.heap.size, 0, none⟩) m m, .int .i64 0, .bool false, .int .i64 0, .bool false] 130)) := by
  refine ⟨w.heap.size + 1, rfl, ⟨w.heap.size, fun _ => .slice none 0 0, M, ?_⟩, ((Below.refl _ w).alloc (Nat.le_refl _) _).alloc (by simp) _⟩
  have hlen : (Dv.newN m).bs.length = m := by simp [Dv.newN]
  have hb0 : ∀ i b, (Dv.newN m).bs[i]? = some b → i < m ∧ b = blk0 := fun i b h => by
    simp only [Dv.newN, List.getElem?_replicate] at h
    split at h
    · exact ⟨by assumption, by simpa using h.symm⟩
    · cases h
  have hcell : ∀ i j, i < m → j < 4 → M[i * 4 + j]? = some ((Value.agg #[.string ⟨#[]⟩, .bool false, .bool false, .slice none 0 0]).cells[j]!) := fun i j hi hj => by
    rw [hM, made_at _ _ _ (by omega)]
    have : (i * 4 + j) % (Value.agg #[.string ⟨#[]⟩, .bool false, .bool false, .slice none 0 0]).cells.size = j := by
      show (i * 4 + j) % 4 = j
      omega
    rw [this]
  refine { hB := ?_, hR := ?_, hC := ?_, nils := fun _ _ _ _ => rfl, cells := ?_, rows := ?_, sB := ?_, sR := ?_, sP := ?_, lt := fun k hk => hk.2, one := ?_, fits := newN_fits m hm }
  · have := heap_alloc_new (w.alloc (.cells M 133)) (.cells #[.slice (some ⟨w.heap.size, 0, none⟩) m m, .int .i64 0, .bool false, .int .i64 0, .bool false] 130)
    rw [World.size_alloc] at this
    rw [this, devCells, hlen, show M.size / 4 = m by rw [hM, size_madeCells]; omega]
    rfl
  · rw [heap_alloc_old _ _ (by simp)]
    exact heap_alloc_new w _
  · rw [hM, size_madeCells, hlen]; exact Nat.le_refl _
  · intro i b hb
    obtain ⟨hi, rfl⟩ := hb0 i b hb
    exact ⟨hcell i 0 hi (by omega), hcell i 1 hi (by omega), hcell i 2 hi (by omega), hcell i 3 hi (by omega)⟩
  · intro i b hb
    obtain ⟨hi, rfl⟩ := hb0 i b hb
    exact World.ownsRow_nil _ _ _ _
  · exact ⟨by omega, by simp⟩
  · exact ⟨by omega, by simp; omega⟩
  · intro i k _ hk
    simp [Value.ownBlock] at hk
  · intro i j k _ _ hk
    simp [Value.ownBlock] at hk

theorem make_blocks (m : Nat) (hm : m ≤ 4096) : ∃ M, M = madeCells (Value.agg #[.string ⟨#[]⟩, .bool false, .bool false, .slice none 0 0]).cells (m * 4) ∧
    ∀ W : World, (Instr.makeSlice 128 (.int .i64 (m : Int)) (.int .i64 (m : Int))).run Tryd.prog W = .ok (.slice (some ⟨W.heap.size, 0, none⟩) m m) (W.alloc (.cells M 133)) := by
  obtain ⟨i0, hi, hz0, hz1, hz2⟩ := info_parts info_block
  refine ⟨_, rfl, fun W => ?_⟩
  have h := run_make (P := Tryd.prog) W 128 133 i0 _ und_blocks hi hz0 .i64 .i64 (m : Int) (m : Int) (by omega) (by omega) (by rw [hz2]; omega) (by omega)
  rw [hz1] at h
  simpa using h

theorem new_any (n : Int) (w : World) : Calls Tryd.prog 33 #[.int .i64 n] w fun e w' => NewDev (Dv.new n) w e w' := by
  have hsz : howMany n ≤ 4096 := by unfold howMany; omega
  obtain ⟨M, hM, hmk⟩ := make_blocks (howMany n) hsz
  have HN := new_at (howMany n) hsz w M hM
  clear hM
  unfold Dv.new
  by_cases h0 : n < 0
  · have e0 : howMany n = 0 := by unfold howMany; omega
    rw [e0] at HN hmk ⊢
    simp only [Int.natCast_zero] at hmk
    clear e0
    go_enter Tryd.func33, Tryd.ntmps33
    go_wp2
    go_ret
    exact HN
  · by_cases h1 : n ≤ 4096
    · obtain ⟨m, rfl⟩ : ∃ m : Nat, n = m := ⟨n.toNat, by omega⟩
      have e0 : howMany (m : Int) = m := by unfold howMany; omega
      rw [e0] at HN hmk ⊢
      clear e0
      go_enter Tryd.func33, Tryd.ntmps33
      go_wp2
      go_ret
      exact HN
    · have e0 : howMany n = 4096 := by unfold howMany; omega
      rw [e0] at HN hmk ⊢
      have hmk' : ∀ W : World, (Instr.makeSlice 128 (.int .i64 4096) (.int .i64 4096)).run Tryd.prog W = .ok (.slice (some ⟨W.heap.size, 0, none⟩) 4096 4096) (W.alloc (.cells M 133)) := hmk
      clear e0 hmk
      go_enter Tryd.func33, Tryd.ntmps33
      go_wp2
      go_ret
      exact HN
end
section
open Go.RowKit
set_option linter.unusedVariables false
set_option maxRecDepth 100000

def Blk.flush (b : Blk) : Blk := if b.pending.length = 0 then b else ⟨b.contents, false, b.lost, []⟩

section
variable {S : Nat → Prop} {w x : World} {B R : Nat} {sv : Nat → Value} {C : Array Value} {D : Dv}
theorem Dv.Fits.set {D : Dv} {i : Nat} {b b' : Blk} (h : D.Fits) (hi : D.bs[i]? = some b) (hd : b'.durable.size ≤ 512) (hp : ∀ p ∈ b'.pending, p.data.size ≤ 512 ∧ p.place < D.writes) (hc : b'.pending.length ≤ D.writes) : Dv.Fits { D with bs := D.bs.set i b' } :=
  ⟨by simpa using h.many, fun d hd' => (List.mem_or_eq_of_mem_set hd').elim (h.durable d) (fun e => e ▸ hd), fun d hd' => (List.mem_or_eq_of_mem_set hd').elim (h.pending d) (fun e => e ▸ hp),
    fun d hd' => (List.mem_or_eq_of_mem_set hd').elim (h.count d) (fun e => e ▸ hc), h.turns⟩
theorem contents_size (hf : D.Fits) {b : Blk} (hb : b ∈ D.bs) : b.contents.size ≤ 512 := by
  unfold Blk.contents
  split
  · rename_i p hp
    exact (hf.pending b hb p (List.mem_of_getLast? hp)).1
  · exact hf.durable b hb
theorem row_cell {w : World} {b i j : Nat} {vs : Array Value} {u : Value} (hne : j ≠ i) : (vs.setIfInBounds i u)[j]? = vs[j]? := by
  rw [Array.getElem?_setIfInBounds_ne (by omega)]
theorem row_cell_same {i : Nat} {vs : Array Value} {u v : Value} (h : vs[i]? = some v) : (vs.setIfInBounds i u)[i]? = some u := by
  have := (Array.getElem?_eq_some_iff.1 h).1
  simp [this]

theorem flush_put (k : Nat) (b : Blk) (s : ByteArray) (h : DevIn S w B R sv C D) (hb : D.bs[k]? = some b) (hs : s.size ≤ 512) :
    DevAt S (((w.setCell ⟨R, k * 4, none⟩ (.string s)).setCell ⟨R, k * 4 + 1, none⟩ (.bool false)).setCell ⟨R, k * 4 + 3, none⟩ (.slice none 0 0)) B { D with bs := D.bs.set k ⟨s, false, b.lost, []⟩ } ∧
    Mod S w (((w.setCell ⟨R, k * 4, none⟩ (.string s)).setCell ⟨R, k * 4 + 1, none⟩ (.bool false)).setCell ⟨R, k * 4 + 3, none⟩ (.slice none 0 0)) := by
  have hkl := (List.getElem?_eq_some_iff.1 hb).1
  obtain ⟨c0, c1, c2, c3⟩ := h.cells k b hb
  have hBR := h.BR
  have h1 := h.put (x := ((w.setCell ⟨R, k * 4, none⟩ (.string s)).setCell ⟨R, k * 4 + 1, none⟩ (.bool false)).setCell ⟨R, k * 4 + 3, none⟩ (.slice none 0 0)) (D' := { D with bs := D.bs.set k ⟨s, false, b.lost, []⟩ }) (b' := ⟨s, false, b.lost, []⟩) (v' := .slice none 0 0) hb rfl
    (by rw [block_setCell_other hBR, block_setCell_other hBR, block_setCell_other hBR, h.hB]; simp [devCells])
    (block_setCell (block_setCell (block_setCell h.hR))) (by simp)
    (fun j hj => by rw [row_cell (w := w) (b := 0) (by omega), row_cell (w := w) (b := 0) (by omega), row_cell (w := w) (b := 0) (by omega)])
    (by rw [row_cell (w := w) (b := 0) (by omega), row_cell (w := w) (b := 0) (by omega)]; exact row_cell_same c0)
    (by rw [row_cell (w := w) (b := 0) (by omega)]; exact row_cell_same (by rw [row_cell (w := w) (b := 0) (by omega)]; exact c1))
    (by rw [row_cell (w := w) (b := 0) (by omega), row_cell (w := w) (b := 0) (by omega), row_cell (w := w) (b := 0) (by omega)]; exact c2)
    (row_cell_same (by rw [row_cell (w := w) (b := 0) (by omega), row_cell (w := w) (b := 0) (by omega)]; exact c3))
    (World.ownsRow_nil _ _ _ _) (fun j e => by simp [Value.ownBlock] at e) (fun _ => rfl) (by simp [World.setCell])
    (fun j _ hB hR _ => by rw [block_setCell_other hR, block_setCell_other hR, block_setCell_other hR])
    (h.fits.set hb hs (fun p hp => by cases hp) (Nat.zero_le _))
  have hS : (fun k => S k ∨ (Value.slice none 0 0).ownBlock = some k) = S := by funext j; simp [Value.ownBlock]
  rw [hS] at h1
  exact ⟨⟨_, _, _, h1⟩, (((Mod.refl S w).setCell (p := ⟨R, k * 4, none⟩) (.inl h.sR) _).setCell (p := ⟨R, k * 4 + 1, none⟩) (.inl h.sR) _).setCell (p := ⟨R, k * 4 + 3, none⟩) (.inl h.sR) _⟩

theorem set_self {α : Type} (l : List α) (k : Nat) (b : α) (h : l[k]? = some b) : l.set k b = l := by
  obtain ⟨hlt, he⟩ := List.getElem?_eq_some_iff.1 h
  subst he
  exact List.set_getElem_self hlt

set_option maxHeartbeats 400000 in
theorem blkflush_any (k : Nat) (b : Blk) (h : DevIn S w B R sv C D) (hb : D.bs[k]? = some b) (hw : D.writes ≤ 4611686018427387904) :
    Calls Tryd.prog 114 #[.pointer (some ⟨R, k * 4, none⟩)] w fun e w' => e = .returned (.tuple #[]) ∧ DevAt S w' B { D with bs := D.bs.set k b.flush } ∧ Mod S w w' := by
  have r0 := h.r0 hb
  have r1 := h.r1 hb
  have r2 := h.r2 hb
  have r3 := h.r3 hb
  have hrow := h.rows k b hb
  have hcnt := h.fits.count b (List.mem_of_getElem? hb)
  obtain ⟨sa, scap, hsv⟩ := slice_of hrow
  by_cases hn : b.pending.length = 0
  · have e0 : b.flush = b := by simp [Blk.flush, hn]
    rw [e0, set_self _ _ _ hb]
    rw [hsv, hn] at r3
    clear hrow hsv hn e0
    go_enter Tryd.func114, Tryd.ntmps114
    go_wp2
    go_end0
    exact ⟨rfl, ⟨_, _, _, h⟩, Mod.refl S w⟩
  · have e0 : b.flush = ⟨b.contents, false, b.lost, []⟩ := by simp [Blk.flush, hn]
    rw [e0]
    have hct := contents_any b (sv k) w (by omega) hrow
    have hput := fun (W : World) (hW : Below w.heap.size w W) => flush_put (w := W) k b b.contents (h.keep hW.size (fun j hj => hW.block j (h.lt j hj))) hb (contents_size h.fits (List.mem_of_getElem? hb))
    have hfr := h.fR
    have hlt := h.lt R h.sR
    rw [hsv] at r3 hct
    have HP := Lib.hid hput
    have HF := Lib.hid hfr
    clear hrow hsv e0 hput hfr
    obtain ⟨m, hm⟩ : ∃ m, b.pending.length = m + 1 := ⟨b.pending.length - 1, by omega⟩
    rw [hm] at r3 hct hcnt
    clear hn hm
    have h1 : decide ((0 : Int) < ((m + 1 : Nat) : Int)) = true := by simp
    go_enter Tryd.func114, Tryd.ntmps114
    go_wp2_with fail
    refine hct.mono ?_
    rintro e w1 ⟨rfl, hb1⟩
    obtain ⟨HS, HM⟩ := HP.out w1 hb1
    have q0 := (hb1.cell (p := ⟨R, k * 4, none⟩) hlt).trans r0
    have q1 := (hb1.cell (p := ⟨R, k * 4 + 1, none⟩) hlt).trans r1
    have q3 := (hb1.cell (p := ⟨R, k * 4 + 3, none⟩) hlt).trans r3
    have g0 := (hb1.frozen (p := ⟨R, k * 4, none⟩) hlt).trans (HF.out _)
    have g1 := (hb1.frozen (p := ⟨R, k * 4 + 1, none⟩) hlt).trans (HF.out _)
    have g3 := (hb1.frozen (p := ⟨R, k * 4 + 3, none⟩) hlt).trans (HF.out _)
    clear r0 r1 r2 r3
    go_wp2
    go_end0
    exact ⟨rfl, HS, (Mod.of_below hb1 S).trans HM (fun j hj => .inl hj)⟩

/-- The device behind a Flush that has power. -/
def Dv.flushed (D : Dv) : Dv := { D with bs := D.bs.map Blk.flush, writes := 0 }
/-- .. when the first i blocks are through. -/
def Dv.part (D : Dv) (i : Nat) : Dv := { D with bs := (D.bs.take i).map Blk.flush ++ D.bs.drop i }
theorem part_zero (D : Dv) : D.part 0 = D := by simp [Dv.part]
theorem part_len (D : Dv) (i : Nat) : (D.part i).bs.length = D.bs.length := by simp [Dv.part]; omega
theorem part_at (D : Dv) (i : Nat) (hi : i < D.bs.length) : (D.part i).bs[i]? = D.bs[i]? := by
  simp only [Dv.part]
  rw [List.getElem?_append_right (by simp; omega)]
  simp [show min i D.bs.length = i by omega]
theorem part_succ (D : Dv) (i : Nat) (b : Blk) (hb : D.bs[i]? = some b) : { D.part i with bs := (D.part i).bs.set i b.flush } = D.part (i + 1) := by
  have hi := (List.getElem?_eq_some_iff.1 hb).1
  have he : D.bs[i] = b := (List.getElem?_eq_some_iff.1 hb).2
  simp only [Dv.part]
  congr 1
  rw [List.set_append_right _ _ (by simp; omega)]
  simp only [List.length_map, List.length_take, show min i D.bs.length = i by omega, Nat.sub_self]
  rw [List.drop_eq_getElem_cons hi, List.set_cons_zero, List.take_succ_eq_append_getElem hi, he]
  simp
theorem flush_pending (b : Blk) : b.flush.pending = [] := by
  unfold Blk.flush
  split
  · exact List.eq_nil_of_length_eq_zero (by assumption)
  · rfl
theorem flushed_fits {D : Dv} (h : D.Fits) : D.flushed.Fits := by
  refine ⟨by simpa [Dv.flushed] using h.many, fun b hb => ?_, fun b hb p hp => ?_, fun b hb => ?_, h.turns⟩
  all_goals
    simp only [Dv.flushed, List.mem_map] at hb
    obtain ⟨d, hd, rfl⟩ := hb
  · unfold Blk.flush
    split
    · exact h.durable d hd
    · exact contents_size h hd
  · rw [flush_pending] at hp; cases hp
  · rw [flush_pending]; exact Nat.zero_le _
/-- What Flush answers, and the device behind it. -/
def Dv.flush (D : Dv) : Int × Dv := if D.up then (0, D.op.flushed) else (5, D.op)

set_option maxHeartbeats 400000 in
theorem flush_any (h : DevAt S w B D) (hw : D.writes ≤ 4611686018427387904) :
    Calls Tryd.prog 80 #[.pointer (some ⟨B, 0, none⟩)] w fun e w' => e = .returned (.int .i64 D.flush.1) ∧ DevAt S w' B D.flush.2 ∧ Mod S w w' := by
  have hop := operate_any h
  have hwo : D.op.writes ≤ 4611686018427387904 := by rw [D.op_writes]; exact hw
  by_cases hu : D.up = true
  · have e0 : D.flush = (0, D.op.flushed) := by simp [Dv.flush, hu]
    rw [e0]
    rw [hu] at hop
    clear e0 hu hw
    generalize D.op = E at *
    go_enter Tryd.func80, Tryd.ntmps80
    go_wp2_with fail
    refine hop.mono ?_
    rintro e w1 ⟨rfl, hd1, hm1⟩
    clear hop
    obtain ⟨R1, sv1, C1, k1⟩ := id hd1
    have c0 := k1.c0
    have hmany := k1.fits.many
    clear k1
    go_wp2_with fail
    go_loopw [12] (fun i wr => ∃ k : Nat, k ≤ E.bs.length ∧ i = .int .i64 k ∧ DevAt S wr B (E.part k) ∧ Mod S w wr) (fun i _ => E.bs.length - (intOf i).toNat)
    case atStart => exact ⟨0, Nat.zero_le _, rfl, by rw [part_zero]; exact hd1, hm1⟩
    case round =>
      obtain ⟨k, hk, rfl, hdk, hmk⟩ := hrel
      clear hd1 hm1 c0
      by_cases hlt : k < E.bs.length
      · obtain ⟨b, hb⟩ : ∃ b, E.bs[k]? = some b := ⟨_, List.getElem?_eq_getElem hlt⟩
        have hb' : (E.part k).bs[k]? = some b := (part_at E k hlt).trans hb
        obtain ⟨R2, sv2, C2, k2⟩ := hdk
        have c0 := k2.c0
        rw [part_len] at c0
        have hfl := blkflush_any k b k2 hb' hwo
        have HE := Lib.hid (part_succ E k b hb)
        clear hb hb' k2
        go_wp2_with (go_at_call 114; refine hfl.mono ?_; rintro e w3 ⟨rfl, hd3, hm3⟩)
        go_roundw
        case rel => exact ⟨k + 1, by omega, by go_num, by rw [← HE.out]; exact hd3, hmk.trans hm3 (fun j hj => .inl hj)⟩
        case measure => simp [intOf]; omega
      · obtain rfl : k = E.bs.length := by omega
        have hdk' : DevAt S wr B { E with bs := E.bs.map Blk.flush } := by
          have : E.part E.bs.length = { E with bs := E.bs.map Blk.flush } := by simp [Dv.part]
          rw [← this]; exact hdk
        have HS := hdk'.setWrites 0 (flushed_fits hdk'.fits |> fun hf => by
          have e1 : Dv.flushed { E with bs := E.bs.map Blk.flush } = { { E with bs := E.bs.map Blk.flush } with writes := 0 } := by
            simp only [Dv.flushed, List.map_map]
            congr 1
            refine List.map_congr_left (fun b _ => ?_)
            simp only [Function.comp]
            rw [show b.flush.flush = b.flush by rw [Blk.flush, if_pos (by rw [flush_pending]; rfl)]]
          rw [← e1]; exact hf)
        obtain ⟨R2, sv2, C2, k2⟩ := id hdk
        have c1 := k2.c1
        have f1 := k2.fB 1
        clear k2 hdk hdk'
        go_wp2
        go_ret
        exact ⟨rfl, HS.1, hmk.trans HS.2 (fun j hj => .inl hj)⟩
  · have hu' : D.up = false := by simpa using hu
    have e0 : D.flush = (5, D.op) := by simp [Dv.flush, hu']
    rw [e0]
    rw [hu'] at hop
    clear e0 hu hu' hw
    go_enter Tryd.func80, Tryd.ntmps80
    go_wp2_with (go_at_call 113; refine hop.mono ?_; rintro e w1 ⟨rfl, hd1, hm1⟩)
    go_ret
    exact ⟨rfl, hd1, hm1⟩
end
end
end Go.Proofs.YtiknfifiglooeaaDoor
