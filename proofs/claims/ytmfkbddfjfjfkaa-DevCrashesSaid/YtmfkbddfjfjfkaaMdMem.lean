/- The law's own model of a device in memory: its block, the rows of what is safe, gone and hurt, and the row of the writes since. No conditions beyond those in each statement. -/
import Derived.Test.YtmfkbddfjfjfkaaDevHead
namespace Go.Proofs.Ytmfkbddfjfjfkaa
open Go.RowKit
set_option linter.unusedVariables false

/-- The model: what is safe of each block, the writes since (each with its block), which are gone, which are hurt; the operations to the power's fall (-1: none). -/
structure Md where
  safe : List ByteArray
  since : List Wr
  gone : List Bool
  hurt : List Bool
  falls : Int
  down : Bool
structure Md.Fits (M : Md) : Prop where
  many : M.safe.length ≤ 4096
  gone : M.gone.length = M.safe.length
  hurt : M.hurt.length = M.safe.length
  sizes : ∀ s ∈ M.safe, s.size ≤ 512
  since : ∀ p ∈ M.since, p.data.size ≤ 512 ∧ p.place < M.safe.length
  count : M.since.length ≤ 1073741824
  falls : -1 ≤ M.falls ∧ M.falls ≤ 9223372036854775807

def strCells (l : List ByteArray) : Array Value := (l.map Value.string).toArray
def boolCells (l : List Bool) : Array Value := (l.map Value.bool).toArray
theorem strCells_at {l : List ByteArray} {i : Nat} {s : ByteArray} (h : l[i]? = some s) : (strCells l)[i]? = some (.string s) := by simp [strCells, h]
theorem boolCells_at {l : List Bool} {i : Nat} {s : Bool} (h : l[i]? = some s) : (boolCells l)[i]? = some (.bool s) := by simp [boolCells, h]
theorem strCells_set (l : List ByteArray) (i : Nat) (s : ByteArray) : (strCells l).setIfInBounds i (.string s) = strCells (l.set i s) := by simp [strCells, List.map_set]
theorem boolCells_set (l : List Bool) (i : Nat) (s : Bool) : (boolCells l).setIfInBounds i (.bool s) = boolCells (l.set i s) := by simp [boolCells, List.map_set]

def mdCells (RS RG RH : Nat) (sv : Value) (M : Md) : Array Value :=
  #[.int .i64 M.safe.length, .slice (some ⟨RS, 0, none⟩) M.safe.length M.safe.length, sv, .slice (some ⟨RG, 0, none⟩) M.safe.length M.safe.length, .slice (some ⟨RH, 0, none⟩) M.safe.length M.safe.length, .int .i64 M.falls, .bool M.down]

structure MdIn (S : Nat → Prop) (w : World) (B RS RG RH : Nat) (sv : Value) (M : Md) : Prop where
  hB : Whole w B 59 (mdCells RS RG RH sv M)
  hS : Whole w RS 9 (strCells M.safe)
  hG : Whole w RG 4 (boolCells M.gone)
  hH : Whole w RH 4 (boolCells M.hurt)
  row : w.ownsRow 0 65 2 sv M.since.length (wrCells M.since)
  sB : S B
  sS : S RS
  sG : S RG
  sH : S RH
  sP : ∀ k, sv.ownBlock = some k → S k
  lt : ∀ k, S k → k < w.heap.size
  ne : RG ≠ RH
  fits : M.Fits
def MdAt (S : Nat → Prop) (w : World) (B : Nat) (M : Md) : Prop := ∃ RS RG RH sv, MdIn S w B RS RG RH sv M
def MdTo (S : Nat → Prop) (w : World) (B : Nat) (M' : Md) (w' : World) : Prop := ∃ S', MdAt S' w' B M' ∧ (∀ k, S' k → S k ∨ w.heap.size ≤ k) ∧ Mod S w w'

section
variable {S T : Nat → Prop} {w x : World} {B RS RG RH : Nat} {sv : Value} {M M' : Md}
theorem Whole.apart {w : World} {a b : Nat} {t u : TypeId} {vs us : Array Value} (h : Whole w a t vs) (k : Whole w b u us) (hne : t ≠ u) : a ≠ b := by
  rintro rfl
  have := (show w.heap[a]? = _ from h).symm.trans k
  simp at this
  exact hne this.2
theorem MdIn.BS (h : MdIn S w B RS RG RH sv M) : B ≠ RS := h.hB.apart h.hS (by decide)
theorem MdIn.BG (h : MdIn S w B RS RG RH sv M) : B ≠ RG := h.hB.apart h.hG (by decide)
theorem MdIn.BH (h : MdIn S w B RS RG RH sv M) : B ≠ RH := h.hB.apart h.hH (by decide)
theorem MdIn.SG (h : MdIn S w B RS RG RH sv M) : RS ≠ RG := h.hS.apart h.hG (by decide)
theorem MdIn.SH (h : MdIn S w B RS RG RH sv M) : RS ≠ RH := h.hS.apart h.hH (by decide)
theorem MdIn.apart (h : MdIn S w B RS RG RH sv M) {k : Nat} (hk : sv.ownBlock = some k) : k ≠ B ∧ k ≠ RS ∧ k ≠ RG ∧ k ≠ RH := by
  obtain ⟨cur, hc⟩ := ownsRow_block h.row hk
  have hw : Whole w k 65 cur := hc
  exact ⟨hw.apart h.hB (by decide), hw.apart h.hS (by decide), hw.apart h.hG (by decide), hw.apart h.hH (by decide)⟩
theorem MdIn.keep (h : MdIn S w B RS RG RH sv M) (hs : w.heap.size ≤ x.heap.size) (hk : ∀ k, S k → x.heap[k]? = w.heap[k]?) : MdIn S x B RS RG RH sv M :=
  { hB := (hk B h.sB).trans h.hB, hS := (hk RS h.sS).trans h.hS, hG := (hk RG h.sG).trans h.hG, hH := (hk RH h.sH).trans h.hH,
    row := ownsRow_same h.row (fun k e => hk k (h.sP k e)), sB := h.sB, sS := h.sS, sG := h.sG, sH := h.sH, sP := h.sP, lt := fun k hS => Nat.lt_of_lt_of_le (h.lt k hS) hs, ne := h.ne, fits := h.fits }
theorem MdAt.lt (h : MdAt S w B M) : ∀ k, S k → k < w.heap.size := by obtain ⟨RS, RG, RH, sv, h⟩ := h; exact h.lt
theorem MdAt.fits (h : MdAt S w B M) : M.Fits := by obtain ⟨RS, RG, RH, sv, h⟩ := h; exact h.fits
theorem MdAt.keep (h : MdAt S w B M) (hm : Mod T w x) (hd : ∀ k, S k → ¬ T k) : MdAt S x B M := by
  obtain ⟨RS, RG, RH, sv, h⟩ := h
  exact ⟨RS, RG, RH, sv, h.keep hm.size (fun k hS => hm.block k (h.lt k hS) (hd k hS))⟩
theorem MdAt.below (h : MdAt S w B M) (hb : Below w.heap.size w x) : MdAt S x B M := by
  obtain ⟨RS, RG, RH, sv, h⟩ := h
  exact ⟨RS, RG, RH, sv, h.keep hb.size (fun k hS => hb.block k (h.lt k hS))⟩
theorem MdAt.wide (h : MdAt S w B M) (hS : ∀ k, S k → T k) (hT : ∀ k, T k → k < w.heap.size) : MdAt T w B M := by
  obtain ⟨RS, RG, RH, sv, h⟩ := h
  exact ⟨RS, RG, RH, sv, { h with sB := hS _ h.sB, sS := hS _ h.sS, sG := hS _ h.sG, sH := hS _ h.sH, sP := fun k hk => hS _ (h.sP k hk), lt := hT }⟩
theorem MdAt.to (h : MdAt S x B M') (hm : Mod S w x) : MdTo S w B M' x := ⟨S, h, fun _ hk => .inl hk, hm⟩
/-- Any part may have turned, and the slice of writes may be another. -/
theorem MdIn.turn {sv' : Value} (h : MdIn S w B RS RG RH sv M) (hB : Whole x B 59 (mdCells RS RG RH sv' M')) (hS : Whole x RS 9 (strCells M'.safe)) (hG : Whole x RG 4 (boolCells M'.gone)) (hH : Whole x RH 4 (boolCells M'.hurt))
    (row : x.ownsRow 0 65 2 sv' M'.since.length (wrCells M'.since)) (hs : w.heap.size ≤ x.heap.size) (hf : M'.Fits) : MdIn (fun k => S k ∨ sv'.ownBlock = some k) x B RS RG RH sv' M' :=
  { hB := hB, hS := hS, hG := hG, hH := hH, row := row, sB := .inl h.sB, sS := .inl h.sS, sG := .inl h.sG, sH := .inl h.sH, sP := fun k e => .inr e,
    lt := fun k hk => hk.elim (fun e => Nat.lt_of_lt_of_le (h.lt k e) hs) (fun e => by obtain ⟨cur, hc⟩ := ownsRow_block row e; exact lt_of_block hc), ne := h.ne, fits := hf }
/-- .. with the slice of writes as it was. -/
theorem MdIn.turn0 (h : MdIn S w B RS RG RH sv M) (hB : Whole x B 59 (mdCells RS RG RH sv M')) (hS : Whole x RS 9 (strCells M'.safe)) (hG : Whole x RG 4 (boolCells M'.gone)) (hH : Whole x RH 4 (boolCells M'.hurt))
    (hsi : M'.since = M.since) (hk : ∀ k, sv.ownBlock = some k → x.heap[k]? = w.heap[k]?) (hs : w.heap.size ≤ x.heap.size) (hf : M'.Fits) : MdIn S x B RS RG RH sv M' :=
  { hB := hB, hS := hS, hG := hG, hH := hH, row := by rw [hsi]; exact ownsRow_same h.row hk, sB := h.sB, sS := h.sS, sG := h.sG, sH := h.sH, sP := h.sP,
    lt := fun k hk => Nat.lt_of_lt_of_le (h.lt k hk) hs, ne := h.ne, fits := hf }
theorem MdIn.c0 (h : MdIn S w B RS RG RH sv M) : w.cell? ⟨B, 0, none⟩ = some (.int .i64 M.safe.length) := h.hB.cell rfl
theorem MdIn.c1 (h : MdIn S w B RS RG RH sv M) : w.cell? ⟨B, 1, none⟩ = some (.slice (some ⟨RS, 0, none⟩) M.safe.length M.safe.length) := h.hB.cell rfl
theorem MdIn.c2 (h : MdIn S w B RS RG RH sv M) : w.cell? ⟨B, 2, none⟩ = some sv := h.hB.cell rfl
theorem MdIn.c3 (h : MdIn S w B RS RG RH sv M) : w.cell? ⟨B, 3, none⟩ = some (.slice (some ⟨RG, 0, none⟩) M.safe.length M.safe.length) := h.hB.cell rfl
theorem MdIn.c4 (h : MdIn S w B RS RG RH sv M) : w.cell? ⟨B, 4, none⟩ = some (.slice (some ⟨RH, 0, none⟩) M.safe.length M.safe.length) := h.hB.cell rfl
theorem MdIn.c5 (h : MdIn S w B RS RG RH sv M) : w.cell? ⟨B, 5, none⟩ = some (.int .i64 M.falls) := h.hB.cell rfl
theorem MdIn.c6 (h : MdIn S w B RS RG RH sv M) : w.cell? ⟨B, 6, none⟩ = some (.bool M.down) := h.hB.cell rfl
theorem MdIn.s (h : MdIn S w B RS RG RH sv M) {i : Nat} {s : ByteArray} (hs : M.safe[i]? = some s) : w.cell? ⟨RS, i, none⟩ = some (.string s) := h.hS.cell (strCells_at hs)
theorem MdIn.g (h : MdIn S w B RS RG RH sv M) {i : Nat} {b : Bool} (hs : M.gone[i]? = some b) : w.cell? ⟨RG, i, none⟩ = some (.bool b) := h.hG.cell (boolCells_at hs)
theorem MdIn.h (h : MdIn S w B RS RG RH sv M) {i : Nat} {b : Bool} (hs : M.hurt[i]? = some b) : w.cell? ⟨RH, i, none⟩ = some (.bool b) := h.hH.cell (boolCells_at hs)

/-- Is there such a block? -/
def Md.inB (M : Md) (i : Int) : Bool := decide (0 ≤ i ∧ i < (M.safe.length : Int))
theorem in_any (i : Int) (h : MdAt S w B M) : Calls Try.prog 25 #[.pointer (some ⟨B, 0, none⟩), .int .i64 i] w fun e w' => e = .returned (.bool (M.inB i)) ∧ w = w' := by
  obtain ⟨RS, RG, RH, sv, h⟩ := h
  have c0 := h.c0
  by_cases h0 : 0 ≤ i
  · have hd : decide (0 ≤ i) = true := by simpa using h0
    go_enter Try.func25, Try.ntmps25
    go_wp2
    go_ret
    exact ⟨by simp [Md.inB, h0], rfl⟩
  · have hd : decide (0 ≤ i) = false := by simpa using h0
    go_enter Try.func25, Try.ntmps25
    go_wp2
    go_ret
    exact ⟨by simp [Md.inB]; omega, rfl⟩
theorem Md.in_at {i : Int} (hf : M.Fits) (h : M.inB i = true) : ∃ (k : Nat) (s : ByteArray) (g t : Bool), i = (k : Int) ∧ k < M.safe.length ∧ M.safe[k]? = some s ∧ M.gone[k]? = some g ∧ M.hurt[k]? = some t := by
  simp only [Md.inB, decide_eq_true_eq] at h
  obtain ⟨k, rfl⟩ : ∃ k : Nat, i = k := ⟨i.toNat, by omega⟩
  have hk : k < M.safe.length := by omega
  exact ⟨k, _, _, _, rfl, hk, List.getElem?_eq_getElem hk, List.getElem?_eq_getElem (by rw [hf.gone]; exact hk), List.getElem?_eq_getElem (by rw [hf.hurt]; exact hk)⟩
end
end Go.Proofs.Ytmfkbddfjfjfkaa
