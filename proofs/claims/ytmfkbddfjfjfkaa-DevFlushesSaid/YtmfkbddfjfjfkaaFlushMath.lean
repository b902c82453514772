/- DevFlushes in plain words: 32 blocks, each by its number. -/
import Derived.Test.YtmfkbddfjfjfkaaDevArgs
namespace Go.Proofs.Ytmfkbddfjfjfkaa
open Go.RowKit
set_option linter.unusedVariables false

/-- A device of 32 blocks with power. -/
def of32 (f : Nat → Blk) (n : Nat) : Dv := ⟨(List.range 32).map f, n, false, 0, false⟩
theorem of32_at (f : Nat → Blk) (n j : Nat) (hj : j < 32) : (of32 f n).bs[j]? = some (f j) := by simp [of32, hj]
theorem of32_write (f g : Nat → Blk) (n j : Nat) (s : ByteArray) (hj : j < 32) (hs : s.size ≤ 512) (hg : ∀ i, g i = if i = j then (f j).write n s else f i) : (of32 f n).write (j : Int) s = (0, of32 g (n + 1)) := by
  refine (write_of (D := of32 f n) (b := f j) j s rfl (of32_at f n j hj) hs).trans ?_
  have hop : (of32 f n).op = of32 f n := rfl
  rw [hop]
  simp only [of32, Prod.mk.injEq, Dv.mk.injEq, and_true, true_and]
  refine List.ext_getElem (by simp) (fun i h1 h2 => ?_)
  rw [List.getElem_set]
  simp only [List.getElem_map, List.getElem_range, hg]
  by_cases e : j = i
  · subst e; simp
  · rw [if_neg e, if_neg (by omega)]
theorem of32_flush (f : Nat → Blk) (n : Nat) : (of32 f n).flush = (0, of32 (fun j => (f j).flush) 0) := by
  have hup : (of32 f n).up = true := rfl
  have hop : (of32 f n).op = of32 f n := rfl
  simp only [Dv.flush, hup, if_true, hop, Dv.flushed]
  simp only [of32, List.map_map]
  rfl
theorem of32_crash (f : Nat → Blk) (n : Nat) (zs : List Int) : (of32 f n).crash zs = of32 (fun j => (f j).crash zs) 0 := by
  simp only [Dv.crash, of32, List.map_map]
  rfl
theorem of32_read (f : Nat → Blk) (n j : Nat) (hj : j < 32) (hl : (f j).lost = false) : (of32 f n).read (j : Int) = ((f j).contents, 0) := read_of j rfl (of32_at f n j hj) hl
theorem of32_new : Dv.new 32 = of32 (fun _ => blk0) 0 := rfl
theorem of32_congr {f g : Nat → Blk} (n : Nat) (h : ∀ i, f i = g i) : of32 f n = of32 g n := by rw [show f = g from funext h]

section
variable (ss ts : List ByteArray) (zs : List Int)
abbrev sAt (ss : List ByteArray) (j : Nat) : ByteArray := ss.getD j ByteArray.empty
/-- Behind k of the first writes; behind the Flush; behind k of the others. -/
def fA (k j : Nat) : Blk := if j < k then ⟨⟨#[]⟩, false, false, [⟨j, sAt ss j⟩]⟩ else blk0
def fB (k j : Nat) : Blk := if j < ss.length then ⟨sAt ss j, false, false, []⟩ else if 16 ≤ j ∧ j < 16 + k then ⟨⟨#[]⟩, false, false, [⟨j - 16, sAt ts (j - 16)⟩]⟩ else blk0
theorem A_zero : Dv.new 32 = of32 (fA ss 0) 0 := of32_new.trans (of32_congr 0 (fun i => by simp [fA]))
theorem A_succ (k : Nat) (hk : k < 32) (hs : (sAt ss k).size ≤ 512) : (of32 (fA ss k) k).write (k : Int) (sAt ss k) = (0, of32 (fA ss (k + 1)) (k + 1)) := by
  refine of32_write _ _ k k _ hk hs (fun i => ?_)
  by_cases e : i = k
  · subst e
    simp [fA, Blk.write, blk0]
  · simp only [fA, if_neg e]
    by_cases h : i < k
    · rw [if_pos h, if_pos (by omega)]
    · rw [if_neg h, if_neg (by omega)]
theorem A_flush (hl : ss.length ≤ 16) : (of32 (fA ss ss.length) ss.length).flush = (0, of32 (fB ss ts 0) 0) := by
  rw [of32_flush]
  congr 1
  refine of32_congr 0 (fun i => ?_)
  unfold fA fB
  by_cases h : i < ss.length
  · rw [if_pos h, if_pos h]
    simp [Blk.flush, Blk.contents]
  · rw [if_neg h, if_neg h, if_neg (by omega)]
    rfl
theorem B_succ (k : Nat) (hl : ss.length ≤ 16) (hk : k < 16) (hs : (sAt ts k).size ≤ 512) : (of32 (fB ss ts k) k).write ((16 : Int) + k) (sAt ts k) = (0, of32 (fB ss ts (k + 1)) (k + 1)) := by
  have e0 : (16 : Int) + k = ((16 + k : Nat) : Int) := by omega
  rw [e0]
  refine of32_write _ _ k (16 + k) _ (by omega) hs (fun i => ?_)
  have h0 : ¬ 16 + k < ss.length := by omega
  by_cases e : i = 16 + k
  · subst e
    simp [fB, h0, Blk.write, blk0]
  · simp only [fB, if_neg e]
    by_cases h : i < ss.length
    · rw [if_pos h, if_pos h]
    · rw [if_neg h, if_neg h]
      by_cases h1 : 16 ≤ i ∧ i < 16 + k
      · rw [if_pos h1, if_pos (by omega)]
      · rw [if_neg h1, if_neg (by omega)]
/-- What was flushed is there. -/
theorem C_first (n k j : Nat) (hl : ss.length ≤ 16) (hj : j < ss.length) : ((of32 (fB ss ts k) n).crash zs).read (j : Int) = (sAt ss j, 0) := by
  rw [of32_crash]
  have e : fB ss ts k j = ⟨sAt ss j, false, false, []⟩ := by simp [fB, hj]
  refine (of32_read _ _ j (by omega) ?_).trans ?_
  · rw [e]; rfl
  · rw [e]; rfl
/-- What was not is there by its fate. -/
theorem C_more (n j : Nat) (hl : ss.length ≤ 16) (hl2 : ts.length ≤ 16) (hj : j < ts.length) : ((of32 (fB ss ts ts.length) n).crash zs).read ((16 : Int) + j) =
    (if fateF zs j = 1 then sAt ts j else if fateF zs j = 2 then (sAt ts j).extract 0 ((sAt ts j).size / 2) else ⟨#[]⟩, 0) := by
  rw [of32_crash]
  have e0 : (16 : Int) + j = ((16 + j : Nat) : Int) := by omega
  have h0 : ¬ 16 + j < ss.length := by omega
  have e : fB ss ts ts.length (16 + j) = ⟨⟨#[]⟩, false, false, [⟨j, sAt ts j⟩]⟩ := by simp [fB, h0, hj]
  rw [e0]
  have hx : (Blk.crash zs ⟨⟨#[]⟩, false, false, [⟨j, sAt ts j⟩]⟩) = if fateF zs j = 1 then ⟨sAt ts j, false, false, []⟩ else if fateF zs j = 2 then ⟨(sAt ts j).extract 0 ((sAt ts j).size / 2), true, false, []⟩ else ⟨⟨#[]⟩, false, false, []⟩ := by
    simp only [Blk.crash, List.reverse_cons, List.reverse_nil, List.nil_append, List.findSome?_cons, List.findSome?_nil, oneHit]
    by_cases h1 : fateF zs j = 1
    · rw [if_pos h1, if_pos h1]; rfl
    · rw [if_neg h1, if_neg h1]
      by_cases h2 : fateF zs j = 2
      · rw [if_pos h2, if_pos h2]; rfl
      · rw [if_neg h2, if_neg h2]; rfl
  refine (of32_read _ _ (16 + j) (by omega) ?_).trans ?_
  · rw [e, hx]
    split
    · rfl
    · split <;> rfl
  · rw [e, hx]
    split
    · rfl
    · split <;> rfl
theorem C_size (f : Nat → Blk) (n : Nat) : ((of32 f n).crash zs).bs.length = 32 := by simp [Dv.crash, of32]
end
end Go.Proofs.Ytmfkbddfjfjfkaa
