/- DevFalls in plain words: the device when k of the writes have been tried. -/
import Derived.Test.YtmfkbddfjfjfkaaDevHead
namespace Go.Proofs.Ytmfkbddfjfjfkaa
open Go.RowKit
set_option linter.unusedVariables false

def xs1 : ByteArray := ⟨#[120]⟩
def fblk (n k j : Nat) : Blk := if j < min k n then ⟨⟨#[]⟩, false, false, [⟨j, xs1⟩]⟩ else blk0
/-- The device when the power fails behind n operations, and k have been tried. -/
def Fk (n k : Nat) : Dv := ⟨(List.range 32).map (fblk n k), min k n, true, n - k, decide (n < k)⟩
theorem Fk_zero (n : Nat) : (Dv.new 32).fall (n : Int) = Fk n 0 := by
  have e : (List.range 32).map (fblk n 0) = List.replicate 32 blk0 := by
    have : ∀ j, fblk n 0 j = blk0 := fun j => by simp [fblk]
    simp [this, List.map_const']
    rfl
  have e2 : Dv.new 32 = Dv.newN 32 := rfl
  rw [e2]
  simp only [Dv.fall, Fk, e, Dv.newN]
  simp
theorem Fk_len (n k : Nat) : (Fk n k).bs.length = 32 := by simp [Fk]
theorem Fk_at (n k j : Nat) (hj : j < 32) : (Fk n k).bs[j]? = some (fblk n k j) := by simp [Fk, hj]
theorem Fk_has (n k : Nat) (i : Nat) (hi : i < 32) : (Fk n k).hasB (i : Int) = true := by simp [Dv.hasB, Fk_len]; omega
theorem Fk_succ (n k : Nat) (hk : k < 32) : (Fk n k).write (k : Int) xs1 = (if k < n then 0 else 5, Fk n (k + 1)) := by
  by_cases h : k < n
  · have hup : (Fk n k).up = true := by simp [Dv.up, Fk]; omega
    have hop : (Fk n k).op = { Fk n k with turns := n - (k + 1) } := by
      have h1 : ¬ n < k := by omega
      have h2 : ¬ n - k = 0 := by omega
      simp [Dv.op, Fk, h1, h2]
      omega
    have hb := Fk_at n k k hk
    have hs : ¬ 512 < xs1.size := by decide
    simp only [Dv.write, hup, if_true, Fk_has n k k hk, hb, Int.toNat_natCast, hs, if_false, h, hop]
    congr 1
    have hm : min k n = k := by omega
    have hm1 : min (k + 1) n = k + 1 := by omega
    have h1 : decide (n < k) = false := by simp; omega
    have h2 : decide (n < k + 1) = false := by simp; omega
    simp only [Fk, hm, hm1, h1, h2, Dv.mk.injEq, and_true]
    refine List.ext_getElem (by simp) (fun j g1 g2 => ?_)
    have hj : j < 32 := by simpa using g2
    rw [List.getElem_set]
    by_cases e : k = j
    · subst e
      simp [fblk, hm1, hm, Blk.write, blk0]
    · simp only [e, if_false, List.getElem_map, List.getElem_range, fblk, hm, hm1]
      by_cases e2 : j < k
      · rw [if_pos e2, if_pos (by omega)]
      · rw [if_neg e2, if_neg (by omega)]
  · have hup : (Fk n k).up = false := by simp [Dv.up, Fk]; omega
    have hop : (Fk n k).op = Fk n (k + 1) := by
      have hm : min k n = n := by omega
      have hm1 : min (k + 1) n = n := by omega
      have hf : fblk n (k + 1) = fblk n k := by funext j; simp [fblk, hm, hm1]
      by_cases h1 : n < k
      · simp [Dv.op, Fk, h1, hf, hm, hm1]
        omega
      · obtain rfl : n = k := by omega
        simp [Dv.op, Fk, hf]
    simp [Dv.write, hup, h, hop]
theorem Fk_down (n k : Nat) : (Fk n (k + 1)).down = decide (n ≤ k) := by
  simp only [Fk]
  congr 1
  simp only [eq_iff_iff]
  omega
theorem Fk_read (n k : Nat) (hk : k < 32) : (Fk n (k + 1)).read (k : Int) = if n ≤ k then (⟨#[]⟩, 5) else (xs1, 0) := by
  have hd := Fk_down n k
  by_cases h : n ≤ k
  · simp [Dv.read, hd, h]
  · have hb := Fk_at n (k + 1) k hk
    have hf : fblk n (k + 1) k = ⟨⟨#[]⟩, false, false, [⟨k, xs1⟩]⟩ := by simp [fblk]; omega
    simp [Dv.read, hd, h, Fk_has n (k + 1) k hk, hb, hf, Blk.contents]
theorem Fk_writes (n k : Nat) : (Fk n k).writes ≤ k := by simp [Fk]; omega

def ones (m : Nat) : List Int := List.replicate m 1
theorem Fk_crash_read (n m i : Nat) (hm : m < 32) (hi : i < 32) : ((Fk n m).crash (ones m)).read (i : Int) = (if i < min n m then xs1 else ⟨#[]⟩, 0) := by
  have hb := Fk_at n m i hi
  have hh : ((Fk n m).crash (ones m)).hasB (i : Int) = true := by simp [Dv.hasB, Dv.crash, Fk_len]; omega
  have hb' : ((Fk n m).crash (ones m)).bs[i]? = some ((fblk n m i).crash (ones m)) := by simp [Dv.crash, hb]
  have hd : ((Fk n m).crash (ones m)).down = false := rfl
  simp only [Dv.read, hd, hh, if_true, hb', Int.toNat_natCast]
  by_cases h : i < min n m
  · have hf : fblk n m i = ⟨⟨#[]⟩, false, false, [⟨i, xs1⟩]⟩ := by simp [fblk]; omega
    have hfate : fateF (ones m) i = 1 := by simp [fateF, ones, show i < m by omega]
    rw [hf, if_pos h]
    simp [Blk.crash, oneHit, hfate, Blk.contents]
  · have hf : fblk n m i = blk0 := by unfold fblk; rw [if_neg (by omega)]
    rw [hf, if_neg h]
    simp [Blk.crash, blk0, Blk.contents]
theorem Fk_crash_write (n m : Nat) (s : ByteArray) (hs : s.size ≤ 512) : (((Fk n m).crash (ones m)).write 0 s).1 = 0 := by
  have hh : ((Fk n m).crash (ones m)).hasB 0 = true := by simp [Dv.hasB, Dv.crash, Fk_len]
  have hb : ((Fk n m).crash (ones m)).bs[0]? = some ((fblk n m 0).crash (ones m)) := by simp [Dv.crash, Fk_at n m 0 (by omega)]
  have hup : ((Fk n m).crash (ones m)).up = true := rfl
  have hs' : ¬ 512 < s.size := by omega
  simp [Dv.write, hup, hh, hb, hs']
end Go.Proofs.Ytmfkbddfjfjfkaa
