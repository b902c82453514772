/- General facts on numbers and texts that are encoded and read; loads and stores of a whole node as single steps. No conditions beyond those in each statement. -/
import Derived.Test.YtblcpihfnpgfiaaGreatDoorTreeArm
import Derived.Test.YtblcpihfnpgfiaaGreatDoorPithAll
import Derived.Lib.SliceRun
import Derived.Lib.BufferRead
import Derived.Lib.AppendZeros
import Derived.Laws.IdiomStrings
namespace Go.Proofs.YtblcpihfnpgfiaaGreatDoor
open Go.RowKit Go.Maps
set_option linter.unusedVariables false
set_option linter.unusedSimpArgs false
set_option maxRecDepth 100000

def InR (z : Int) : Prop := -9223372036854775808 ≤ z ∧ z ≤ 9223372036854775807
theorem getD_mem {α : Type} {L : List α} {d : α} {k : Nat} (h : k < L.length) : L.getD k d ∈ L := by
  rw [List.getD_eq_getElem?_getD, List.getElem?_eq_getElem h]; exact List.getElem_mem h
theorem cells_new {w : World} {vs : Array Value} {t : TypeId} {j : Nat} {u : Value} (h : vs[j]? = some u) : (w.alloc (.cells vs t)).cell? ⟨w.heap.size, 0 + j, none⟩ = some u := by
  have h1 := heap_alloc_new w (.cells vs t)
  generalize w.alloc (.cells vs t) = W at h1
  simp [World.cell?, h1, h]
theorem Bs.mk {w : World} {B : Nat} {v : Value} {l m : List UInt8} (h : Bs w B v l) (e : l = m) : Bs w B v m := e ▸ h
theorem Bs.cut {w : World} {B : Nat} {v : Value} {l : List UInt8} (h : Bs w B v l) (h0 : 0 < l.length) : ∃ g c, v = .slice (some ⟨g, 0, none⟩) l.length c ∧ ∀ j u, (cellsOf l)[j]? = some u → w.cell? (Addr.add ⟨g, 0, none⟩ j) = some u := by
  obtain ⟨p, cap, hv, h1⟩ := h.src
  rcases h1 with ⟨_, hl, _⟩ | ⟨a, ha, hc⟩
  · rw [hl] at h0; simp at h0
  · rcases h.2 with ⟨_, h2⟩ | ⟨g, c, cur, h2, _⟩
    · omega
    · rw [hv] at h2
      injection h2 with e1 e2 e3
      rw [ha] at e1
      obtain rfl : a = ⟨g, 0, none⟩ := Option.some.inj e1
      exact ⟨g, cap, by rw [hv, ha], hc⟩
theorem und_u8 : Tryz.prog.underlying 5 = some (.int .u8) := by kernel_rfl
theorem run_str {w : World} {v : Value} {l : List UInt8} (h : Src w v l) : (convert 53 9 v).run Tryz.prog w = .ok (.string ⟨l.toArray⟩) w := by
  obtain ⟨p, cap, rfl, ⟨rfl, rfl, rfl⟩ | ⟨a, rfl, hc⟩⟩ := h
  · exact Lib.run_convert_nil_bytes w 53 9 5 0 und_bytes und_u8 und_string
  · exact run_convert_bytes_back w 53 9 5 a cap l und_bytes und_u8 und_string (fun j hj => hc j _ (by simp [cellsOf, hj]))
theorem kept_set {x : World} {b c i : Nat} {u : Value} {o : Obj} (h : x.heap[c]? = some o) (hne : c ≠ b) : (x.setCell ⟨b, i, none⟩ u).heap[c]? = some o := (Below.heap_setCell x ⟨b, i, none⟩ u c hne).trans h
theorem Rs.set {x : World} {b c i : Nat} {u : Value} {st : RS} (h : Rs x c st) (hne : c ≠ b) : Rs (x.setCell ⟨b, i, none⟩ u) c st := by
  cases st with
  | none => exact kept_set h hne
  | some l => exact ⟨kept_set h.1 hne, h.2⟩
theorem numF_most (st : RS) (most : Int) (h0 : 0 ≤ most) : 0 ≤ (numF 6 most st).1 ∧ (numF 6 most st).1 ≤ most := by
  cases st with
  | none => exact ⟨Int.le_refl 0, h0⟩
  | some l =>
    by_cases hc : l.length < 6 ∨ most < (val (l.take 6) : Int)
    · simp only [numF, hc, if_true]; exact ⟨Int.le_refl 0, h0⟩
    · simp only [numF, hc, if_false]; omega
theorem textF_len (most : Nat) (st : RS) : (textF most st).1.length ≤ most := by
  cases st with
  | none => exact Nat.zero_le _
  | some l =>
    unfold textF
    by_cases hc : l.length < 2 ∨ (most : Int) < (val (l.take 2) : Int)
    · simp only [numF, hc, if_true]; simp [takeF]
    · simp only [numF, hc, if_false]
      have := takeF_len (val (l.take 2)) (some (l.drop 2))
      rw [Int.toNat_natCast]; omega
theorem size_arr (l : List UInt8) : (⟨l.toArray⟩ : ByteArray).size = l.length := by simp [ByteArray.size]
theorem numF_some {most : Int} {st : RS} {l' : List UInt8} (hm : most ≤ 281474976710655) (h : (numF 6 most st).2 = some l') : ∃ l, st = some l ∧ l = numE (numF 6 most st).1 ++ l' ∧ 0 ≤ (numF 6 most st).1 ∧ (numF 6 most st).1 ≤ most := by
  cases st with
  | none => cases h
  | some l =>
    refine ⟨l, rfl, ?_⟩
    by_cases hc : l.length < 6 ∨ most < (val (l.take 6) : Int)
    · simp only [numF, hc, if_true] at h; cases h
    · simp only [numF, hc, if_false] at h ⊢
      injection h with h
      have h6 : (l.take 6).length = 6 := by rw [List.length_take]; omega
      have hv := val_lt (l.take 6)
      rw [h6] at hv
      have he : numE (val (l.take 6) : Int) = l.take 6 := by
        unfold numE
        have : (min (max (val (l.take 6) : Int) 0) 281474976710655).toNat = val (l.take 6) := by
          have : (256 : Nat) ^ 6 = 281474976710656 := by decide
          omega
        rw [this]
        have := be_val (l.take 6)
        rw [h6] at this; exact this
      rw [he, ← h, List.take_append_drop]
      exact ⟨rfl, by omega, by omega⟩
theorem textF_some {most : Int} {st : RS} {l' : List UInt8} (hm : most ≤ 65535) (h : (textF most st).2 = some l') : ∃ l, st = some l ∧ l = textE (textF most st).1 ++ l' ∧ ((textF most st).1.length : Int) ≤ most := by
  cases st with
  | none => cases h
  | some l =>
    refine ⟨l, rfl, ?_⟩
    unfold textF at h ⊢
    by_cases hc : l.length < 2 ∨ most < (val (l.take 2) : Int)
    · simp only [numF, hc, if_true] at h; cases h
    · simp only [numF, hc, if_false] at h ⊢
      have h2 : (l.take 2).length = 2 := by rw [List.length_take]; omega
      obtain ⟨n, hn⟩ : ∃ n, n = val (l.take 2) := ⟨_, rfl⟩
      rw [← hn] at h hc ⊢
      rw [Int.toNat_natCast] at h ⊢
      by_cases hl : (l.drop 2).length < n
      · simp only [takeF, hl, if_true] at h; cases h
      · simp only [takeF, hl, if_false] at h ⊢
        injection h with h
        have hln : ((l.drop 2).take n).length = n := by rw [List.length_take]; omega
        refine ⟨?_, by rw [hln]; omega⟩
        unfold textE
        rw [List.take_of_length_le (by rw [hln]; omega), hln, ← h]
        have hb := be_val (l.take 2)
        rw [h2, ← hn] at hb
        rw [hb, List.append_assoc, List.take_append_drop, List.take_append_drop]
theorem doneF_zero {st : RS} (h : doneF st = 0) : st = some [] := by
  cases st with
  | none => cases h
  | some l => cases l with
    | nil => rfl
    | cons a l => cases h
theorem arr_mk (s : ByteArray) : (⟨s.data.toList.toArray⟩ : ByteArray) = s := by simp
theorem numsE_two (a b : Int) : numsE [a, b] = numE a ++ numE b := by simp [numsE]
end Go.Proofs.YtblcpihfnpgfiaaGreatDoor
