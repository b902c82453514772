/- What was encoded is read, and only that: results. A result that came in. No conditions beyond those in each statement. -/
import Derived.Test.YtkdbkbfloiponaaOtRead
import Derived.Test.YtkdbkbfloiponaaInvar5
namespace Go.Proofs.Ytkdbkbfloiponaa
open Go.ChangeShapes Go.WideShapes Go.ChangeAt Go.Deep Go.RowKit
set_option linter.unusedVariables false
set_option linter.unusedSimpArgs false
set_option maxRecDepth 100000

def goodT (o : Ot) : Prop := o.path.size ≤ 60 ∧ 0 ≤ o.ver ∧ o.ver ≤ 281474976710655
def goodR (c : Rt) : Prop := (0 ≤ c.e ∧ c.e ≤ 1024) ∧ (0 ≤ c.at_ ∧ c.at_ ≤ 4) ∧ (0 ≤ c.when_ ∧ c.when_ ≤ 281474976710655) ∧ c.outs.length ≤ 4 ∧ ∀ o ∈ c.outs, goodT o
theorem numsE_four (a b c d : Int) : numsE [a, b, c, d] = numE a ++ (numE b ++ (numE c ++ numE d)) := by simp [numsE]
theorem rdT_good (o : Ot) (r : List UInt8) (h : goodT o) : rdT (some (encT o ++ r)) = (o, some r) := by
  obtain ⟨h1, h2, h3⟩ := h
  unfold encT rdT
  rw [List.append_assoc, textF_good _ _ _ (by rw [← Lib.size_eq]; omega) (by decide)]
  simp only
  rw [numF_good _ _ _ h2 h3 (by decide)]
theorem rdTs_good (L : List Ot) (r : List UInt8) (h : ∀ o ∈ L, goodT o) : ∀ k, k ≤ L.length → rdTs k (some (L.flatMap encT ++ r)) = (L.take k, some ((L.drop k).flatMap encT ++ r))
  | 0, _ => by simp [rdTs]
  | k + 1, hk => by
    have ih := rdTs_good L r h k (by omega)
    have hlt : k < L.length := by omega
    unfold rdTs
    rw [ih]
    simp only
    have hd : L.drop k = L.getD k Ot.zero :: L.drop (k + 1) := by
      rw [List.drop_eq_getElem_cons hlt, List.getD_eq_getElem?_getD, List.getElem?_eq_getElem hlt]; rfl
    rw [hd, List.flatMap_cons, List.append_assoc, rdT_good _ _ (h _ (getD_mem hlt)), take_snoc_getD L Ot.zero k hlt]
theorem readR_good (c : Rt) (h : goodR c) : readR (encR c) = (c, 0) := by
  obtain ⟨q1, q2, q3, q4, q5⟩ := h
  have he : encR c = numE c.e ++ (numE c.at_ ++ (numE c.when_ ++ (numE (c.outs.length : Int) ++ (c.outs.flatMap encT ++ [])))) := by
    unfold encR headR; rw [numsE_four]; simp
  have hk : rdQ (some (encR c)) = ⟨c.e, c.at_, c.when_, c.outs.length, some (c.outs.flatMap encT ++ [])⟩ := by
    rw [he]
    unfold rdQ
    rw [numF_good _ _ _ q1.1 q1.2 (by decide)]
    simp only
    rw [numF_good _ _ _ q2.1 q2.2 (by decide)]
    simp only
    rw [numF_good _ _ _ q3.1 q3.2 (by decide)]
    simp only
    rw [numF_good _ _ _ (by omega) (by omega) (by decide)]
    simp only [Int.toNat_natCast]
  have hr : rdR (some (encR c)) = (c, some []) := by
    unfold rdR
    rw [hk]
    simp only
    rw [rdTs_good _ _ q5 _ (Nat.le_refl _), List.take_length, List.drop_length]
    rfl
  unfold readR
  rw [hr]
  rfl
theorem rdT_some {st : RS} {l' : List UInt8} (h : (rdT st).2 = some l') : ∃ l, st = some l ∧ l = encT (rdT st).1 ++ l' := by
  unfold rdT at h ⊢
  simp only at h ⊢
  obtain ⟨l1, e1, f1, _⟩ := numF_some (by decide) h
  obtain ⟨l0, e0, f0, _⟩ := textF_some (by decide) e1
  refine ⟨l0, e0, ?_⟩
  unfold encT
  simp only [List.append_assoc]
  rw [← f1, ← f0]
theorem rdTs_some {st : RS} : ∀ (k : Nat) {l' : List UInt8}, (rdTs k st).2 = some l' → ∃ l, st = some l ∧ l = (rdTs k st).1.flatMap encT ++ l'
  | 0, l', h => ⟨l', h, by simp [rdTs]⟩
  | k + 1, l', h => by
    have h' : (rdT (rdTs k st).2).2 = some l' := h
    obtain ⟨l1, e1, f1⟩ := rdT_some h'
    obtain ⟨l0, e0, f0⟩ := rdTs_some k e1
    refine ⟨l0, e0, ?_⟩
    show l0 = ((rdTs k st).1 ++ [(rdT (rdTs k st).2).1]).flatMap encT ++ l'
    rw [f0, f1, List.flatMap_append]; simp
theorem readR_some {l : List UInt8} (h : (readR l).2 = 0) : encR (readR l).1 = l ∧ (readR l).1.outs.length ≤ 4 ∧ (readR l).1.Ok ∧ ∀ o ∈ (readR l).1.outs, o.Ok := by
  unfold readR at h ⊢
  split at h
  · rename_i hc
    rw [if_pos hc]
    have hz := doneF_zero hc
    unfold rdR at hz ⊢
    simp only at hz ⊢
    obtain ⟨l5, e5, f5⟩ := rdTs_some _ hz
    unfold rdQ at e5 f5 ⊢
    simp only at e5 f5 ⊢
    obtain ⟨l4, e4, f4, p4, m4⟩ := numF_some (by decide) e5
    obtain ⟨l3, e3, f3, p3, m3⟩ := numF_some (by decide) e4
    obtain ⟨l2, e2, f2, p2, m2⟩ := numF_some (by decide) e3
    obtain ⟨l1, e1, f1, p1, m1⟩ := numF_some (by decide) e2
    obtain rfl : l = l1 := by injection e1
    refine ⟨?_, ?_, ?_, ?_⟩
    · unfold encR headR
      simp only
      rw [numsE_four, rdTs_len, Int.toNat_of_nonneg p4]
      simp only [List.append_assoc]
      rw [List.append_nil] at f5
      rw [← f5, ← f4, ← f3, ← f2, ← f1]
    · rw [rdTs_len]; omega
    · exact ⟨by unfold InR; simp only; omega, by unfold InR; simp only; omega, by unfold InR; simp only; omega⟩
    · intro o ho; exact (rdTs_ok _ _ o ho).1
  · cases h
theorem readR_two {l : List UInt8} (h : ¬ (readR l).2 = 0) : readR l = (Rt.zero, 2) := by
  unfold readR at h ⊢
  split at h
  · exact absurd rfl h
  · rename_i hc; rw [if_neg hc]
/-- The result's value, whose outs can be read. -/
def RtR (w : World) (v : Value) (c : Rt) : Prop := c.Ok ∧ ∃ u, v = rtV u c ∧ OtsR w u c.outs
section
variable {H : Type} {enc : TypeId × Value → H} {W : World} {base b0 : Nat} {spare : Nat → Bool} {held : Bool} {v : Value} {d : DataW H} {p : List MemPlace}
theorem und_errno : Try.prog.underlying 27 = some (.int .i64) := by kernel_rfl
theorem ot_fields : ∃ fs, Try.prog.underlying 40 = some (.struct fs) ∧ oneCellFields Try.prog fs = true ∧ Try.prog.cellsOf 40 = fs.size ∧ fs.size = 2 ∧
    (∀ f, fs[0]? = some f → f.type = 9) ∧ (∀ f, fs[1]? = some f → f.type = 3) := by
  refine ⟨_, Try.underlying40, by kernel_rfl, by kernel_rfl, rfl, ?_, ?_⟩ <;> (intro f hf; simp at hf; rw [← hf])
theorem ots_trod {fuel : Nat} {x : DataW H × List MemPlace} (hf : DataW.trod enc Try.prog W base spare held fuel 34 [v] = some x) : ∃ L, OtsR W v L := by
  obtain ⟨fs, g1, g2, g3, g4, f0, f1⟩ := ot_fields
  rcases open_slice_fields und_ots g1 g2 g3 hf with ⟨hcs, _⟩ | ⟨x, len, cap, m, D, hcs, hl, hm, hmm, hi⟩
  · obtain rfl := List.head_eq_of_cons_eq hcs
    exact ⟨[], _, _, rfl, Nat.zero_le _, (fun x hx => by cases hx), .inl rfl⟩
  · obtain rfl := List.head_eq_of_cons_eq hcs
    have hml : len ≤ m := by rw [hmm]; split <;> omega
    have hx : ∀ i, i < len → ∃ q : Ot, q.Ok ∧ (W.cell? (x.add (i * 2)) = some (.string q.path) ∧ W.cell? (x.add (i * 2 + 1)) = some (.int .i64 q.ver)) := by
      intro i hil
      obtain ⟨ys, n, hys, hfs⟩ := hi i (by omega)
      have s0 : fs[0]? = some (fs[0]'(by omega)) := Array.getElem?_eq_getElem (by omega)
      have s1 : fs[1]? = some (fs[1]'(by omega)) := Array.getElem?_eq_getElem (by omega)
      obtain ⟨v0, y0, c0, _, t0⟩ := hfs 0 _ s0
      obtain ⟨v1, y1, c1, _, t1⟩ := hfs 1 _ s1
      rw [f0 _ s0] at t0
      rw [f1 _ s1] at t1
      rw [g4] at c0 c1
      obtain ⟨p0, e0, _, w0⟩ := DataW.trod_string und_string t0
      obtain ⟨n1, e1, _, w1⟩ := DataW.trod_int und_int8 t1
      simp at e0 e1
      subst e0 e1
      exact ⟨⟨p0, n1⟩, ⟨w0, inR_of w1⟩, c0, c1⟩
    by_cases hz : len = 0
    · exact ⟨[], some x, cap, by rw [hz]; rfl, Nat.zero_le _, (fun x hx => by cases hx), .inl rfl⟩
    · obtain ⟨q0, _, h0, _⟩ := hx 0 (by omega)
      obtain ⟨b, off, spot⟩ := x
      have hspot : spot = none := by simpa [Addr.add] using World.cell?_spot h0
      subst hspot
      have hadd : ∀ j : Nat, (Addr.add ⟨b, off, none⟩ j : Addr) = ⟨b, off + j, none⟩ := fun j => by simp [Addr.add]
      have hget : ∀ j, j < len → ((List.range len).map fun i => if hil : i < len then Classical.choose (hx i hil) else Ot.zero).getD j Ot.zero = if hil : j < len then Classical.choose (hx j hil) else Ot.zero := fun j hj => by
        simp [hj]
      refine ⟨(List.range len).map fun i => if hil : i < len then Classical.choose (hx i hil) else Ot.zero, some ⟨b, off, none⟩, cap, by simp, by simp; omega, ?_, .inr ⟨b, off, rfl, ?_, ?_⟩⟩
      · intro q hq
        obtain ⟨i, hi', rfl⟩ := List.mem_map.1 hq
        rw [dif_pos (List.mem_range.1 hi')]
        exact (Classical.choose_spec (hx i (List.mem_range.1 hi'))).1
      · have := World.block_lt_of_cell? W _ h0
        rwa [hadd] at this
      · intro j hj
        simp only [List.length_map, List.length_range] at hj
        have hspec := (Classical.choose_spec (hx j hj)).2
        rw [hget j hj, dif_pos hj]
        unfold OtC
        simp only [hadd, Nat.add_assoc] at hspec ⊢
        exact hspec
theorem rt_fields : ∃ fs, Try.prog.underlying 36 = some (.struct fs) ∧ oneCellFields Try.prog fs = true ∧ Try.prog.cellsOf 36 = fs.size ∧ fs.size = 4 ∧
    (∀ f, fs[0]? = some f → f.type = 27) ∧ (∀ f, fs[1]? = some f → f.type = 3) ∧ (∀ f, fs[2]? = some f → f.type = 34) ∧ (∀ f, fs[3]? = some f → f.type = 3) := by
  refine ⟨_, Try.underlying36, by kernel_rfl, by kernel_rfl, rfl, ?_, ?_, ?_, ?_⟩ <;> (intro f hf; simp at hf; rw [← hf])
theorem rt_of (hv : Value.okWide Try.prog W .any b0 36 v) (h : DataW.Trod enc Try.prog W base spare held 36 v d p) : ∃ c, RtR W v c := by
  obtain ⟨fs, g1, g2, g3, g4, f0, f1, f2, f3⟩ := rt_fields
  obtain ⟨cs, n, rfl, hsz, hfs⟩ := open_aggn g1 g2 g3 hv h
  have s0 : fs[0]? = some (fs[0]'(by omega)) := Array.getElem?_eq_getElem (by omega)
  have s1 : fs[1]? = some (fs[1]'(by omega)) := Array.getElem?_eq_getElem (by omega)
  have s2 : fs[2]? = some (fs[2]'(by omega)) := Array.getElem?_eq_getElem (by omega)
  have s3 : fs[3]? = some (fs[3]'(by omega)) := Array.getElem?_eq_getElem (by omega)
  obtain ⟨v0, y0, c0, t0⟩ := hfs 0 _ s0
  obtain ⟨v1, y1, c1, t1⟩ := hfs 1 _ s1
  obtain ⟨v2, y2, c2, t2⟩ := hfs 2 _ s2
  obtain ⟨v3, y3, c3, t3⟩ := hfs 3 _ s3
  rw [f0 _ s0] at t0
  rw [f1 _ s1] at t1
  rw [f2 _ s2] at t2
  rw [f3 _ s3] at t3
  obtain ⟨n0, e0, _, w0⟩ := DataW.trod_int und_errno t0
  obtain ⟨n1, e1, _, w1⟩ := DataW.trod_int und_int8 t1
  obtain ⟨L, hL⟩ := ots_trod t2
  obtain ⟨n3, e3, _, w3⟩ := DataW.trod_int und_int8 t3
  simp at e0 e1 e3
  subst e0 e1 e3
  refine ⟨⟨n0, n1, L, n3⟩, ⟨inR_of w0, inR_of w1, inR_of w3⟩, v2, ?_, hL⟩
  unfold rtV
  congr 1
  refine Array.ext_getElem? fun j => ?_
  by_cases hj : j < 4
  · match j, hj with
    | 0, _ => exact c0
    | 1, _ => exact c1
    | 2, _ => exact c2
    | 3, _ => exact c3
  · rw [Array.getElem?_eq_none (by omega), Array.getElem?_eq_none (by simp; omega)]
end
end Go.Proofs.Ytkdbkbfloiponaa
