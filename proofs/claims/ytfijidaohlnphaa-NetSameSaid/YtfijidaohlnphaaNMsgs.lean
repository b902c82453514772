/- Messages that came in, with the form's own reach. No conditions beyond those in each statement. -/
import Derived.Test.YtfijidaohlnphaaNArgs
import Derived.Test.YtfijidaohlnphaaNLoadG
import Derived.SizedLaws
import Derived.ChangeSlices
namespace Go.Proofs.Ytfijidaohlnphaa
open Go.ChangeShapes Go.WideShapes Go.ChangeAt Go.RowKit Go.Deep
open Go.ChangeMaps (open_string shut_string)
set_option linter.unusedVariables false
set_option linter.unusedSimpArgs false
set_option maxRecDepth 100000

theorem und_kind : Try.prog.underlying 34 = some (.int .i64) := by kernel_rfl
theorem und_state : Try.prog.underlying 36 = some (.int .i64) := by kernel_rfl
theorem und_sum : Try.prog.underlying 69 = some (.int .u32) := by kernel_rfl
theorem und_bool : Try.prog.underlying 4 = some .bool := by kernel_rfl
theorem und_str : Try.prog.underlying 9 = some .string := by kernel_rfl
theorem en_fields : ∃ fs, Try.prog.underlying 66 = some (.struct fs) ∧ oneCellFields Try.prog fs = true ∧ Try.prog.cellsOf 66 = fs.size ∧ fs.size = 3 ∧
    (∀ f, fs[0]? = some f → f.type = 3) ∧ (∀ f, fs[1]? = some f → f.type = 3) ∧ (∀ f, fs[2]? = some f → f.type = 9) := by
  refine ⟨_, Try.underlying66, by kernel_rfl, by kernel_rfl, rfl, ?_, ?_, ?_⟩ <;> (intro f hf; simp at hf; rw [← hf])
instance : Inhabited Mi := ⟨Mi.zero⟩
section
variable {H : Type} {enc : TypeId × Value → H} {W : World} {base b0 : Nat} {spare : Nat → Bool} {held : Bool} {v : Value} {d : DataW H} {p : List MemPlace}
theorem slice_weight {t e : TypeId} {P : Program} {fuel : Nat} {y : DataW H × List MemPlace} (ht : P.underlying t = some (.slice e)) (hf : DataW.trod enc P W base spare held fuel t [v] = some y) : ∃ a n c, v = .slice a n c ∧ (n = 0 ∨ ∃ g ∈ y.1.weights P t, n * P.bytesOf e ≤ g) ∧ (v = .slice none 0 0 ∨ ∃ ad, a = some ad) := by
  rcases open_slice ht hf with ⟨hcs, rfl⟩ | ⟨a, len, cap, m, n, D, Pl, hcs, _, _, _, _, rfl, _⟩
  · obtain rfl := List.head_eq_of_cons_eq hcs
    exact ⟨none, 0, 0, rfl, .inl rfl, .inl rfl⟩
  · obtain rfl := List.head_eq_of_cons_eq hcs
    refine ⟨some a, len, cap, rfl, .inr ⟨(len + (m - len)) * P.bytesOf e, ?_, Nat.mul_le_mul_right _ (Nat.le_add_right _ _)⟩, .inr ⟨a, rfl⟩⟩
    simp [DataW.weights, ht]
theorem ents_rd {fuel : Nat} {y : DataW H × List MemPlace} (hf : DataW.trod enc Try.prog W base spare held fuel 35 [v] = some y) : ∃ a n c, v = .slice a n c ∧ RdK 3 (fun b => b < W.heap.size) W v n ∧ (n = 0 ∨ ∃ g ∈ y.1.weights Try.prog 35, n * 32 ≤ g) := by
  obtain ⟨a, n, c, rfl, hw, hform⟩ := slice_weight und_ens hf
  rw [show Try.prog.bytesOf 66 = 32 by kernel_rfl] at hw
  refine ⟨a, n, c, rfl, ?_, hw⟩
  obtain ⟨fs, g1, g2, g3, g4, f0, f1, f2⟩ := en_fields
  rcases open_slice_fields und_ens g1 g2 g3 hf with ⟨hcs, _⟩ | ⟨x, len, cap, m, D, hcs, hl, hm, hmm, hi⟩
  · have := List.head_eq_of_cons_eq hcs
    injection this with e1 e2 e3
    subst e1 e2 e3
    exact .inl ⟨rfl, rfl⟩
  · have := List.head_eq_of_cons_eq hcs
    injection this with e1 e2 e3
    subst e1 e2 e3
    have hml : n ≤ m := by rw [hmm]; split <;> omega
    have hx : ∀ i, i < n → ∃ q : List Value, q.length = 3 ∧ (∀ u ∈ q, u.oneCell' = true) ∧ ∀ r u, q[r]? = some u → W.cell? (x.add (i * 3 + r)) = some u := by
      intro i hil
      obtain ⟨ys, k, hys, hfs⟩ := hi i (by omega)
      have s0 : fs[0]? = some (fs[0]'(by omega)) := Array.getElem?_eq_getElem (by omega)
      have s1 : fs[1]? = some (fs[1]'(by omega)) := Array.getElem?_eq_getElem (by omega)
      have s2 : fs[2]? = some (fs[2]'(by omega)) := Array.getElem?_eq_getElem (by omega)
      obtain ⟨v0, y0, c0, _, t0⟩ := hfs 0 _ s0
      obtain ⟨v1, y1, c1, _, t1⟩ := hfs 1 _ s1
      obtain ⟨v2, y2, c2, _, t2⟩ := hfs 2 _ s2
      rw [f0 _ s0] at t0
      rw [f1 _ s1] at t1
      rw [f2 _ s2] at t2
      rw [g4] at c0 c1 c2
      obtain ⟨n0, e0, _, w0⟩ := DataW.trod_int und_int8 t0
      obtain ⟨n1, e1, _, w1⟩ := DataW.trod_int und_int8 t1
      obtain ⟨p2, e2, _, w2⟩ := DataW.trod_string und_str t2
      simp at e0 e1 e2
      subst e0 e1 e2
      refine ⟨[.int .i64 n0, .int .i64 n1, .string p2], rfl, fun u hu => ?_, fun r u hu => ?_⟩
      · simp only [List.mem_cons, List.not_mem_nil, or_false] at hu
        rcases hu with rfl | rfl | rfl <;> rfl
      · match r, hu with
        | 0, hu => obtain rfl := Option.some.inj hu; exact c0
        | 1, hu => obtain rfl := Option.some.inj hu; exact c1
        | 2, hu => obtain rfl := Option.some.inj hu; exact c2
        | r + 3, hu => simp at hu
    obtain ⟨q, hq⟩ := choose_lt (α := List Value) (p := fun i q => q.length = 3 ∧ (∀ u ∈ q, u.oneCell' = true) ∧ ∀ r u, q[r]? = some u → W.cell? (x.add (i * 3 + r)) = some u) hx
    refine .inr ⟨x, c, (List.range n).flatMap q, rfl, ?_, fun u hu => ?_, fun j u hu => ?_, ?_⟩
    · clear hf hcs hw hform hi hx hmm hml hl
      induction n with
      | zero => rfl
      | succ n ih =>
        rw [List.range_succ, List.flatMap_append, List.length_append, ih fun i hi => hq i (by omega)]
        simp only [List.flatMap_cons, List.flatMap_nil, List.append_nil]
        rw [(hq n (by omega)).1]; omega
    · obtain ⟨i, hi', hu⟩ := List.mem_flatMap.1 hu
      exact (hq i (List.mem_range.1 hi')).2.1 u hu
    · have key : ∀ k, k ≤ n → ∀ j u, ((List.range k).flatMap q)[j]? = some u → W.cell? (x.add j) = some u := by
        intro k
        induction k with
        | zero => intro _ j u hu; simp at hu
        | succ k ih =>
          intro hk j u hu
          have hlen : ∀ k, k ≤ n → ((List.range k).flatMap q).length = k * 3 := by
            intro k
            induction k with
            | zero => intro _; rfl
            | succ k ih =>
              intro hk
              rw [List.range_succ, List.flatMap_append, List.length_append, ih (by omega)]
              simp only [List.flatMap_cons, List.flatMap_nil, List.append_nil]
              rw [(hq k (by omega)).1]; omega
          rw [List.range_succ, List.flatMap_append] at hu
          simp only [List.flatMap_cons, List.flatMap_nil, List.append_nil] at hu
          by_cases hj : j < k * 3
          · rw [List.getElem?_append_left (by rw [hlen k (by omega)]; exact hj)] at hu
            exact ih (by omega) j u hu
          · rw [List.getElem?_append_right (by rw [hlen k (by omega)]; omega), hlen k (by omega)] at hu
            have := (hq k (by omega)).2.2 (j - k * 3) u hu
            rwa [show k * 3 + (j - k * 3) = j by omega] at this
      exact key n (Nat.le_refl _) j u hu
    · by_cases h0 : n = 0
      · exact .inl h0
      · obtain ⟨h3, _, h4⟩ := hq 0 (by omega)
        have := h4 0 (q 0)[0] (by rw [List.getElem?_eq_getElem])
        refine .inr ?_
        have h5 := World.block_lt_of_cell? W _ this
        rwa [block_add] at h5
theorem sums_rd {fuel : Nat} {y : DataW H × List MemPlace} (hf : DataW.trod enc Try.prog W base spare held fuel 37 [v] = some y) : ∃ a n c, v = .slice a n c ∧ RdK 1 (fun b => b < W.heap.size) W v n ∧ (n = 0 ∨ ∃ g ∈ y.1.weights Try.prog 37, n * 4 ≤ g) := by
  obtain ⟨a, n, c, rfl, hw, hform⟩ := slice_weight und_sms hf
  rw [show Try.prog.bytesOf 69 = 4 by kernel_rfl] at hw
  refine ⟨a, n, c, rfl, ?_, hw⟩
  rcases open_ints und_sms und_sum (by kernel_rfl) hf with ⟨hcs, _⟩ | ⟨x, l, c', zs, hcs, _, hl, hm, hz, _, hcell, hwz⟩
  · have := List.head_eq_of_cons_eq hcs
    injection this with e1 e2 e3
    subst e1 e2 e3
    exact .inl ⟨rfl, rfl⟩
  · have := List.head_eq_of_cons_eq hcs
    injection this with e1 e2 e3
    subst e1 e2 e3
    have hlz : n ≤ zs.length := by rw [hz]; split <;> omega
    refine .inr ⟨x, c, (zs.take n).map (Value.int .u32), rfl, by rw [List.length_map, List.length_take]; omega, fun u hu => ?_, fun j u hu => ?_, ?_⟩
    · obtain ⟨z, _, rfl⟩ := List.mem_map.1 hu; rfl
    · have hj : j < n := by have := (List.getElem?_eq_some_iff.1 hu).1; simp at this; omega
      rw [hcell j (by omega), ← hu]
      simp [hj, List.getD_eq_getElem?_getD]
      rw [List.getElem?_eq_getElem (by omega)]; rfl
    · by_cases h0 : n = 0
      · exact .inl h0
      · have h5 := World.block_lt_of_cell? W _ (hcell 0 (by omega))
        rw [block_add] at h5
        exact .inr h5
theorem trod_at2 {t : TypeId} {fs : Array Field} {fuel : Nat} {cs : List Value} {x : DataW H × List MemPlace} (ht : Try.prog.underlying t = some (.struct fs)) (h : DataW.trod enc Try.prog W base spare held fuel t cs = some x) :
    ∃ n, ∀ (i : Nat) (f : Field) (ty : TypeId) (off k : Nat), fs[i]? = some f → f.type = ty → f.offset = off → Try.prog.cellsOf ty = k → ∃ y, DataW.trod enc Try.prog W base spare held n ty ((cs.drop off).take k) = some y ∧ ∀ g ∈ y.1.weights Try.prog ty, g ∈ x.1.weights Try.prog t := by
  obtain ⟨xs, n, _, rfl, _, hl, hf⟩ := DataW.trod_struct ht h
  refine ⟨n, fun i f ty off k hi e1 e2 e3 => ?_⟩
  subst e1 e2 e3
  have hil : i < fs.size := (Array.getElem?_eq_some_iff.1 hi).1
  have hxs : xs[i]? = some (xs[i]'(by omega)) := List.getElem?_eq_getElem (by omega)
  refine ⟨_, (hf i f hi).trans hxs, fun g hg => ?_⟩
  have e : (DataW.agg (xs.map (·.1))).weights Try.prog t = DataW.weightsEach Try.prog (fs.toList.map (·.type)) (xs.map (·.1)) := by simp [DataW.weights, ht]
  show g ∈ (DataW.agg (xs.map (·.1))).weights Try.prog t
  rw [e]
  exact DataW.weights_mem_each (j := i) (by simp [hi]) (by simp [hxs]) g hg
theorem list17 {α : Type} (l : List α) (h : l.length = 17) : ∃ c0 c1 c2 c3 c4 c5 c6 c7 c8 c9 c10 c11 c12 c13 c14 c15 c16, l = [c0, c1, c2, c3, c4, c5, c6, c7, c8, c9, c10, c11, c12, c13, c14, c15, c16] := by
  match l, h with
  | [c0, c1, c2, c3, c4, c5, c6, c7, c8, c9, c10, c11, c12, c13, c14, c15, c16], _ => exact ⟨c0, c1, c2, c3, c4, c5, c6, c7, c8, c9, c10, c11, c12, c13, c14, c15, c16, rfl⟩
/-- A message's cells. -/
theorem msg_cells {fuel : Nat} {cs : List Value} {x : DataW H × List MemPlace} (hl : cs.length = 17) (hf : DataW.trod enc Try.prog W base spare held fuel 41 cs = some x) :
    ∃ mi : Mi, cs = (mgA mi.u mi.v mi.m).toList ∧ RdK 3 (fun b => b < W.heap.size) W mi.u mi.un ∧ RdK 1 (fun b => b < W.heap.size) W mi.v mi.vn ∧ (mi.un = 0 ∨ ∃ g ∈ x.1.weights Try.prog 41, mi.un * 32 ≤ g) ∧ (mi.vn = 0 ∨ ∃ g ∈ x.1.weights Try.prog 41, mi.vn * 4 ≤ g) := by
  have k1 : Try.prog.cellsOf 3 = 1 := by kernel_rfl
  have k2 : Try.prog.cellsOf 34 = 1 := by kernel_rfl
  have k3 : Try.prog.cellsOf 35 = 1 := by kernel_rfl
  have k4 : Try.prog.cellsOf 4 = 1 := by kernel_rfl
  have k5 : Try.prog.cellsOf 36 = 1 := by kernel_rfl
  have k6 : Try.prog.cellsOf 39 = 4 := by kernel_rfl
  have k7 : Try.prog.cellsOf 9 = 1 := by kernel_rfl
  have k8 : Try.prog.cellsOf 37 = 1 := by kernel_rfl
  obtain ⟨c0, c1, c2, c3, c4, c5, c6, c7, c8, c9, c10, c11, c12, c13, c14, c15, c16, rfl⟩ := list17 cs hl
  obtain ⟨n, hfs⟩ := trod_at2 Try.underlying41 hf
  obtain ⟨y0, t0, _⟩ := hfs 0 _ 34 0 1 rfl rfl rfl k2
  obtain ⟨y1, t1, _⟩ := hfs 1 _ 3 1 1 rfl rfl rfl k1
  obtain ⟨y2, t2, _⟩ := hfs 2 _ 3 2 1 rfl rfl rfl k1
  obtain ⟨y3, t3, _⟩ := hfs 3 _ 3 3 1 rfl rfl rfl k1
  obtain ⟨y4, t4, _⟩ := hfs 4 _ 3 4 1 rfl rfl rfl k1
  obtain ⟨y5, t5, _⟩ := hfs 5 _ 3 5 1 rfl rfl rfl k1
  obtain ⟨y6, t6, _⟩ := hfs 6 _ 3 6 1 rfl rfl rfl k1
  obtain ⟨y7, t7, _⟩ := hfs 7 _ 3 7 1 rfl rfl rfl k1
  obtain ⟨y8, t8, g8⟩ := hfs 8 _ 35 8 1 rfl rfl rfl k3
  obtain ⟨y9, t9, _⟩ := hfs 9 _ 4 9 1 rfl rfl rfl k4
  obtain ⟨y10, t10, _⟩ := hfs 10 _ 36 10 1 rfl rfl rfl k5
  obtain ⟨y11, t11, g11⟩ := hfs 11 _ 39 11 4 rfl rfl rfl k6
  obtain ⟨y12, t12, _⟩ := hfs 12 _ 3 15 1 rfl rfl rfl k1
  obtain ⟨y13, t13, _⟩ := hfs 13 _ 9 16 1 rfl rfl rfl k7
  simp only [List.drop_zero, List.drop_succ_cons, List.take_succ_cons, List.take_zero] at t0 t1 t2 t3 t4 t5 t6 t7 t8 t9 t10 t11 t12 t13
  obtain ⟨n2, hls⟩ := trod_at2 Try.underlying39 t11
  obtain ⟨z0, s0, _⟩ := hls 0 _ 3 0 1 rfl rfl rfl k1
  obtain ⟨z1, s1, _⟩ := hls 1 _ 3 1 1 rfl rfl rfl k1
  obtain ⟨z2, s2, _⟩ := hls 2 _ 3 2 1 rfl rfl rfl k1
  obtain ⟨z3, s3, h3⟩ := hls 3 _ 37 3 1 rfl rfl rfl k8
  simp only [List.drop_zero, List.drop_succ_cons, List.take_succ_cons, List.take_zero] at s0 s1 s2 s3
  obtain ⟨x0, e0, _, w0⟩ := DataW.trod_int und_kind t0
  obtain ⟨x1, e1, _, w1⟩ := DataW.trod_int und_int8 t1
  obtain ⟨x2, e2, _, w2⟩ := DataW.trod_int und_int8 t2
  obtain ⟨x3, e3, _, w3⟩ := DataW.trod_int und_int8 t3
  obtain ⟨x4, e4, _, w4⟩ := DataW.trod_int und_int8 t4
  obtain ⟨x5, e5, _, w5⟩ := DataW.trod_int und_int8 t5
  obtain ⟨x6, e6, _, w6⟩ := DataW.trod_int und_int8 t6
  obtain ⟨x7, e7, _, w7⟩ := DataW.trod_int und_int8 t7
  obtain ⟨a8, n8, q8, rfl, hE, hEw⟩ := ents_rd (v := c8) t8
  obtain ⟨x9, e9, _⟩ := DataW.trod_bool und_bool t9
  obtain ⟨x10, e10, _, w10⟩ := DataW.trod_int und_state t10
  obtain ⟨x12, e12, _, w12⟩ := DataW.trod_int und_int8 t12
  obtain ⟨x13, e13, _, w13⟩ := DataW.trod_string und_str t13
  obtain ⟨q0, f0, _, r0⟩ := DataW.trod_int und_int8 s0
  obtain ⟨q1, f1, _, r1⟩ := DataW.trod_int und_int8 s1
  obtain ⟨q2, f2, _, r2⟩ := DataW.trod_int und_int8 s2
  obtain ⟨a14, n14, q14, rfl, hS, hSw⟩ := sums_rd (v := c14) s3
  simp only [List.cons.injEq, and_true] at e0 e1 e2 e3 e4 e5 e6 e7 e9 e10 e12 e13 f0 f1 f2
  subst e0 e1 e2 e3 e4 e5 e6 e7 e9 e10 e12 e13 f0 f1 f2
  refine ⟨⟨a8, n8, q8, a14, n14, q14, ⟨x0, x1, x2, x3, x4, x5, x6, x7, [], x9, x10, q0, q1, q2, [], x12, x13⟩⟩, rfl, hE, hS, ?_, ?_⟩
  · exact hEw.imp id fun ⟨g, h1, h2⟩ => ⟨g, g8 g h1, h2⟩
  · exact hSw.imp id fun ⟨g, h1, h2⟩ => ⟨g, g11 g (h3 g h1), h2⟩
theorem weightsAll_mem {P : Program} {e : TypeId} : ∀ {l : List (DataW H)} {d : DataW H}, d ∈ l → ∀ n ∈ d.weights P e, n ∈ DataW.weightsAll P e l
  | [], d, h, n, hn => by cases h
  | x :: l, d, h, n, hn => by
    rw [DataW.weightsAll, List.mem_append]
    rcases List.mem_cons.1 h with rfl | h
    · exact .inl hn
    · exact .inr (weightsAll_mem h n hn)
theorem msgs_of (hv : Value.okWide Try.prog W .any b0 48 v) (h : DataW.Trod enc Try.prog W base spare held 48 v d p) (hw : ∀ g ∈ d.weights Try.prog 48, g ≤ 140737488351232) : ∃ Ms, MsR (fun b => b < W.heap.size) W v Ms := by
  obtain ⟨a, len, cap, rfl⟩ := okWide_slice und_mss hv
  obtain ⟨fuel, hf⟩ := h
  have h17 : Try.prog.cellsOf 41 = 17 := by kernel_rfl
  rcases open_slice und_mss hf with ⟨hcs, _⟩ | ⟨x, l, c, m, n, D, Pl, hcs, _, hl, _, hmm, hx, hi⟩
  · simp [Value.cells] at hcs
    obtain ⟨rfl, rfl, rfl⟩ := hcs
    exact ⟨[], ⟨none, 0, rfl⟩, fun j hj => absurd hj (Nat.not_lt_zero _)⟩
  · simp [Value.cells] at hcs
    obtain ⟨rfl, rfl, rfl⟩ := hcs
    have hml : len ≤ m := by rw [hmm]; split <;> omega
    have hd : d = .slice ((List.range len).map D) ((List.range (m - len)).map fun j => D (len + j)) := by injection hx
    have hwd : ∀ i, i < len → ∀ g ∈ (D i).weights Try.prog 41, g ≤ 140737488351232 := fun i hi' g hg => by
      refine hw g ?_
      rw [hd]
      simp only [DataW.weights, und_mss, List.mem_cons, List.mem_append]
      exact .inr (.inl (weightsAll_mem (List.mem_map.2 ⟨i, List.mem_range.2 hi', rfl⟩) g hg))
    have hel : ∀ i, i < len → ∃ mi : Mi, (∀ r u, (mgA mi.u mi.v mi.m)[r]? = some u → W.cell? (x.add (i * 17 + r)) = some u) ∧ RdK 3 (fun b => b < W.heap.size) W mi.u mi.un ∧ RdK 1 (fun b => b < W.heap.size) W mi.v mi.vn ∧ mi.un * 32 ≤ 140737488355328 ∧ mi.vn * 4 ≤ 140737488355328 := fun i hil => by
      obtain ⟨cs', hc, ht⟩ := hi i (by omega)
      rw [h17] at hc
      obtain ⟨_, hcl, hat⟩ := World.cells?_some hc
      obtain ⟨mi, rfl, h1, h2, h3, h4⟩ := msg_cells hcl ht
      refine ⟨mi, fun r u hu => ?_, h1, h2, ?_, ?_⟩
      · have hr : r < 17 := by have := (Array.getElem?_eq_some_iff.1 hu).1; simpa [mgA] using this
        have := hat r hr
        rw [← add_add, this, ← hu, Array.getElem?_toList]
      · rcases h3 with h3 | ⟨g, h3, h5⟩
        · omega
        · have := hwd i hil g h3; omega
      · rcases h4 with h4 | ⟨g, h4, h5⟩
        · omega
        · have := hwd i hil g h4; omega
    obtain ⟨q, hq⟩ := choose_lt (α := Mi) (p := fun i mi => (∀ r u, (mgA mi.u mi.v mi.m)[r]? = some u → W.cell? (x.add (i * 17 + r)) = some u) ∧ RdK 3 (fun b => b < W.heap.size) W mi.u mi.un ∧ RdK 1 (fun b => b < W.heap.size) W mi.v mi.vn ∧ mi.un * 32 ≤ 140737488355328 ∧ mi.vn * 4 ≤ 140737488355328) hel
    refine ⟨(List.range len).map q, ⟨some x, cap, by simp⟩, fun j hj => ?_⟩
    have hjl : j < len := by simpa using hj
    obtain ⟨b, off, spot⟩ := x
    have hspot : spot = none := by
      have := (hq 0 (by omega)).1 0 _ rfl
      simpa [Addr.add] using World.cell?_spot this
    subst hspot
    have hadd : ∀ j : Nat, (Addr.add ⟨b, off, none⟩ j : Addr) = ⟨b, off + j, none⟩ := fun j => by simp [Addr.add]
    obtain ⟨k1, k2, k3, k4, k5⟩ := hq j hjl
    have e : ((List.range len).map q).getD j Mi.zero = q j := by simp [List.getD_eq_getElem?_getD, hjl]
    refine ⟨b, off + j * 17, fun W' => ?_, ?_⟩
    · have h0 : (0 : Int) ≤ (j : Int) := by omega
      have h1 : (j : Int) < (len : Int) := by omega
      go_simp
    · rw [e]
      have hb : b < W.heap.size := by
        have := World.block_lt_of_cell? W _ (k1 0 _ rfl)
        rwa [block_add] at this
      refine ⟨hb, fun W' hW' => ?_, k2, k3, k4, k5⟩
      refine run_loadG _ _ _ _ _ _ _ fun r u hu => ?_
      have := k1 r u hu
      rw [hadd] at this
      rw [cell_same (w := W) (w' := W') hW', Nat.add_assoc]
      exact this
end
end Go.Proofs.Ytfijidaohlnphaa
