/- What an append does to a transit's row; a net's box; what a method leaves alone. No conditions beyond those in each statement. -/
import Derived.Test.YtfijidaohlnphaaNSw
import Derived.OwnWalk
import Derived.Laws.Append
namespace Go.Proofs.Ytfijidaohlnphaa
open Go.RowKit
set_option linter.unusedVariables false
set_option linter.unusedSimpArgs false
set_option maxRecDepth 100000

theorem info_fp : (Try.prog.info? 55).map (fun i => (i.zero, i.size, i.bytes)) = some (some (.pointer none), 1, 8) := by kernel_rfl
theorem RowB.of_app {w : World} {base g cap : Nat} {M : List Fl} {Z : Array Value} (h0 : base ≤ g) (h1 : w.heap[g]? = some (.cells ((M.map Fl.ptr).toArray ++ Z) 55 (0, 0))) (h2 : M.length ≤ cap) (h3 : cap ≤ ((M.map Fl.ptr).toArray ++ Z).size) (h4 : cap ≤ maxLen) :
    RowB w base g cap ((M.map Fl.ptr).toArray ++ Z) M := by
  refine ⟨h0, h1, h2, h3, h4, fun j hj => ?_⟩
  rw [Array.getElem?_append_left (by simpa using hj)]
  simp [List.getD_eq_getElem?_getD, hj]
theorem RowB.take {w : World} {base g cap : Nat} {cur : Array Value} {L : List Fl} (h : RowB w base g cap cur L) : cur.toList.take L.length = L.map Fl.ptr := by
  apply List.ext_getElem?
  intro j
  by_cases hj : j < L.length
  · have := h.at_ j hj
    rw [List.getElem?_take_of_lt hj, List.getElem?_map, Array.getElem?_toList, this]
    simp [List.getD_eq_getElem?_getD, hj]
  · have hf := h.fit
    have hl := h.len
    rw [List.getElem?_eq_none (by simp; omega), List.getElem?_eq_none (by simp; omega)]
/-- Behind an append. -/
theorem nrow_push {w : World} {base : Nat} {v : Value} {L : List Fl} (h : NRow w base v L) (hl : L.length < 2000) (hb : base ≤ w.heap.size) (f : Fl) (hf : FlB w f) (ad : Addr) (hc : w.cell? ad = some f.ptr) (c : Nat) (ty : TypeId) :
    ∃ v' w', (Builtin.append_ #[26, 26] ty #[v, .slice (some ad) 1 c]).run Try.prog w = .ok v' w' ∧ NRow w' base v' (L ++ [f]) ∧ w.grownBy w' v.ownBlock ∧ (v'.ownBlock = v.ownBlock ∨ v'.ownBlock = some w.heap.size) := by
  obtain ⟨i0, hi, hz0, hz1, hz2⟩ := info_parts info_fp
  have hnew : ∀ j u, [f.ptr][j]? = some u → w.cell? (ad.add j) = some u := by
    intro j u hu
    match j, hu with
    | 0, hu => obtain rfl := Option.some.inj hu; rw [show ad.add 0 = ad by cases ad; simp [Addr.add]]; exact hc
    | j + 1, hu => simp at hu
  have hone : ∀ u ∈ [f.ptr], u.oneCell' = true := fun u hu => by rw [List.mem_singleton.1 hu]; rfl
  have hfl : ∀ {w' : World} {r : Option Nat}, w.grownBy w' r → (∀ q, r = some q → ∃ cs, w.heap[q]? = some (.cells cs 55 (0, 0))) → ∀ x ∈ L ++ [f], FlB w' x := by
    intro w' r hg hr x hx
    have hx0 : FlB w x := by
      rcases List.mem_append.1 hx with hx | hx
      · exact h.2.1 x hx
      · rw [List.mem_singleton.1 hx]; exact hf
    refine hx0.same (hg.block _ hx0.lt fun e => ?_)
    obtain ⟨cs, hcs⟩ := hr x.p e.symm
    exact hx0.ne_row hcs rfl
  have grown : ∀ (old : Nat), old < L.length + 1 → ∀ (r : Option Nat), (∀ q, r = some q → ∃ cs, w.heap[q]? = some (.cells cs 55 (0, 0))) → ∀ A : Array Value, A = ((L ++ [f]).map Fl.ptr).toArray →
      NRow (w.drew.alloc (.cells (A ++ Builtin.zeroCells (Value.pointer none).cells (grownCap w (L.length + 1) old 55 - (L.length + 1))) 55)) base (.slice (some ⟨w.heap.size, 0, none⟩) (L.length + 1) (grownCap w (L.length + 1) old 55)) (L ++ [f]) ∧
      w.grownBy (w.drew.alloc (.cells (A ++ Builtin.zeroCells (Value.pointer none).cells (grownCap w (L.length + 1) old 55 - (L.length + 1))) 55)) r := by
    intro old ho r hr A hA
    subst hA
    have hge := grownCap_ge w (L.length + 1) old 55
    have hcm : grownCap w (L.length + 1) old 55 ≤ maxLen := grownCap_le_maxLen w (L.length + 1) old 55 (by unfold maxLen; omega)
    have hg : w.grownBy (w.drew.alloc (.cells (((L ++ [f]).map Fl.ptr).toArray ++ Builtin.zeroCells (Value.pointer none).cells (grownCap w (L.length + 1) old 55 - (L.length + 1))) 55)) r := ⟨rfl, rfl, rfl, by simp, fun k hk _ => heap_alloc_old w.drew _ hk⟩
    refine ⟨⟨by rw [List.length_append]; show L.length + 1 ≤ 2000; omega, hfl hg hr, .inr ⟨w.heap.size, _, _, by rw [List.length_append]; rfl, RowB.of_app hb (heap_alloc_new w.drew _) (by rw [List.length_append]; exact hge) ?_ hcm⟩⟩, hg⟩
    simp only [Array.size_append, List.size_toArray, List.length_map, List.length_append, size_zeroCells, List.length_singleton]
    show _ ≤ _ + (_ - _) * 1
    omega
  rcases h.2.2 with ⟨rfl, rfl⟩ | ⟨g, cap, cur, rfl, hr⟩
  · have hrn := run_append_nil (P := Try.prog) w 26 ty 55 i0 (.pointer none) und_tr hi hz0 ad 1 c [f.ptr] (by rw [hz1]; rfl) hnew (by decide) (by decide) (by rw [hz2]; decide)
    obtain ⟨h1, h2⟩ := grown 0 (by decide) none (fun q hq => by cases hq) [f.ptr].toArray rfl
    exact ⟨_, _, hrn, h1, h2, .inr rfl⟩
  · by_cases hroom : L.length + 1 ≤ cap
    · have hfit : L.length * i0.size + [f.ptr].length ≤ cur.size := by rw [hz1]; have := hr.fit; show L.length * 1 + 1 ≤ _; omega
      have hrn := run_append_room (P := Try.prog) w 26 ty 55 i0 und_tr hi g L.length cap cur hr.blk ad 1 c [f.ptr] (by rw [hz1]; rfl) hnew hone hroom hfit
      have hg : w.grownBy (w.setRow g (cur.toList.take (L.length * i0.size) ++ [f.ptr] ++ cur.toList.drop (L.length * i0.size + [f.ptr].length)).toArray) (some g) :=
        ⟨rfl, rfl, rfl, by simp, fun k _ hk => setRow_other w g k _ (fun e => hk (by rw [e]))⟩
      refine ⟨_, _, hrn, ⟨by rw [List.length_append]; show L.length + 1 ≤ 2000; omega, hfl hg (fun q hq => by obtain rfl := Option.some.inj hq; exact ⟨cur, hr.blk⟩), .inr ⟨g, cap, ((L ++ [f]).map Fl.ptr).toArray ++ (cur.toList.drop (L.length + 1)).toArray, by rw [List.length_append]; rfl, ?_⟩⟩, hg, .inl rfl⟩
      have hblk := setRow_heap w g cur (cur.toList.take (L.length * i0.size) ++ [f.ptr] ++ cur.toList.drop (L.length * i0.size + [f.ptr].length)).toArray 55 (0, 0) hr.blk
      have e : (cur.toList.take (L.length * i0.size) ++ [f.ptr] ++ cur.toList.drop (L.length * i0.size + [f.ptr].length)).toArray = ((L ++ [f]).map Fl.ptr).toArray ++ (cur.toList.drop (L.length + 1)).toArray := by
        rw [hz1, Nat.mul_one, hr.take]
        simp
      rw [e] at hblk ⊢
      refine RowB.of_app hr.low hblk (by rw [List.length_append]; exact hroom) ?_ hr.big
      have := hr.fit
      simp
      omega
    · have holds : ∀ j u, (L.map Fl.ptr)[j]? = some u → w.cell? ((⟨g, 0, none⟩ : Addr).add j) = some u := by
        intro j u hu
        have hj : j < L.length := by have := (List.getElem?_eq_some_iff.1 hu).1; simpa using this
        rw [show (⟨g, 0, none⟩ : Addr).add j = ⟨g, j, none⟩ by rw [Addr.add_lit, Nat.zero_add], hr.cell hj, ← hu]
        simp [List.getD_eq_getElem?_getD, hj]
      have hle := hr.len
      have hrn := run_append_grow (P := Try.prog) w 26 ty 55 i0 (.pointer none) und_tr hi hz0 ⟨g, 0, none⟩ L.length cap (L.map Fl.ptr) (by rw [hz1]; simp) holds ad 1 c [f.ptr] (by rw [hz1]; rfl) hnew (by omega) (by omega) (by rw [hz2]; exact growslice_fits (by omega) (by omega))
      obtain ⟨h1, h2⟩ := grown cap (by omega) (some g) (fun q hq => by obtain rfl := Option.some.inj hq; exact ⟨cur, hr.blk⟩) ((L.map Fl.ptr).toArray ++ [f.ptr].toArray) (by simp)
      exact ⟨_, _, hrn, h1, h2, .inr rfl⟩
/-- A net in its block. -/
def NBx (w : World) (nb : Nat) (now sent : Int) (v : Value) : Prop := w.heap[nb]? = some (.cells #[.int .i64 now, .int .i64 sent, v] 28 (0, 0))
section
variable {w w' : World} {nb : Nat} {now sent : Int} {v : Value}
theorem NBx.lt (h : NBx w nb now sent v) : nb < w.heap.size := lt_of_block h
theorem NBx.c0 (h : NBx w nb now sent v) : w.cell? ⟨nb, 0, none⟩ = some (.int .i64 now) := by unfold NBx at h; simp [World.cell?, h]
theorem NBx.c1 (h : NBx w nb now sent v) : w.cell? ⟨nb, 1, none⟩ = some (.int .i64 sent) := by unfold NBx at h; simp [World.cell?, h]
theorem NBx.c2 (h : NBx w nb now sent v) : w.cell? ⟨nb, 2, none⟩ = some v := by unfold NBx at h; simp [World.cell?, h]
theorem NBx.fz (h : NBx w nb now sent v) (j : Nat) : w.frozen? ⟨nb, j, none⟩ = false := by unfold NBx at h; simp [World.frozen?, h]
theorem NBx.same (h : NBx w nb now sent v) (e : w'.heap[nb]? = w.heap[nb]?) : NBx w' nb now sent v := e.trans h
theorem NBx.set0 (h : NBx w nb now sent v) (x : Int) : NBx (w.setCell ⟨nb, 0, none⟩ (.int .i64 x)) nb x sent v := block_setCell (i := 0) h
theorem NBx.set1 (h : NBx w nb now sent v) (x : Int) : NBx (w.setCell ⟨nb, 1, none⟩ (.int .i64 x)) nb now x v := block_setCell (i := 1) h
theorem NBx.set2 (h : NBx w nb now sent v) (x : Value) : NBx (w.setCell ⟨nb, 2, none⟩ x) nb now sent x := block_setCell (i := 2) h
theorem NBx.ne_row (h : NBx w nb now sent v) {g : Nat} {cs : Array Value} (hg : w.heap[g]? = some (.cells cs 55 (0, 0))) : nb ≠ g := by
  intro e
  unfold NBx at h
  rw [e, hg] at h
  injection h with h
  injection h with _ h
  cases h
theorem NBx.ne_fl (h : NBx w nb now sent v) {f : Fl} (hf : FlB w f) : nb ≠ f.p := by
  intro e
  unfold NBx at h
  unfold FlB at hf
  rw [e, hf] at h
  injection h with h
  injection h with _ h
  cases h
end
/-- What a method leaves alone: all blocks but the net's and its row's. -/
structure FrN (nb : Nat) (r : Option Nat) (w w' : World) : Prop where
  os : w'.os = w.os
  tape : w'.tape = w.tape
  output : w'.output = w.output
  size : w.heap.size ≤ w'.heap.size
  block : ∀ k, k < w.heap.size → k ≠ nb → some k ≠ r → w'.heap[k]? = w.heap[k]?
section
variable {w w' w'' : World} {nb : Nat} {r r' : Option Nat}
theorem FrN.refl (nb : Nat) (r : Option Nat) (w : World) : FrN nb r w w := ⟨rfl, rfl, rfl, Nat.le_refl _, fun _ _ _ _ => rfl⟩
theorem FrN.trans (h : FrN nb r w w') (k : FrN nb r' w' w'') (hr : r' = r ∨ ∃ q, r' = some q ∧ w.heap.size ≤ q) : FrN nb r w w'' :=
  ⟨k.os.trans h.os, k.tape.trans h.tape, k.output.trans h.output, Nat.le_trans h.size k.size, fun b hb h1 h2 => (k.block b (Nat.lt_of_lt_of_le hb h.size) h1 (by
    rcases hr with rfl | ⟨q, rfl, hq⟩
    · exact h2
    · intro e; have := Option.some.inj e; omega)).trans (h.block b hb h1 h2)⟩
theorem FrN.of_grown (h : w.grownBy w' r) : FrN nb r w w' := ⟨h.os, h.tape, h.output, h.size, fun b hb _ h2 => h.block b hb h2⟩
theorem FrN.of_below (h : Below w.heap.size w w') : FrN nb r w w' := ⟨h.os, h.tape, h.output, h.size, fun b hb _ _ => h.block b hb⟩
theorem FrN.set (h : FrN nb r w w') {i : Nat} {u : Value} : FrN nb r w (w'.setCell ⟨nb, i, none⟩ u) :=
  ⟨h.os, h.tape, h.output, by simpa using h.size, fun b hb h1 h2 => (Below.heap_setCell w' ⟨nb, i, none⟩ u b h1).trans (h.block b hb h1 h2)⟩
theorem FrN.setR {g : Nat} (h : FrN nb (some g) w w') {i : Nat} {u : Value} : FrN nb (some g) w (w'.setCell ⟨g, i, none⟩ u) :=
  ⟨h.os, h.tape, h.output, by simpa using h.size, fun b hb h1 h2 => (Below.heap_setCell w' ⟨g, i, none⟩ u b (fun e => h2 (by rw [e]))).trans (h.block b hb h1 h2)⟩
theorem FrN.below (h : FrN nb r w w') {base : Nat} (h1 : base ≤ nb) (h2 : ∀ q, r = some q → base ≤ q) (h3 : base ≤ w.heap.size) : Below base w w' :=
  ⟨h.os, h.tape, h.output, h.size, fun b hb => h.block b (by omega) (by omega) (fun e => by have := h2 b e.symm; omega)⟩
end
end Go.Proofs.Ytfijidaohlnphaa
