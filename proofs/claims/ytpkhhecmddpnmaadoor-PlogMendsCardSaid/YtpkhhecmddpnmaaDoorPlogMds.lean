/- Open of a log that wants nothing written; what a Mend writes. No conditions beyond those in each statement. -/
import Derived.Test.YtpkhhecmddpnmaaDoorPlogAgn
import Derived.Test.YtpkhhecmddpnmaaDoorPlogPow
import Derived.Test.YtpkhhecmddpnmaaDoorPlogMnd
namespace Go.Proofs.YtpkhhecmddpnmaaDoor
open Go.RowKit
set_option linter.unusedVariables false
set_option maxRecDepth 100000

theorem mend_writes (D : Dv) (L : Lg) (x : En) : (D.mendV L x).2.writes ≤ D.writes + 2 := by
  have hl : (mendL D L x).length ≤ 1 := by
    unfold mendL
    split
    · exact Nat.zero_le _
    · exact Nat.le_refl 1
  have h1 := wr_writes L (mendL D L x) D
  have h2 := wr_writes L [mkR x] (D.wr L (mendL D L x)).2
  unfold Dv.mendV
  split
  · show D.writes ≤ _; omega
  · split
    · omega
    · simp at h2; omega
theorem MM_none {xs : List En} {g m : Nat → Bool} (h : ∀ i, g i = true → m i = true) : ∀ j, MM xs g m j = []
  | 0 => rfl
  | j + 1 => by
    unfold MM
    split
    · rw [if_neg (fun e => by have := h j e.1; rw [e.2] at this; cases this), MM_none h j]
    · exact MM_none h j
theorem pass_id (L : Lg) (kd : Int) {D : Dv} (h : Live D) {M : Nat} (G : Geo L M) (hm : D.bs.length = M) (hk : kd = 2 ∨ kd = 3) : ∀ (is : List Int) (wt : Bool), (∀ i ∈ is, (cont D (L.at kd i)).2 ≠ 2 ∧ (cont D (L.at kd i)).1.index < i) → Dv.pass L kd is D wt = (0, D, wt)
  | [], wt, _ => rfl
  | i :: l, wt, hi => by
    have h1 := hi i (by simp)
    have es := G.sread h hm hk i
    rw [pass_skip (by rw [es]) (by rw [es]; exact h1.1) (by rw [es]; exact h1.2)]
    exact pass_id L kd h G hm hk l wt (fun s hs => hi s (List.mem_cons_of_mem _ hs))
theorem opn_id {L : Lg} {xs : List En} {M sz : Nat} {D : Dv} (h : Live D) (G : Geo L M) (hm : D.bs.length = M) (R : Ents L xs) (hsz : L.size = (sz : Int)) (hf : Freed L (cont D)) : D.opn L xs.length [] = (0, D) := by
  have hcn := R.cnt
  have hfi := R.fits
  have hidx : ∀ i ∈ idxs (L.first + (xs.length : Int)) (L.size - (xs.length : Int)).toNat, FreeAt L (cont D) i := fun i hi => by
    have := mem_idxs.1 hi
    exact hf i (by omega) (by omega)
  have h3 : D.clean1 L 3 (idxs (L.first + (xs.length : Int)) (L.size - (xs.length : Int)).toNat) = (0, D) := by
    unfold Dv.clean1
    rw [pass_id L 3 h G hm (.inr rfl) _ false (fun i hi => (hidx i hi).2)]
    rfl
  have h2 : D.clean1 L 2 (idxs (L.first + (xs.length : Int)) (L.size - (xs.length : Int)).toNat) = (0, D) := by
    unfold Dv.clean1
    rw [pass_id L 2 h G hm (.inl rfl) _ false (fun i hi => (hidx i hi).1)]
    rfl
  unfold Dv.opn
  have h1 : D.opn1 L [] = (0, D) := rfl
  rw [h1, if_neg (by simp)]
  unfold Dv.clean
  show (if _ then _ else _) = _
  rw [h3, if_neg (by simp)]
  show (if _ then _ else _) = _
  rw [h2, if_neg (by simp)]
  rfl
theorem lo_open_id {n : Nat} {E : Nat → Prop} {w : World} {B M : Nat} {D : Dv} {base first : Int} {sz : Nat} {xs : List En} {g m : Nat → Bool} (hW : DevW n E w B D) (h : Harmd D ⟨base, sz, first, xs.length⟩ xs g m M) (hfr : Freed ⟨base, sz, first, xs.length⟩ (cont D)) (hmm : ∀ i, g i = true → m i = true) (hM : M ≤ 4096) (hn : n ≤ w.heap.size) (ht : ∀ x, Below n w x → Tabs x) :
    Calls Tryd.prog 37 #[.pointer (some ⟨B, 0, none⟩), .int .i64 base, .int .i64 sz, .int .i64 first] w fun e w' => ∃ b bt bd, e = .returned (.tuple #[.pointer (some ⟨b, 0, none⟩), .int .i64 0]) ∧
      LogW n (fun k => E k ∨ k = b ∨ k = bt ∨ k = bd) w' b B bt bd D ⟨base, sz, first, xs.length⟩ 10000 (TT first xs g m xs.length) (HH first g xs.length) ∧ Below n w w' ∧ Kept E w w' ∧ w.heap.size ≤ b := by
  obtain ⟨_, e1, _, _, _, _, _⟩ := open_math (sz := sz) h.geo h.len h.calm h.ents h.lay rfl h.stop
  rw [MM_none hmm] at e1
  have hb := h.geo.base; have hs := h.geo.size; have hr := h.geo.room; have hf1 := h.ents.first; have hhi := h.ents.high; have hfi := h.ents.fits
  have hle := h.len
  simp only at hb hs hr hf1 hhi hfi
  refine (popen_any base first sz hW hn ht (by rw [h.calm.writes]; decide) ⟨⟨by omega, by show (sz : Int) ≤ 4096; omega⟩, ⟨hb, by show base ≤ 4096; omega⟩, ⟨hf1, by show first ≤ _; omega⟩, ⟨Int.le_refl 0, by show (0 : Int) ≤ (sz : Int); omega⟩⟩ ?_ (by omega) (fun i => lgread_inR D _ i) ⟨xs.length, TT first xs g m xs.length, HH first g xs.length, []⟩ ?_ (by show xs.length ≤ sz; omega) ?_ ?_ (0, D) (opn_id h.calm.toLive h.geo h.len h.ents rfl hfr).symm).mono ?_
  · unfold fitsF
    rw [Int.tdiv_eq_ediv_of_nonneg (by omega)]
    simp only [decide_eq_true_eq]
    refine ⟨hb, by omega, by omega⟩
  · rw [← ld_count D ⟨base, sz, first, 0⟩ (xs.length : Int)]
    exact e1
  · intro r hr'
    cases hr'
  · show (0 : Nat) ≤ 10000; decide
  · rintro e w' ⟨b, bt, bd, rfl, W, hbl, hk, hsz⟩
    exact ⟨b, bt, bd, rfl, W, hbl, hk, hsz⟩
theorem freed_lose {L : Lg} {xs : List En} {M k : Nat} {D : Dv} {x : En} {g m : Nat → Bool} (h : Harmd D L xs g m M) (hx : xs[k]? = some x) (hf : Freed L (cont D)) {kd : Int} (hk : kd = 2 ∨ kd = 3) : Freed L (cont (D.onB (L.blk kd x.index) Blk.lose)) := by
  obtain ⟨hlt, hb⟩ := h.geo.lt hk x.index
  rw [hb, (on_cont (D := D) Blk.lose (by rw [h.len]; exact hlt)).2.2.2.2]
  exact hf.put h.ents h.geo hk hx _
theorem fts_one (w : World) (z : Int) : Fts (w.alloc (.cells #[.int .i64 z] 84)) (.slice (some ⟨w.heap.size, 0, none⟩) 1 1) [z] := by
  refine ⟨_, 1, rfl, by unfold maxLen; simp, .inr ⟨w.heap.size, 0, rfl, by simp, fun j hj => ?_⟩⟩
  obtain rfl : j = 0 := by simpa using hj
  exact cell_of (i := 0) (heap_alloc_new w _) rfl
end Go.Proofs.YtpkhhecmddpnmaaDoor
