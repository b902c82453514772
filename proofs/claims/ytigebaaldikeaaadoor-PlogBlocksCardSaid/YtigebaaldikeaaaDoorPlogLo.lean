/- Entries that are damaged, and mended, on a device in plain words; no program. A log whose damage is known: what Hurt, Scrub, Drop, Cut make of it. No conditions beyond those in each statement. -/
import Derived.Test.YtigebaaldikeaaaDoorPlogMnw
import Derived.Test.YtigebaaldikeaaaDoorPlogNew
namespace Go.Proofs.YtigebaaldikeaaaDoor
section
set_option linter.unusedVariables false
set_option maxRecDepth 100000

def updB (g : Nat → Bool) (j : Nat) (q : Bool) : Nat → Bool := fun k => if k = j then q else g k
theorem updB_same (g : Nat → Bool) (j : Nat) (q : Bool) : updB g j q j = q := by unfold updB; rw [if_pos rfl]
theorem updB_other {g : Nat → Bool} {j k : Nat} {q : Bool} (h : k ≠ j) : updB g j q k = g k := by unfold updB; rw [if_neg h]
/-- Damage of a block: what was pending is pending still, and it reads as damaged. -/
structure Hits (f : Blk → Blk) (b : Blk) : Prop where
  pend : (f b).pending = b.pending
  bad : rd (f b) = (rc0, 2)
section
variable {L : Lg} {xs : List En} {g m : Nat → Bool} {M : Nat} {D : Dv} {C : Ct} {j : Nat} {x : En}
theorem Lay.set2 (h : Lay L C xs g m) (R : Ents L xs) (G : Geo L M) (hx : xs[j]? = some x) (q : Bool) : Lay L (put2 C (L.at 2 x.index) (if q = true then (entR x, 1) else (rc0, 2))) xs (updB g j q) m := by
  refine ⟨fun k y hy => ?_, fun k y hy => ?_⟩
  · by_cases hk : k = j
    · subst hk
      rw [hx] at hy
      obtain rfl := Option.some.inj hy
      rw [put2_same, updB_same]
    · rw [put2_other (fun e => hk (R.same G (.inl rfl) hy hx e).1), updB_other hk]
      exact h.ent k y hy
  · rw [put2_other (fun e => G.ne _ _ e.symm)]
    exact h.mrk k y hy
theorem Lay.set3 (h : Lay L C xs g m) (R : Ents L xs) (G : Geo L M) (hx : xs[j]? = some x) (q : Bool) : Lay L (put2 C (L.at 3 x.index) (if q = true then (mkR x, 1) else (rc0, 2))) xs g (updB m j q) := by
  refine ⟨fun k y hy => ?_, fun k y hy => ?_⟩
  · rw [put2_other (fun e => G.ne _ _ e)]
    exact h.ent k y hy
  · by_cases hk : k = j
    · subst hk
      rw [hx] at hy
      obtain rfl := Option.some.inj hy
      rw [put2_same, updB_same]
    · rw [put2_other (fun e => hk (R.same G (.inr rfl) hy hx e).1), updB_other hk]
      exact h.mrk k y hy
theorem Freed.put (h : Freed L C) (R : Ents L xs) (G : Geo L M) {kd : Int} (hk : kd = 2 ∨ kd = 3) (hx : xs[j]? = some x) (v : Rc × Int) : Freed L (put2 C (L.at kd x.index) v) := fun i h1 h2 => by
  have h2' : L.at 2 i ≠ L.at kd x.index := by
    rcases hk with rfl | rfl
    · exact R.apart G (.inl rfl) hx h1 h2
    · exact G.ne _ _
  have h3' : L.at 3 i ≠ L.at kd x.index := by
    rcases hk with rfl | rfl
    · exact fun e => G.ne _ _ e.symm
    · exact R.apart G (.inr rfl) hx h1 h2
  unfold FreeAt
  rw [put2_other h2', put2_other h3']
  exact h i h1 h2
theorem on_calm (h : Calm D) {k : Nat} (hk : k < D.bs.length) {f : Blk → Blk} (hf : (f (D.bs[k]?.getD blk0)).pending = (D.bs[k]?.getD blk0).pending) : Calm (D.onB (k : Int) f) := by
  obtain ⟨h1, h2, h3, h4, _⟩ := on_cont (D := D) f hk
  refine ⟨⟨h3.trans h.down, h4.trans h.fall⟩, fun b hb => ?_, h2.trans h.writes⟩
  rw [onB_at rfl (at_lt hk)] at hb
  rcases List.mem_or_eq_of_mem_set hb with hb | rfl
  · exact h.pend b hb
  · rw [hf]
    exact h.pend _ (List.mem_of_getElem? (at_lt hk))
theorem Harmd.hit2 (h : Harmd D L xs g m M) (hx : xs[j]? = some x) {f : Blk → Blk} (hf : Hits f (D.bs[L.at 2 x.index]?.getD blk0)) : Harmd (D.onB (L.blk 2 x.index) f) L xs (updB g j false) m M := by
  obtain ⟨hlt, hb⟩ := h.geo.lt (.inl rfl) x.index
  rw [hb]
  have hlt' : L.at 2 x.index < D.bs.length := by rw [h.len]; exact hlt
  obtain ⟨h1, _, _, _, h5⟩ := on_cont (D := D) f hlt'
  refine ⟨h.geo, h1.trans h.len, on_calm h.calm hlt' hf.pend, h.ents, ?_, ?_⟩
  · rw [h5, hf.bad]
    have := h.lay.set2 h.ents h.geo hx false
    rw [if_neg (by decide)] at this
    exact this
  · rw [h5]
    exact h.stop.put h.ents h.geo (.inl rfl) hx _
theorem Harmd.hit3 (h : Harmd D L xs g m M) (hx : xs[j]? = some x) {f : Blk → Blk} (hf : Hits f (D.bs[L.at 3 x.index]?.getD blk0)) : Harmd (D.onB (L.blk 3 x.index) f) L xs g (updB m j false) M := by
  obtain ⟨hlt, hb⟩ := h.geo.lt (.inr rfl) x.index
  rw [hb]
  have hlt' : L.at 3 x.index < D.bs.length := by rw [h.len]; exact hlt
  obtain ⟨h1, _, _, _, h5⟩ := on_cont (D := D) f hlt'
  refine ⟨h.geo, h1.trans h.len, on_calm h.calm hlt' hf.pend, h.ents, ?_, ?_⟩
  · rw [h5, hf.bad]
    have := h.lay.set3 h.ents h.geo hx false
    rw [if_neg (by decide)] at this
    exact this
  · rw [h5]
    exact h.stop.put h.ents h.geo (.inr rfl) hx _
theorem hits_lose (b : Blk) : Hits Blk.lose b := ⟨rfl, rd_lose b⟩
theorem hits_flip {b : Blk} {r : Rc} (hp : b.pending = []) (h : rd b = (r, 1)) (hs : b.spoiled = false) (at' : Int) {bt : Nat} (h0 : bt ≠ 0) (hb : bt < 256) : Hits (fun b => b.flip at' bt) b := ⟨flip_pending b at' bt, rd_flip hp h hs at' h0 hb⟩
/-- The damage of law 6. -/
def harmB (at' : Int) (bt : Nat) : Blk → Blk := fun b => if bt = 0 then b.lose else b.flip at' bt
theorem hits_harm {b : Blk} {r : Rc} (hp : b.pending = []) (h : rd b = (r, 1)) (hs : b.spoiled = false) (at' : Int) {bt : Nat} (hb : bt < 256) : Hits (harmB at' bt) b := by
  by_cases h0 : bt = 0
  · have e : harmB at' bt = Blk.lose := by funext b; unfold harmB; rw [if_pos h0]
    rw [e]; exact hits_lose b
  · have e : harmB at' bt = fun b => b.flip at' bt := by funext b; unfold harmB; rw [if_neg h0]
    rw [e]; exact hits_flip hp h hs at' h0 hb
/-- Mend, the device up. -/
theorem Harmd.mend (h : Harmd D L xs g m M) (hx : xs[j]? = some x) : ∃ D', D.mendV L x = (0, D') ∧ Harmd D' L xs (updB g j true) (updB m j true) M ∧ (Freed L (cont D) → Freed L (cont D')) := by
  have G := h.geo
  have R := h.ents
  obtain ⟨_, _, a1, _, a2, _⟩ := R.at hx
  have hok := R.ok x (List.mem_of_getElem? hx)
  have hs := G.sread h.calm.toLive h.len (.inl rfl) x.index
  have h1 : ∃ D1, D.wr L (mendL D L x) = (0, D1) ∧ Calm D1 ∧ D1.bs.length = M ∧ Lay L (cont D1) xs (updB g j true) m ∧ Stop L (cont D1) xs ∧ (Freed L (cont D) → Freed L (cont D1)) := by
    unfold mendL
    by_cases he : (D.sread (L.blk 2 x.index)).1 = entR x
    · rw [if_pos he]
      obtain ⟨D1, e, c, n, k⟩ := flush_cont h.calm.toLive
      have hg : g j = true := by
        rw [hs, h.lay.ent j x hx] at he
        cases hg : g j with
        | true => rfl
        | false => rw [hg] at he; exact absurd (congrArg Rc.kind he) (by simp [rc0, entR])
      have eg : updB g j true = g := by
        funext k
        by_cases hk : k = j
        · subst hk; rw [updB_same, hg]
        · rw [updB_other hk]
      refine ⟨D1, e, c, n.trans h.len, ?_, by rw [k]; exact h.stop, fun hf => by rw [k]; exact hf⟩
      rw [k, eg]
      exact h.lay
    · rw [if_neg he]
      obtain ⟨D1, e, c, n, k⟩ := wr_cont L [entR x] D h.calm.toLive (fun r hr => by
        rw [List.mem_singleton.1 hr, h.len]
        exact ⟨entR_ok a1 a2 hok, G.in (.inl rfl) _⟩)
      have k' : cont D1 = put2 (cont D) (L.at 2 x.index) (entR x, 1) := k
      refine ⟨D1, e, c, n.trans h.len, ?_, by rw [k']; exact h.stop.put R G (.inl rfl) hx _, fun hf => by rw [k']; exact hf.put R G (.inl rfl) hx _⟩
      have := h.lay.set2 R G hx true
      rw [if_pos rfl] at this
      rw [k']
      exact this
  obtain ⟨D1, e1, c1, n1, l1, s1, f1⟩ := h1
  obtain ⟨D2, e2, c2, n2, k2⟩ := wr_cont L [mkR x] D1 c1.toLive (fun r hr => by
    rw [List.mem_singleton.1 hr, n1]
    exact ⟨mkR_ok a1 a2 hok, G.in (.inr rfl) _⟩)
  have k' : cont D2 = put2 (cont D1) (L.at 3 x.index) (mkR x, 1) := k2
  refine ⟨D2, ?_, ⟨G, n2.trans n1, c2, R, ?_, by rw [k']; exact s1.put R G (.inr rfl) hx _⟩, fun hf => by rw [k']; exact (f1 hf).put R G (.inr rfl) hx _⟩
  · unfold Dv.mendV
    rw [hs, if_neg (by simp), e1, if_neg (by simp)]
    exact e2
  · have := l1.set3 R G hx true
    rw [if_pos rfl] at this
    rw [k']
    exact this
end
end
section
open Go.RowKit
set_option linter.unusedVariables false
set_option maxRecDepth 100000

theorem i64_and255 (n : Int) : bits .and .i64 n 255 = n % 256 := by
  have h127 : (BitVec.ofInt 64 255).toNat = 2 ^ 8 - 1 := by decide
  have key : (BitVec.ofInt 64 n &&& BitVec.ofInt 64 255).toNat = (n % ((2 ^ 64 : Nat) : Int)).toNat % 2 ^ 8 := by
    rw [BitVec.toNat_and, BitVec.toNat_ofInt, h127, Nat.and_two_pow_sub_one_eq_mod]
  show IntKind.i64.wrap ((BitVec.ofInt 64 n &&& BitVec.ofInt 64 255).toNat : Nat) = n % 256
  rw [key, IntKind.wrap_i64]
  omega
theorem i64_and63 (n : Int) : bits .and .i64 n 63 = n % 64 := by
  have h127 : (BitVec.ofInt 64 63).toNat = 2 ^ 6 - 1 := by decide
  have key : (BitVec.ofInt 64 n &&& BitVec.ofInt 64 63).toNat = (n % ((2 ^ 64 : Nat) : Int)).toNat % 2 ^ 6 := by
    rw [BitVec.toNat_and, BitVec.toNat_ofInt, h127, Nat.and_two_pow_sub_one_eq_mod]
  show IntKind.i64.wrap ((BitVec.ofInt 64 n &&& BitVec.ofInt 64 63).toNat : Nat) = n % 64
  rw [key, IntKind.wrap_i64]
  omega
theorem IsMin.uniq {S : Int → Bool} {a c : Int} (h : IsMin S a) (h' : IsMin S c) : a = c := by
  rcases h with ⟨rfl, h⟩ | ⟨_, r, t, l⟩ <;> rcases h' with ⟨rfl, h'⟩ | ⟨_, r', t', l'⟩
  · rfl
  · rw [h c r'] at t'; cases t'
  · rw [h' a r] at t; cases t
  · have := l c r' t'; have := l' a r t; omega
/-- Entries of one term, from index 1 on. -/
def entsT (t : Int) (n : Nat) : List En := (List.range n).map fun k : Nat => ⟨(k : Int) + 1, t, ⟨#[]⟩⟩
theorem entsT_length (t : Int) (n : Nat) : (entsT t n).length = n := by simp [entsT]
theorem entsT_succ (t : Int) (n : Nat) : entsT t (n + 1) = entsT t n ++ [⟨(n : Int) + 1, t, ⟨#[]⟩⟩] := by unfold entsT; rw [List.range_succ, List.map_append]; rfl
theorem entsT_at {t : Int} {n k : Nat} (h : k < n) : (entsT t n)[k]? = some ⟨(k : Int) + 1, t, ⟨#[]⟩⟩ := by unfold entsT; rw [List.getElem?_map, List.getElem?_range h]; rfl
section
variable {n : Nat} {E : Nat → Prop} {w : World} {b B bt bd M k : Nat} {base size first : Int} {xs : List En} {D : Dv} {T : Int → Option Int} {S : Int → Bool} {g m : Nat → Bool}
theorem hh_min {j : Nat} {f v : Int} (hf : 1 ≤ f ∧ f + (j : Int) ≤ 9223372036854775807) (hm : (v = 0 ∧ ∀ i, i < j → g i = true) ∨ ∃ i, i < j ∧ g i = false ∧ (∀ k, k < i → g k = true) ∧ v = f + (i : Int)) : IsMin (HH f g j) v := by
  rcases hm with ⟨rfl, hg⟩ | ⟨i, h1, h2, h3, rfl⟩
  · left
    refine ⟨rfl, fun z _ => ?_⟩
    cases hz : HH f g j z with
    | false => rfl
    | true => obtain ⟨k, _, hk, hb⟩ := HH_inv hz; rw [hg k hk] at hb; cases hb
  · right
    refine ⟨by omega, ⟨by omega, by omega⟩, by rw [HH_at h1, h2]; rfl, fun z _ hz => ?_⟩
    obtain ⟨k, rfl, hk, hb⟩ := HH_inv hz
    by_cases hki : k < i
    · rw [h3 k hki] at hb; cases hb
    · omega
theorem phurt_is {L : Lg} (hW : LogW n E w b B bt bd D L k T S) {v : Int} (hv : IsMin S v) (hp : ∀ z, InR z → S z = true → z ≠ 0) (W : World) (hb : Below w.heap.size w W) :
    Calls Tryd.prog 25 #[.pointer (some ⟨b, 0, none⟩)] W fun e w' => e = .returned (.int .i64 v) ∧ Below W.heap.size W w' := by
  refine (phurt_any (hW.log.below hb) (hW.hurts.below hb) hp).mono ?_
  rintro e w' ⟨c, rfl, hc, hbl⟩
  exact ⟨by rw [hv.uniq hc], hbl⟩
theorem HH_pos {f : Int} {j : Nat} (hf : 1 ≤ f) : ∀ z, InR z → HH f g j z = true → z ≠ 0 := fun z _ h => by obtain ⟨k, hk, _⟩ := HH_inv h; omega
theorem HH_drop {f : Int} {j c : Nat} (hc : c ≤ j) : cutS (HH f g j) f c = HH (f + (c : Int)) (fun k => g (c + k)) (j - c) := by
  funext z
  unfold cutS HH
  by_cases h : f ≤ z ∧ z < f + (c : Int)
  · rw [if_pos h, show decide (f + (c : Int) ≤ z ∧ z < f + (c : Int) + ((j - c : Nat) : Int)) = false by simp; omega]
    rfl
  · rw [if_neg h]
    by_cases h2 : f ≤ z ∧ z < f + (j : Int)
    · rw [show decide (f ≤ z ∧ z < f + (j : Int)) = true by simpa using h2, show decide (f + (c : Int) ≤ z ∧ z < f + (c : Int) + ((j - c : Nat) : Int)) = true by simp; omega]
      show _ = (true && !g (c + (z - (f + (c : Int))).toNat))
      rw [show c + (z - (f + (c : Int))).toNat = (z - f).toNat by omega]
    · rw [show decide (f ≤ z ∧ z < f + (j : Int)) = false by simpa using h2, show decide (f + (c : Int) ≤ z ∧ z < f + (c : Int) + ((j - c : Nat) : Int)) = false by simp; omega]
      rfl
theorem HH_cut {f : Int} {j c : Nat} (hg : ∀ k, k < c → g k = true) : cutS (HH f g j) (f + (c : Int)) (j - c) = fun _ => false := by
  funext z
  unfold cutS
  split
  · rfl
  · cases hz : HH f g j z with
    | false => rfl
    | true =>
      obtain ⟨k, rfl, hk, hb⟩ := HH_inv hz
      by_cases hkc : k < c
      · rw [hg k hkc] at hb; cases hb
      · omega
theorem ho_fit (G : Geo ⟨base, size, first, (xs.length : Int)⟩ M) (R : Ents ⟨base, size, first, (xs.length : Int)⟩ xs) (hM : M ≤ 4096) : Lg.Fit ⟨base, size, first, (xs.length : Int)⟩ := by
  have hs := G.size; have hr := G.room; have hb := G.base; have hf1 := R.first; have hhi := R.high; have hfi := R.fits
  simp only at hs hr hb hf1 hhi hfi
  exact ⟨⟨hs, by show size ≤ _; omega⟩, ⟨hb, by show base ≤ _; omega⟩, ⟨hf1, by show first ≤ _; omega⟩, ⟨by show (0 : Int) ≤ (xs.length : Int); omega, hfi⟩⟩
theorem lo_scrub (hW : LogW n E w b B bt bd D ⟨base, size, first, xs.length⟩ k T (fun _ => false)) (h : Harmd D ⟨base, size, first, xs.length⟩ xs g m M) (hT : Sane xs first T) (hM : M ≤ 4096) (hn : n ≤ w.heap.size) (ht : ∀ x, Below n w x → Tabs x) (hk : k < 900000000) :
    Calls Tryd.prog 23 #[.pointer (some ⟨b, 0, none⟩)] w fun e w' => e = .returned (.tuple #[]) ∧ LogW n E w' b B bt bd D ⟨base, size, first, xs.length⟩ (k + xs.length) T (HH first g xs.length) ∧ Below n w w' ∧ Kept (But E b bt bd) w w' := by
  refine (pscrub_any xs.length hW hn ht (by rw [h.calm.writes]; decide) (ho_fit h.geo h.ents hM) rfl hk (hT.inR h.ents.ok)).mono ?_
  rintro e w' ⟨rfl, W, hb, hk'⟩
  rw [scrub_is h hT] at W
  exact ⟨rfl, W, hb, hk'⟩
theorem lo_drop (hW : LogW n E w b B bt bd D ⟨base, size, first, xs.length⟩ k T S) (hf : Lg.Fit ⟨base, size, first, xs.length⟩) {f : Int} (c : Nat) (hc : c ≤ xs.length) (hfc : f = first + (c : Int)) (hn : n ≤ w.heap.size) :
    Calls Tryd.prog 40 #[.pointer (some ⟨b, 0, none⟩), .int .i64 f] w fun e w' => e = .returned (.int .i64 0) ∧ LogW n E w' b B bt bd D ⟨base, size, f, (xs.drop c).length⟩ k (cutT T first c) (cutS S first c) ∧ Below n w w' ∧ Kept (But E b bt bd) w w' := by
  have h1 := hf.first; have h2 := hf.count; have h3 := hf.size
  simp only at h1 h2 h3
  have hh : (⟨base, size, first, xs.length⟩ : Lg).hasNext f = true := by simp [Lg.hasNext]; omega
  refine (pdrop_any f hW hn hf ⟨by omega, by omega⟩).mono ?_
  rintro e w' ⟨rfl, W, hb, hk'⟩
  rw [if_pos hh, if_pos hh, if_pos hh] at W
  refine ⟨by rw [if_pos hh], ?_, hb, hk'⟩
  have e1 : (f - first).toNat = c := by omega
  have e2 : (xs.length : Int) - (f - first) = ((xs.drop c).length : Int) := by rw [List.length_drop]; omega
  simp only at W
  rw [e1, e2] at W
  exact W
theorem lo_cut (hW : LogW n E w b B bt bd D ⟨base, size, first, xs.length⟩ k T S) (h : Harmd D ⟨base, size, first, xs.length⟩ xs g m M) (hM : M ≤ 4096) {f : Int} (c : Nat) (hc : c ≤ xs.length) (hfc : f = first + (c : Int)) (hn : n ≤ w.heap.size) (ht : ∀ x, Below n w x → Tabs x) :
    Calls Tryd.prog 39 #[.pointer (some ⟨b, 0, none⟩), .int .i64 f] w fun e w' => e = .returned (.int .i64 0) ∧ (∃ D', LogW n E w' b B bt bd D' ⟨base, size, first, ((xs.take c).length : Int)⟩ k (cutT T f (xs.length - c)) (cutS S f (xs.length - c))) ∧ Below n w w' ∧ Kept (But E b bt bd) w w' := by
  have hf := ho_fit h.geo h.ents hM
  have h1 := hf.first; have h2 := hf.count; have h3 := hf.size
  simp only at h1 h2 h3
  have hh : (⟨base, size, first, xs.length⟩ : Lg).hasNext f = true := by simp [Lg.hasNext]; omega
  obtain ⟨D', e, c', n', k'⟩ := clean_cont ⟨base, size, first, xs.length⟩ (idxs f (first + (xs.length : Int) - f).toNat) h.calm (by rw [h.len]; exact fun kd hk i _ => h.geo.in hk i)
  have e1 : (first + (xs.length : Int) - f).toNat = xs.length - c := by omega
  have e2 : f - first = ((xs.take c).length : Int) := by rw [List.length_take]; omega
  refine (pcut_any f hW hn ht (by rw [h.calm.writes]; decide) hf ⟨by omega, by omega⟩ (0, D') (by rw [if_pos hh]; exact e.symm) ⟨base, size, first, f - first⟩ _ _ (by rw [if_pos rfl]) rfl rfl).mono ?_
  rintro e w' ⟨rfl, W, hb, hk'⟩
  rw [if_pos rfl, if_pos rfl] at W
  simp only at W
  rw [e1, e2] at W
  exact ⟨rfl, ⟨D', W⟩, hb, hk'⟩
end
end
end Go.Proofs.YtigebaaldikeaaaDoor
