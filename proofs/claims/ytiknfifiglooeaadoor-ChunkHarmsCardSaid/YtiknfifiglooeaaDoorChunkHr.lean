/- Law 7's harms: the map of damaged chunks, a device of which some chunks are damaged, Scrub with one copy of the list lost. No conditions beyond those in each statement. -/
import Derived.Test.YtiknfifiglooeaaDoorChunkHo
import Derived.Test.YtiknfifiglooeaaDoorChunkAc
import Derived.Test.YtiknfifiglooeaaDoorChunkSc
import Derived.Test.YtiknfifiglooeaaDoorRegP
import Derived.Maps.OwnSet
import Derived.Maps.RangeWalk
namespace Go.Proofs.YtiknfifiglooeaaDoor
section
open Go.RowKit
set_option linter.unusedVariables false
set_option maxRecDepth 100000

theorem rd_flip7 {b : Blk} {r : Rc} (hp : b.pending = []) (h : rd b = (r, 1)) (hs : b.spoiled = false) (at' : Int) {bt : Nat} (h0 : bt ≠ 0) (hb : bt < 256) : rd (b.flip at' bt) = (rc0, 2) := by
  obtain ⟨ho, hl, hd⟩ := rd_one hp h
  have hsz := bytes_size ho
  have e : b.flip at' bt = ⟨flipS r.bytes at' bt, true, false, []⟩ := by
    unfold Blk.flip
    rw [if_neg]
    · rw [hd, hl, hp]
    · rintro (h | h | h)
      · exact h0 h
      · rw [hd] at h; omega
      · rw [hs] at h; cases h
  rw [e]
  unfold rd
  rw [if_neg (show ¬ (false = true) by decide), contents_nil rfl]
  exact get_flipped ho at' bt h0 hb
theorem flip_pend7 (b : Blk) (at' : Int) (bt : Nat) : (b.flip at' bt).pending = b.pending := by
  unfold Blk.flip
  split <;> rfl
/-- No block is spoiled. -/
def Cln (D : Dv) : Prop := ∀ b ∈ D.bs, b.spoiled = false
theorem Cln.of {D D' : Dv} (h : Cln D) (e : D'.bs = D.bs) : Cln D' := by unfold Cln; rw [e]; exact h
theorem cln_write {D : Dv} (h : Cln D) (i : Int) (s : ByteArray) : Cln (D.write i s).2 := by
  unfold Dv.write
  split
  · split
    · exact h.of D.op_bs
    · rename_i b hb
      split
      · exact h.of D.op_bs
      · intro d hd
        rcases List.mem_or_eq_of_mem_set hd with h1 | rfl
        · exact h d h1
        · have hb' : D.bs[i.toNat]? = some b := by
            split at hb
            · exact hb
            · cases hb
          exact h b (List.mem_of_getElem? hb')
  · exact h.of D.op_bs
theorem cln_swrite {D : Dv} (h : Cln D) (i : Int) (r : Rc) : Cln (D.swrite i r).2 := by
  unfold Dv.swrite
  split
  · exact cln_write h i _
  · exact h
theorem cln_flush {D : Dv} (h : Cln D) : Cln D.flush.2 := by
  unfold Dv.flush
  split
  · intro d hd
    obtain ⟨b, hb, rfl⟩ := List.mem_map.1 (show d ∈ D.op.bs.map Blk.flush from hd)
    rw [D.op_bs] at hb
    unfold Blk.flush
    split
    · exact h b hb
    · rfl
  · exact h.of D.op_bs
theorem cln_one {D : Dv} (h : Cln D) (i : Int) (r : Rc) : Cln (D.one i r).2 := by
  unfold Dv.one
  split
  · exact cln_flush (cln_swrite h i r)
  · exact cln_swrite h i r
theorem cln_pair {D : Dv} (h : Cln D) (x y : Int) (r : Rc) : Cln (D.pair x y r).2 := by
  unfold Dv.pair
  split
  · exact cln_one (cln_one h x r) y r
  · exact cln_one h x r
theorem cln_wrs (q i : Int) : ∀ (cs : List ByteArray) (D : Dv) (k : Nat), Cln D → Cln (Dv.wrs q i D k cs).2
  | [], D, k, h => h
  | c :: cs, D, k, h => by
    unfold Dv.wrs
    split
    · exact cln_wrs q i cs _ _ (cln_swrite h _ _)
    · exact cln_swrite h _ _
theorem cln_putP {D : Dv} (h : Cln D) (base i0 area i t : Int) (s : ByteArray) : Cln (putP D base i0 area i t s).2 := by
  unfold putP Dv.put7
  have h1 := cln_wrs (base + nextA i0 area * 66 + 2) i (cutS s) D 0 h
  split
  · split
    · exact cln_pair (cln_flush h1) _ _ _
    · exact cln_flush h1
  · exact h1
theorem cln_new (m : Nat) : Cln (Dv.new (m : Int)) := fun b hb => by
  have : b ∈ List.replicate (howMany (m : Int)) blk0 := hb
  rw [List.eq_of_mem_replicate this]; rfl

/-- How many of the first n are there? -/
def cnt (S : Nat → Bool) : Nat → Nat
  | 0 => 0
  | n + 1 => cnt S n + (if S n = true then 1 else 0)
def upS (S : Nat → Bool) (k : Nat) : Nat → Bool := fun j => if j = k then true else S j
theorem upS_same (S : Nat → Bool) (k : Nat) : upS S k k = true := if_pos rfl
theorem upS_other {S : Nat → Bool} {k j : Nat} (h : j ≠ k) : upS S k j = S j := if_neg h
theorem cnt_out {S : Nat → Bool} {k : Nat} : ∀ n, n ≤ k → cnt (upS S k) n = cnt S n
  | 0, _ => rfl
  | n + 1, h => by unfold cnt; rw [cnt_out n (by omega), upS_other (by omega)]
theorem cnt_up {S : Nat → Bool} {k : Nat} (h : S k = false) : ∀ n, k < n → cnt (upS S k) n = cnt S n + 1
  | 0, hk => by omega
  | n + 1, hk => by
    unfold cnt
    by_cases e : k = n
    · subst e
      rw [cnt_out k (Nat.le_refl _), upS_same, h, if_pos rfl, if_neg (by decide)]
    · rw [cnt_up h n (by omega), upS_other (by omega)]; omega
theorem cnt_none : ∀ n, cnt (fun _ => false) n = 0
  | 0 => rfl
  | n + 1 => by unfold cnt; rw [cnt_none n]; rfl
theorem cnt_zero {S : Nat → Bool} : ∀ n, cnt S n = 0 → ∀ k, k < n → S k = false
  | 0, _, k, hk => by omega
  | n + 1, h, k, hk => by
    unfold cnt at h
    by_cases e : k = n
    · subst e
      by_cases hs : S k = true
      · rw [if_pos hs] at h; omega
      · simpa using hs
    · exact cnt_zero n (by omega) k (by omega)
theorem cnt_pos {S : Nat → Bool} : ∀ n, 0 < cnt S n → ∃ k, k < n ∧ S k = true
  | 0, h => by unfold cnt at h; omega
  | n + 1, h => by
    unfold cnt at h
    by_cases hs : S n = true
    · exact ⟨n, by omega, hs⟩
    · rw [if_neg hs] at h
      obtain ⟨k, hk, h⟩ := cnt_pos n (by omega)
      exact ⟨k, by omega, h⟩
theorem cnt_le (S : Nat → Bool) : ∀ n, cnt S n ≤ n
  | 0 => Nat.le_refl _
  | n + 1 => by unfold cnt; have := cnt_le S n; split <;> omega
/-- The damage: chunk k of the first area's snapshot cannot be read where S says so. -/
structure Hm (D : Dv) (t : ByteArray) (S : Nat → Bool) : Prop where
  ck : ∀ k, k < cutN t.size → cont D (2 + k) = if S k = true then (rc0, 2) else (chunkR 7 (k : Int) (cutAt t k), 1)
  far : ∀ j, 66 ≤ j → cont D j = (rc0, 0)
theorem Hm.bad {D : Dv} {t : ByteArray} {S : Nat → Bool} (h : Hm D t S) {k : Nat} (hk : k < cutN t.size) (hs : S k = true) : chunkC (cont D) 2 (ofL 7 2 t) k = (⟨#[]⟩, 6) := chunkC_lost (by rw [h.ck k hk, if_pos hs])
theorem Hm.good {D : Dv} {t : ByteArray} {S : Nat → Bool} (h : Hm D t S) {k : Nat} (hk : k < cutN t.size) (hs : S k = false) : chunkC (cont D) 2 (ofL 7 2 t) k = (cutAt t k, 0) := chunkC_good (by rw [h.ck k hk, if_neg (by rw [hs]; decide)]) hk
theorem Hm.chunk {D : Dv} {t : ByteArray} {S : Nat → Bool} (h : Hm D t S) {k : Nat} (hk : k < cutN t.size) : chunkC (cont D) 2 (ofL 7 2 t) k = if S k = true then (⟨#[]⟩, 6) else (cutAt t k, 0) := by
  by_cases hs : S k = true
  · rw [if_pos hs, h.bad hk hs]
  · rw [if_neg hs, h.good hk (by simpa using hs)]
theorem Hm.of {D D' : Dv} {t : ByteArray} {S : Nat → Bool} (h : Hm D t S) (hn : cutN t.size ≤ 64) (e : ∀ j, 2 ≤ j → cont D' j = cont D j) : Hm D' t S :=
  ⟨fun k hk => (e _ (by omega)).trans (h.ck k hk), fun j hj => (e j (by omega)).trans (h.far j hj)⟩
theorem Hm.hit {D D' : Dv} {t : ByteArray} {S : Nat → Bool} (h : Hm D t S) (hn : cutN t.size ≤ 64) {k : Nat} (hk : k < cutN t.size) (e : cont D' = put2 (cont D) (2 + k) (rc0, 2)) : Hm D' t (upS S k) := by
  refine ⟨fun j hj => ?_, fun j hj => ?_⟩
  · rw [e]
    by_cases q : j = k
    · subst q
      rw [put2_same, upS_same, if_pos rfl]
    · rw [put2_other (by omega), upS_other q]
      exact h.ck j hj
  · rw [e, put2_other (by omega)]
    exact h.far j hj
/-- One of the list's copies is there, the other one is lost. -/
def Lq (D : Dv) (t : ByteArray) (q : Nat) : Prop := q ≤ 1 ∧ cont D q = (listR (ofL 7 2 t), 1) ∧ cont D (1 - q) = (rc0, 2)
theorem hm_open {D : Dv} {t : ByteArray} {S : Nat → Bool} {q : Nat} (h : Hm D t S) (hq : Lq D t q) (hg : (ofL 7 2 t).Good) : opnC (cont D) 0 = (ofL 7 2 t, ((0 : Nat) : Int)) := by
  obtain ⟨q1, q2, q3⟩ := hq
  have hi : (0 : Int) < (ofL 7 2 t).index := by show (0 : Int) < 7; decide
  refine opnC_max (ar := 0) (by omega) hi ⟨q, q1, cpC_list (x := 1) (by rw [show 0 + 0 * 66 + q = q by omega]; exact q2) hg⟩ (fun a n ha hn => ?_)
  by_cases e : a = 0
  · subst e
    rw [show 0 + 0 * 66 + n = n by omega]
    by_cases e2 : n = q
    · subst e2
      exact .inr ⟨rfl, cpC_list (x := 1) q2 hg⟩
    · refine .inl ?_
      have : n = 1 - q := by omega
      subst this
      rw [cpC_rc0 (x := 2) q3]; exact hi
  · refine .inl ?_
    rw [cpC_rc0 (x := 0) (h.far _ (by omega))]; exact hi
end
section
open Go Go.RowKit Go.Proofs.Tryd
set_option linter.unusedVariables false
set_option maxRecDepth 100000
theorem hurtK_cnt {D : Dv} {base area : Int} {l : Ls} {S : Nat → Bool} : ∀ k, (∀ j, j < k → ((chunkF D base area l j).2 = 6 ↔ S j = true)) → (hurtK D base area l k).length = cnt S k
  | 0, _ => rfl
  | k + 1, h => by
    unfold cnt
    by_cases hs : S k = true
    · rw [hurtK_hit ((h k (by omega)).2 hs), List.length_append, hurtK_cnt k (fun j hj => h j (by omega)), if_pos hs]; rfl
    · rw [hurtK_miss (fun e => hs ((h k (by omega)).1 e)), hurtK_cnt k (fun j hj => h j (by omega)), if_neg hs]; rfl
theorem hurtK_mem {D : Dv} {base area : Int} {l : Ls} {S : Nat → Bool} {k : Nat} (h : ∀ j, j < k → ((chunkF D base area l j).2 = 6 ↔ S j = true)) {z : Int} (hz : z ∈ hurtK D base area l k) : ∃ j : Nat, z = (j : Int) ∧ j < k ∧ S j = true := by
  unfold hurtK at hz
  obtain ⟨j, hj, rfl⟩ := List.mem_map.1 hz
  obtain ⟨h1, h2⟩ := List.mem_filter.1 hj
  have hjk : j < k := by simpa using h1
  exact ⟨j, rfl, hjk, (h j hjk).1 (of_decide_eq_true h2)⟩
section
variable {m : Nat} {E : Nat → Prop} {w x : World} {b B M : Nat} {sv : Value} {D : Dv} {t : ByteArray} {S : Nat → Bool} {q : Nat}
theorem hm_chunkF (h : StC m E w b B M 0 (ofL 7 2 t) sv 0 D) (hm : Hm D t S) (hg : (ofL 7 2 t).Good) {k : Nat} (hk : k < cutN t.size) : chunkF D ((0 : Nat) : Int) ((0 : Nat) : Int) (ofL 7 2 t) k = if S k = true then (⟨#[]⟩, 6) else (cutAt t k, 0) := by
  have hn := cutN_le.2 (good_size hg)
  rw [st_chunkF h (by omega)]
  exact hm.chunk hk
/-- Hurt. -/
theorem hm_hurt (h : StC m E w b B M 0 (ofL 7 2 t) sv 0 D) (hm : Hm D t S) (hg : (ofL 7 2 t).Good) (ht : Tabs w) :
    Calls Tryd.prog 42 #[.pointer (some ⟨b, 0, none⟩)] w fun e w' => ∃ v zs, e = .returned v ∧ zs.length = cnt S (cutN t.size) ∧ (∀ z ∈ zs, ∃ j : Nat, z = (j : Int) ∧ j < cutN t.size ∧ S j = true) ∧ w'.ownsRow w.heap.size 3 1 v zs.length (ntCells zs) ∧ Below w.heap.size w w' := by
  have hb : ∀ j, j < (ofL 7 2 t).sums.length → ((chunkF D ((0 : Nat) : Int) ((0 : Nat) : Int) (ofL 7 2 t) j).2 = 6 ↔ S j = true) := fun j hj => by
    rw [ofL_sums] at hj
    rw [hm_chunkF h hm hg hj]
    by_cases hs : S j = true
    · rw [if_pos hs]; exact ⟨fun _ => hs, fun _ => rfl⟩
    · rw [if_neg hs]; exact ⟨fun e => absurd e (by show ¬ (0 : Int) = 6; decide), fun e => absurd e hs⟩
  refine (churt_any h.sto (by show (7 : Int) ≠ 0; decide) ht (by rw [h.w0]; decide)).mono ?_
  rintro e w' ⟨v, rfl, hr, hb'⟩
  refine ⟨v, _, rfl, ?_, fun z hz => ?_, hr, hb'⟩
  · rw [hurtK_cnt _ hb, ofL_sums]
  · obtain ⟨j, e, h1, h2⟩ := hurtK_mem hb hz
    rw [ofL_sums] at h1
    exact ⟨j, e, h1, h2⟩
/-- Chunk. -/
theorem hm_chunk (k : Nat) (h : StC m E w b B M 0 (ofL 7 2 t) sv 0 D) (hm : Hm D t S) (hg : (ofL 7 2 t).Good) (hk : k < cutN t.size) (ht : Tabs w) :
    Calls Tryd.prog 43 #[.pointer (some ⟨b, 0, none⟩), .int .i64 (k : Int)] w fun e w' => e = .returned (.tuple #[.string (if S k = true then ⟨#[]⟩ else cutAt t k), .int .i64 (if S k = true then 6 else 0)]) ∧ Below w.heap.size w w' := by
  refine (st_chunk k h hg (by rw [ofL_sums]; exact hk) ht).mono ?_
  rintro e w' ⟨rfl, hb⟩
  refine ⟨?_, hb⟩
  rw [show (0 + 0 * 66 + 2 : Nat) = 2 from rfl, hm.chunk hk]
  by_cases hs : S k = true
  · rw [if_pos hs, if_pos hs, if_pos hs]
  · rw [if_neg hs, if_neg hs, if_neg hs]
/-- Data. -/
theorem hm_data (h : StC m E w b B M 0 (ofL 7 2 t) sv 0 D) (hm : Hm D t S) (hg : (ofL 7 2 t).Good) (ht : ∀ x, Below w.heap.size w x → Tabs x) :
    Calls Tryd.prog 44 #[.pointer (some ⟨b, 0, none⟩)] w fun e w' => ∃ s, e = .returned (.tuple #[.string s, .int .i64 (if 0 < cnt S (cutN t.size) then 6 else 0)]) ∧ Below w.heap.size w w' := by
  by_cases h0 : 0 < cnt S (cutN t.size)
  · rw [if_pos h0]
    obtain ⟨k, hk, hs⟩ := cnt_pos _ h0
    refine (st_data_bad h hg (fun j hj => ?_) ⟨k, by rw [ofL_sums]; exact hk, by show (chunkC (cont D) 2 (ofL 7 2 t) k).2 = 6; rw [hm.bad hk hs]⟩ ht).mono (fun e w' ⟨h1, h2⟩ => ⟨_, h1, h2⟩)
    rw [ofL_sums] at hj
    show (chunkC (cont D) 2 (ofL 7 2 t) j).2 = 0 ∨ (chunkC (cont D) 2 (ofL 7 2 t) j).2 = 6
    rw [hm.chunk hj]
    by_cases hs : S j = true
    · rw [if_pos hs]; exact .inr rfl
    · rw [if_neg hs]; exact .inl rfl
  · rw [if_neg h0]
    have hz := cnt_zero (S := S) (cutN t.size) (by omega)
    refine (st_data h hg (fun k hk => ?_) ht).mono (fun e w' ⟨h1, h2⟩ => ⟨_, h1, h2⟩)
    show cont D (2 + k) = _
    rw [hm.ck k hk, if_neg (by rw [hz k hk]; decide)]
/-- Scrub, one copy of the list lost. -/
theorem hm_scrub (h : StC m E w b B M 0 (ofL 7 2 t) sv 0 D) (hm : Hm D t S) (hq : Lq D t q) (hg : (ofL 7 2 t).Good) (hmw : m ≤ w.heap.size) (ht : ∀ x, Below m w x → Tabs x) :
    Calls Tryd.prog 45 #[.pointer (some ⟨b, 0, none⟩)] w fun e w' => e = .returned (.int .i64 0) ∧ ∃ D', StC m E w' b B M 0 (ofL 7 2 t) sv 0 D' ∧ Hm D' t S ∧ cont D' 0 = (listR (ofL 7 2 t), 1) ∧ cont D' 1 = (listR (ofL 7 2 t), 1) ∧ Below m w w' ∧ Kept E w w' := by
  obtain ⟨q1, q2, q3⟩ := hq
  have hn := cutN_le.2 (good_size hg)
  have hlen := h.len
  have hroom := h.room
  have hok := listR_ok hg
  have hc0 : copyF D (((0 : Nat) : Int) + ((0 : Nat) : Int) * 66 + 0) = (cpC (cont D) 0, 0) := copyF_cont h.calm.down (by omega) (by omega)
  have hc1 : copyF D (((0 : Nat) : Int) + ((0 : Nat) : Int) * 66 + 1) = (cpC (cont D) 1, 0) := copyF_cont h.calm.down (by omega) (by omega)
  have hsm : sameB (ofL 7 2 t) (ofL 7 2 t) = true := by unfold sameB; simp
  have hs0 : sameB ls0 (ofL 7 2 t) = false := by unfold sameB; exact decide_eq_false (fun e => absurd e.1 (by show ¬ (0 : Int) = 7; decide))
  have key : ∃ D', scrubF D ((0 : Nat) : Int) ((0 : Nat) : Int) (ofL 7 2 t) = (0, D') ∧ Calm D' ∧ D'.bs.length = D.bs.length ∧ (∀ j, 2 ≤ j → cont D' j = cont D j) ∧ cont D' 0 = (listR (ofL 7 2 t), 1) ∧ cont D' 1 = (listR (ofL 7 2 t), 1) := by
    unfold scrubF
    rw [hc0, hc1, if_neg (by simp), if_neg (by simp)]
    have hq01 : q = 0 ∨ q = 1 := by omega
    rcases hq01 with rfl | rfl
    · rw [show cpC (cont D) 0 = ofL 7 2 t from cpC_list (x := 1) q2 hg, show cpC (cont D) 1 = ls0 from cpC_rc0 (x := 2) q3]
      rw [if_pos hsm, if_neg (by rw [hs0]; decide)]
      obtain ⟨D', e1, c1, n1, k1⟩ := pair_cont (D := D) (x := 1) (y := 0) h.calm.toLive hok (by omega) (by omega)
      refine ⟨D', ?_, c1, n1, fun j hj => ?_, ?_, ?_⟩
      · rw [← e1]; rfl
      · rw [k1, put2_other (by omega), put2_other (by omega)]
      · rw [k1, put2_same]
      · rw [k1, put2_other (by omega), put2_same]
    · rw [show cpC (cont D) 1 = ofL 7 2 t from cpC_list (x := 1) q2 hg, show cpC (cont D) 0 = ls0 from cpC_rc0 (x := 2) q3]
      rw [if_neg (by rw [hs0]; decide)]
      obtain ⟨D', e1, c1, n1, k1⟩ := pair_cont (D := D) (x := 0) (y := 1) h.calm.toLive hok (by omega) (by omega)
      refine ⟨D', ?_, c1, n1, fun j hj => ?_, ?_, ?_⟩
      · rw [← e1]; rfl
      · rw [k1, put2_other (by omega), put2_other (by omega)]
      · rw [k1, put2_other (by omega), put2_same]
      · rw [k1, put2_same]
  obtain ⟨D', e1, c1, n1, k1, k2, k3⟩ := key
  refine (cscrub_any h.sto (by show (7 : Int) ≠ 0; decide) hmw ht (by rw [h.w0]; decide)).mono ?_
  rw [e1]
  rintro e w' ⟨rfl, hs, hb, hk⟩
  exact ⟨rfl, D', { h with sto := hs, calm := c1, len := n1.trans hlen }, hm.of hn k1, k2, k3, hb, hk⟩
/-- A copy of the list is lost. -/
theorem hm_lose (q : Nat) (h : StC m E w b B M 0 (ofL 7 2 t) sv 0 D) (hm : Hm D t S) (hg : (ofL 7 2 t).Good) (hq : q ≤ 1) (h0 : cont D 0 = (listR (ofL 7 2 t), 1)) (h1 : cont D 1 = (listR (ofL 7 2 t), 1)) (hmw : m ≤ w.heap.size) :
    Calls Tryd.prog 40 #[.pointer (some ⟨B, 0, none⟩), .int .i64 (q : Int)] w fun e w' => e = .returned (.tuple #[]) ∧ ∃ D', StC m E w' b B M 0 (ofL 7 2 t) sv 0 D' ∧ Hm D' t S ∧ Lq D' t (1 - q) ∧ Below m w w' ∧ Kept E w w' := by
  have hn := cutN_le.2 (good_size hg)
  refine (st_lose q h (by have := h.room; omega) hmw).mono ?_
  rintro e w' ⟨rfl, D', hs, k1, hb, hk, _⟩
  refine ⟨rfl, D', hs, hm.of hn (fun j hj => by rw [k1, put2_other (by omega)]), ⟨by omega, ?_, ?_⟩, hb, hk⟩
  · rw [k1, put2_other (by omega)]
    have : 1 - q = 0 ∨ 1 - q = 1 := by omega
    rcases this with e | e <;> rw [e] <;> assumption
  · rw [k1, show 1 - (1 - q) = q by omega, put2_same]
end
end
section
open Go Go.RowKit Go.Maps Go.Proofs.Tryd
set_option linter.unusedVariables false
set_option maxRecDepth 100000

theorem und_iH : Tryd.prog.underlying 3 = some (.int .i64) := by kernel_rfl
theorem und_bH : Tryd.prog.underlying 4 = some .bool := by kernel_rfl
theorem und_mH : Tryd.prog.underlying 91 = some (.map 3 4) := by kernel_rfl
theorem lawH : Keyed Tryd.prog 3 := int_keyed und_iH
theorem zero_bH (w : World) : (zeroValue 4).run Tryd.prog w = .ok (.bool false) w := by kernel_rfl
theorem wfH {k : Nat} (h : k < 1000) : (Lit.int .i64 (k : Int)).wf = true := (Lit.wf_int_iff .i64 (k : Int)).2 ⟨by rw [show IntKind.i64.min = -9223372036854775808 by decide]; omega, by rw [show IntKind.i64.max = 9223372036854775807 by decide]; omega⟩
theorem keyH {k : Nat} (h : k < 1000) : keyOf Tryd.prog 3 (.int .i64 (k : Int)) = some (.int .i64 (k : Int)) := keyOf_int_mk und_iH (wfH h)
theorem keyH_ne {a b : Nat} (h : a ≠ b) : (Lit.int .i64 (a : Int)) ≠ .int .i64 (b : Int) := fun e => h (by injection e with _ e; omega)
theorem isKeyH (z : Int) : Go.WideAt.IsKeyLit (.int .i64 z) := trivial
/-- What a map's data say of the damaged chunks: n of them at most. -/
structure BadD (D : DataW Unit) (n : Nat) (S : Nat → Bool) : Prop where
  has : ∀ k : Nat, k < n → Maps.has D (.int .i64 (k : Int)) = S k
  at' : ∀ k : Nat, k < n → D.atKey (.int .i64 (k : Int)) (.lit (.bool false)) = .lit (.bool (S k))
  size : Maps.size D = cnt S n
  in' : ∀ kl, Maps.has D kl = true → ∃ k : Nat, k < n ∧ kl = .int .i64 (k : Int)
/-- Block b is the map of damaged chunks. -/
def BadI (w : World) (b c n : Nat) (S : Nat → Bool) : Prop := ∃ D : DataW Unit, w.ownsMap Tryd.prog 3 (plainElem Tryd.prog 4) b c D ∧ BadD D n S
section
variable {w w' : World} {b c n : Nat} {S : Nat → Bool}
theorem BadI.lt (h : BadI w b c n S) : b < w.heap.size := by obtain ⟨D, h, _⟩ := h; exact h.lt
theorem BadI.keep0 (h : BadI w b c n S) (hs : w'.heap[b]? = w.heap[b]?) : BadI w' b c n S := by
  obtain ⟨D, ⟨es, clock, hb, F, hn, hD⟩, hT⟩ := h
  exact ⟨D, ⟨es, clock, hs.trans hb, F, hn, hD⟩, hT⟩
theorem BadI.keep {E : Nat → Prop} (h : BadI w b c n S) (kp : Kept E w w') (hb : E b) : BadI w' b c n S := h.keep0 (kp b hb)
theorem BadI.below (h : BadI w b c n S) (kp : Below w.heap.size w w') : BadI w' b c n S := h.keep0 (kp.block b h.lt)
theorem BadI.new (w : World) (n : Nat) : BadI (w.alloc (.map #[] 0)) w.heap.size 0 n (fun _ => false) :=
  ⟨.map [], World.ownsMap_made w _ _ _, ⟨fun _ _ => rfl, fun _ _ => rfl, by rw [cnt_none]; rfl, fun kl h => absurd h (by simp [Maps.has])⟩⟩
theorem BadI.look (h : BadI w b c n S) {k : Nat} (hk : k < n) (hn : n < 1000) : (Instr.lookup 91 (.map (some b)) (.int .i64 (k : Int)) false).run Tryd.prog w = .ok (.bool (S k)) w := by
  obtain ⟨D, ho, hD⟩ := h
  obtain ⟨v, ps, hrun, hv⟩ := ho.lookup lawH und_mH (zero_bH w) (plainElem_bool und_bH false) (keyH (by omega : k < 1000))
  rw [hD.at' k hk] at hv
  have : v = .bool (S k) := by
    unfold plainElem at hv
    rw [und_bH] at hv
    cases v <;> simp at hv
    simp [hv]
  rw [hrun, this]
theorem BadI.len (h : BadI w b c n S) (ty : TypeId) : (Builtin.len_ #[91] ty #[.map (some b)]).run Tryd.prog w = .ok (.int .i64 (cnt S n)) w := by
  obtain ⟨D, ho, hD⟩ := h
  rw [ho.len und_mH ty, hD.size]
theorem BadI.store (h : BadI w b c n S) (hc : c < 1000000) {k : Nat} (hk : k < n) (hn : n < 1000) (hs : S k = false) :
    ∃ w', (Instr.mapUpdate 91 (.map (some b)) (.int .i64 (k : Int)) (.bool true)).run Tryd.prog w = .ok () w' ∧ BadI w' b (c + 1) n (upS S k) ∧ w.grownBy w' (some b) := by
  obtain ⟨D, ho, hD⟩ := h
  obtain ⟨w', hrun, ho', hm⟩ := ho.update lawH und_mH (by unfold maxLen; omega) (keyH (by omega : k < 1000)) (plainElem_bool und_bH true)
  refine ⟨w', hrun, ⟨_, ho', ⟨fun j hj => ?_, fun j hj => ?_, ?_, fun kl hkl => ?_⟩⟩, hm⟩
  · by_cases e : j = k
    · subst e; rw [has_put_same ho.isMap (isKeyH j), upS_same]
    · rw [has_put_other (keyH_ne e), upS_other e]; exact hD.has j hj
  · by_cases e : j = k
    · subst e; rw [atKey_put_same ho.isMap (isKeyH j), upS_same]
    · rw [atKey_put_other (keyH_ne e), upS_other e]; exact hD.at' j hj
  · rw [Go.Maps.size_put (ho.tidy lawH), hD.has k hk, hs, hD.size, cnt_up hs n hk]; rfl
  · by_cases e : kl = .int .i64 (k : Int)
    · exact ⟨k, hk, e⟩
    · rw [has_put_other e] at hkl
      exact hD.in' kl hkl
end
end
end Go.Proofs.YtiknfifiglooeaaDoor
