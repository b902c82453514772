/- Law 7's harms: what the store's methods and the device's do where some chunks are damaged; a loop over the map of damaged chunks. No conditions beyond those in each statement. -/
import Derived.Test.YtiknfifiglooeaaDoorChunkHr
import Derived.Deep.CutBlock
namespace Go.Proofs.YtiknfifiglooeaaDoor
section
open Go Go.RowKit Go.Maps Go.Proofs.Tryd
set_option linter.unusedVariables false
set_option maxRecDepth 100000

theorem run_mkH (W : World) : (Instr.makeMap 91 none).run Tryd.prog W = .ok (.map (some W.heap.size)) (W.alloc (.map #[] 0)) := rfl
theorem below_turned {m mb : Nat} {a w x : World} (h : Below m a w) (hg : w.grownBy x (some mb)) (hs : m ≤ w.heap.size) (hm : m ≤ mb) : Below m a x :=
  h.grown hg hs (fun q hq => by cases hq; exact hm)
theorem onB_far {D : Dv} {k j : Nat} {f : Blk → Blk} (hk : k < D.bs.length) (hj : j ≠ k) : (D.onB (k : Int) f).bs[j]? = D.bs[j]? := by
  rw [onB_at rfl (at_lt hk)]
  exact List.getElem?_set_ne (Ne.symm hj)
theorem flip_calm {D : Dv} (h : Calm D) {k : Nat} (hk : k < D.bs.length) (a : Int) (bt : Nat) : Calm (D.onB (k : Int) fun b => b.flip a bt) := by
  obtain ⟨h1, h2, h3, h4, h5⟩ := on_cont (D := D) (fun b => b.flip a bt) hk
  refine ⟨⟨h3.trans h.down, h4.trans h.fall⟩, fun b hb => ?_, h2.trans h.writes⟩
  rw [onB_at rfl (at_lt hk)] at hb
  rcases List.mem_or_eq_of_mem_set hb with hb | rfl
  · exact h.pend b hb
  · rw [flip_pend7]
    exact h.pend _ (List.mem_of_getElem? (at_lt hk))
/-- The chunks that are not damaged are not spoiled. -/
def Spo (D : Dv) (t : ByteArray) (S : Nat → Bool) : Prop := ∀ k, k < cutN t.size → S k = false → (D.bs[2 + k]?.getD blk0).spoiled = false
theorem Cln.spo {D : Dv} (h : Cln D) (t : ByteArray) (S : Nat → Bool) : Spo D t S := fun k _ _ => by
  cases hb : D.bs[2 + k]? with
  | none => rfl
  | some b => exact h b (List.mem_of_getElem? hb)
theorem Spo.hit {D D' : Dv} {t : ByteArray} {S : Nat → Bool} {k : Nat} (h : Spo D t S) (e : ∀ j, j ≠ 2 + k → D'.bs[j]? = D.bs[j]?) : Spo D' t (upS S k) := fun j hj hs => by
  by_cases q : j = k
  · subst q; rw [upS_same] at hs; cases hs
  · rw [e _ (by omega)]
    rw [upS_other q] at hs
    exact h j hj hs
section
variable {m : Nat} {E : Nat → Prop} {w x : World} {b B M base : Nat} {l : Ls} {sv : Value} {ar : Nat} {D : Dv} {t : ByteArray} {S : Nat → Bool} {q mb : Nat}
/-- A map that the store leaves alone has been written. -/
theorem StC.mapped (h : StC m E w b B M base l sv ar D) (hg : w.grownBy x (some mb)) (hE : E mb) (hb : b ≠ mb) (hs : ∀ g, sv.ownBlock = some g → g ≠ mb) : StC m E x b B M base l sv ar D := by
  have hlt := h.sto.dev.lt
  have hk : Kept (fun k => k < w.heap.size ∧ k ≠ mb) w x := fun k hk => hg.block k hk.1 (fun e => hk.2 (Option.some.inj e))
  have hdev : DevW m E x B D := by
    obtain ⟨T, hd, hT, hE'⟩ := h.sto.dev
    refine ⟨T, hd.keep (T := fun k => k = mb) ⟨hg.os, hg.tape, hg.output, hg.size, fun k hk hne => hg.block k hk (fun e => hne (Option.some.inj e))⟩ (fun k hk e => (hT k hk).2 (e ▸ hE)), hT, fun k hk => Nat.lt_of_lt_of_le (hE' k hk) hg.size⟩
  have hst : CsB x b B (base : Int) l.index l.term l.bytes sv (ar : Int) := (hk b ⟨hlt b h.sto.eb, hb⟩).trans h.sto.st
  exact { h with sto := ⟨hdev, hst, h.sto.eb, h.sto.mb, h.sto.sums.keep hk (fun g hg => ⟨hlt g (h.sto.own g hg).1, hs g hg⟩) hg.size, h.sto.own, h.sto.bytes, h.sto.base, h.sto.area⟩ }
theorem StC.lt' (h : StC m E w b B M base l sv ar D) : ∀ k, E k → k < w.heap.size := h.sto.dev.lt

/-- Chunk k is damaged, by Lose or by Flip. -/
def HitTo (m : Nat) (E : Nat → Prop) (w : World) (b B M : Nat) (sv : Value) (t : ByteArray) (S : Nat → Bool) (D : Dv) (k : Nat) (w' : World) : Prop :=
  ∃ D', StC m E w' b B M 0 (ofL 7 2 t) sv 0 D' ∧ Hm D' t (upS S k) ∧ Spo D' t (upS S k) ∧ cont D' 0 = cont D 0 ∧ cont D' 1 = cont D 1 ∧ Below m w w' ∧ Kept E w w'
theorem hit_lose (k : Nat) (h : StC m E w b B M 0 (ofL 7 2 t) sv 0 D) (hm : Hm D t S) (hsp : Spo D t S) (hg : (ofL 7 2 t).Good) (hk : k < cutN t.size) (hmw : m ≤ w.heap.size) :
    Calls Tryd.prog 40 #[.pointer (some ⟨B, 0, none⟩), .int .i64 ((2 + k : Nat) : Int)] w fun e w' => e = .returned (.tuple #[]) ∧ HitTo m E w b B M sv t S D k w' := by
  have hn := cutN_le.2 (good_size hg)
  have hroom := h.room
  have hlen := h.len
  refine (st_lose (2 + k) h (by omega) hmw).mono ?_
  rintro e w' ⟨rfl, D', hs, k1, hb, hkp, rfl⟩
  refine ⟨rfl, _, hs, hm.hit hn hk k1, hsp.hit (fun j hj => onB_far (by omega) hj), ?_, ?_, hb, hkp⟩
  · rw [k1, put2_other (by omega)]
  · rw [k1, put2_other (by omega)]
theorem hit_flip (k : Nat) (a : Int) (bt : Nat) (h0 : bt ≠ 0) (hbt : bt < 256) (ha : -9223372036854775808 ≤ a ∧ a ≤ 9223372036854775807) (h : StC m E w b B M 0 (ofL 7 2 t) sv 0 D) (hm : Hm D t S) (hsp : Spo D t S) (hg : (ofL 7 2 t).Good) (hk : k < cutN t.size) (hsk : S k = false) (hmw : m ≤ w.heap.size) :
    Calls Tryd.prog 41 #[.pointer (some ⟨B, 0, none⟩), .int .i64 ((2 + k : Nat) : Int), .int .i64 a, .int .u8 bt] w fun e w' => e = .returned (.tuple #[]) ∧ HitTo m E w b B M sv t S D k w' := by
  have hn := cutN_le.2 (good_size hg)
  have hroom := h.room
  have hlen := h.len
  have hkl : 2 + k < D.bs.length := by omega
  refine (devw_flip ((2 + k : Nat) : Int) a bt ha hbt hmw h.dev).mono ?_
  rintro e w' ⟨rfl, hd, hb, hkp⟩
  obtain ⟨n1, _, _, _, k1⟩ := on_cont (D := D) (fun b => b.flip a bt) hkl
  have hr : rd (D.bs[2 + k]?.getD blk0) = (chunkR 7 (k : Int) (cutAt t k), 1) := by
    have := hm.ck k hk
    rw [if_neg (by rw [hsk]; decide)] at this
    exact this
  have hk1 : cont (D.onB ((2 + k : Nat) : Int) fun b => b.flip a bt) = put2 (cont D) (2 + k) (rc0, 2) := by
    rw [k1]
    rw [rd_flip7 (h.calm.pend _ (List.mem_of_getElem? (at_lt hkl))) hr (hsp k hk hsk) a h0 hbt]
  refine ⟨rfl, _, h.turn hd hkp hb.size (flip_calm h.calm hkl a bt) n1, hm.hit hn hk hk1, hsp.hit (fun j hj => onB_far hkl hj), ?_, ?_, hb, hkp⟩
  · rw [hk1, put2_other (by omega)]
  · rw [hk1, put2_other (by omega)]
/-- The damage that is left when chunk k is mended. -/
def dnS (S : Nat → Bool) (k : Nat) : Nat → Bool := fun j => if j = k then false else S j
theorem hm_mend (k : Nat) (h : StC m E w b B M 0 (ofL 7 2 t) sv 0 D) (hm : Hm D t S) (hg : (ofL 7 2 t).Good) (hk : k < cutN t.size) (hsk : S k = true) (hmw : m ≤ w.heap.size) (ht : ∀ x, Below m w x → Tabs x) :
    Calls Tryd.prog 46 #[.pointer (some ⟨b, 0, none⟩), .int .i64 (k : Int), .string (cutAt t k)] w fun e w' => e = .returned (.int .i64 0) ∧ ∃ D', StC m E w' b B M 0 (ofL 7 2 t) sv 0 D' ∧ Hm D' t (dnS S k) ∧ Below m w w' ∧ Kept E w w' := by
  have hn := cutN_le.2 (good_size hg)
  have hmc := match_cut 7 2 t hk
  have hc := cut_size t hk
  refine (st_mend k (cutAt t k) h hg (by rw [ofL_sums]; exact hk) (by unfold maxLen; omega) hmw ht).mono ?_
  rw [if_pos hmc]
  rintro e w' ⟨rfl, D', hs, hb, hkp, h1, h2⟩
  refine ⟨rfl, D', hs, ⟨fun j hj => ?_, fun j hj => ?_⟩, hb, hkp⟩
  · by_cases q : j = k
    · subst q
      unfold dnS
      rw [if_pos rfl, if_neg (by decide)]
      exact h2 hmc (by have := hm.ck j hj; rw [if_pos hsk] at this; exact this)
    · unfold dnS
      rw [if_neg q, h1 _ (by omega)]
      exact hm.ck j hj
  · rw [h1 _ (by omega)]
    exact hm.far j hj
/-- Another text is refused. -/
theorem hm_mend_bad (k : Nat) (c : ByteArray) (hcs : c.size = (cutAt t k).size + 1) (h : StC m E w b B M 0 (ofL 7 2 t) sv 0 D) (hg : (ofL 7 2 t).Good) (hk : k < cutN t.size) (hmw : m ≤ w.heap.size) (ht : ∀ x, Below m w x → Tabs x) :
    Calls Tryd.prog 46 #[.pointer (some ⟨b, 0, none⟩), .int .i64 (k : Int), .string c] w fun e w' => e = .returned (.int .i64 1) ∧ StC m E w' b B M 0 (ofL 7 2 t) sv 0 D ∧ Below m w w' ∧ Kept E w w' := by
  have hn := cutN_le.2 (good_size hg)
  have hc := cut_size t hk
  have hno : matchB (ofL 7 2 t) k c = false := by
    have h1 := (of_decide_eq_true (match_cut 7 2 t hk)).1
    unfold matchB
    refine decide_eq_false (fun h2 => ?_)
    have h3 := h2.1
    rw [← h1, hcs] at h3
    omega
  refine (cmend_any k c h.sto (by show (7 : Int) ≠ 0; decide) (by rw [ofL_sums]; exact hk) (by omega) (by unfold maxLen; omega) hmw ht (by rw [h.w0]; decide)).mono ?_
  unfold mendF
  rw [if_pos hno]
  rintro e w' ⟨rfl, hs, hb, hkp⟩
  exact ⟨rfl, { h with sto := hs }, hb, hkp⟩
end
/-- A range over the map of damaged chunks, under way. -/
def RgI (w : World) (mb r c : Nat) (Dm : DataW Unit) (left : Lit → Bool) (n : Nat) : Prop := w.ranges Tryd.prog 3 (plainElem Tryd.prog 4) mb r c Dm left n
theorem RgI.keep {w x : World} {E : Nat → Prop} {mb r c n : Nat} {Dm : DataW Unit} {left : Lit → Bool} (h : RgI w mb r c Dm left n) (k : Kept E w x) (h1 : E mb) (h2 : E r) : RgI x mb r c Dm left n := by
  obtain ⟨es, clock, since, seen, c0, hb, F, hs, hD, hr, rest⟩ := h
  exact ⟨es, clock, since, seen, c0, (k mb h1).trans hb, F, hs, hD, (k r h2).trans hr, rest⟩
theorem boolR_any {v : Value} {y : DataW Unit × List MemPlace} (h : plainElem Tryd.prog 4 v = some y) : ∃ c : Bool, v = .bool c := by
  unfold plainElem at h
  rw [und_bH] at h
  cases v <;> simp at h
  exact ⟨_, rfl⟩
theorem intK_any {key : Value} {kl : Lit} (h : keyOf Tryd.prog 3 key = some kl) : ∃ x : Int, key = .int .i64 x := by
  obtain ⟨x, rfl, _⟩ := Maps.keyOf_int_inv und_iH h
  exact ⟨x, rfl⟩
theorem sameI (j k : Nat) : (Lit.int .i64 (j : Int)).sameKey (.int .i64 (k : Int)) = decide (j = k) := by
  by_cases e : j = k
  · subst e; rw [decide_eq_true rfl]; exact WideAt.sameKey_self trivial
  · rw [decide_eq_false e]
    simp [Lit.sameKey]
    omega
/-- What is left, as damage. -/
def lfS (left : Lit → Bool) : Nat → Bool := fun k => left (.int .i64 (k : Int))
theorem lfS_step (left : Lit → Bool) (k : Nat) : lfS (fun z => left z && !z.sameKey (.int .i64 (k : Int))) = dnS (lfS left) k := by
  funext j
  unfold lfS dnS
  show (left (.int .i64 (j : Int)) && !(Lit.int .i64 (j : Int)).sameKey (.int .i64 (k : Int))) = if j = k then false else left (.int .i64 (j : Int))
  rw [sameI]
  by_cases e : j = k
  · subst e; simp
  · rw [if_neg e, decide_eq_false e]; simp
theorem Hm.same {D : Dv} {t : ByteArray} {S T : Nat → Bool} (h : Hm D t S) (e : ∀ k, k < cutN t.size → T k = S k) : Hm D t T := ⟨fun k hk => by rw [e k hk]; exact h.ck k hk, h.far⟩
theorem Hm.all {D : Dv} {t : ByteArray} {S : Nat → Bool} (h : Hm D t S) (e : ∀ k, S k = false) : Pieces (cont D) 2 7 t := fun k hk => by
  rw [h.ck k hk, if_neg (by rw [e k]; decide)]
/-- What the law has at hand: the store, the map of damaged chunks, the pieces. -/
structure HrW (m : Nat) (E : Nat → Prop) (w : World) (b B mb r0 : Nat) (pv : Value) (t : ByteArray) (c : Nat) (S : Nat → Bool) (sv : Value) (D : Dv) : Prop where
  st : StC m E w b B 200 0 (ofL 7 2 t) sv 0 D
  hm : Hm D t S
  bad : BadI w mb c (cutN t.size) S
  row : w.ownsRow r0 9 1 pv (cutS t).length (strCells' (cutS t))
  eb : E mb
  er : ∀ g, pv.ownBlock = some g → E g
section
variable {m : Nat} {E : Nat → Prop} {w x : World} {b B mb r0 c k : Nat} {pv sv : Value} {D D' : Dv} {t : ByteArray} {S : Nat → Bool}
theorem HrW.turn (h : HrW m E w b B mb r0 pv t c S sv D) (hs : StC m E x b B 200 0 (ofL 7 2 t) sv 0 D') (hm : Hm D' t S) (hk : Kept E w x) : HrW m E x b B mb r0 pv t c S sv D' :=
  ⟨hs, hm, h.bad.keep hk h.eb, row_kept h.row hk h.er, h.eb, h.er⟩
theorem HrW.below (h : HrW m E w b B mb r0 pv t c S sv D) (hb : Below w.heap.size w x) : HrW m E x b B mb r0 pv t c S sv D :=
  h.turn (h.st.below hb) h.hm (Kept.of_below h.st.lt' hb)
theorem HrW.stored (h : HrW m E w b B mb r0 pv t c S sv D) (hg : w.grownBy x (some mb)) (hb : BadI x mb (c + 1) (cutN t.size) (upS S k)) (h1 : b ≠ mb ∧ (∀ g, sv.ownBlock = some g → g ≠ mb) ∧ ∀ g, pv.ownBlock = some g → g ≠ mb) :
    StC m E x b B 200 0 (ofL 7 2 t) sv 0 D ∧ ∀ y, HitTo m E x b B 200 sv t S D k y → ∃ D', HrW m E y b B mb r0 pv t (c + 1) (upS S k) sv D' ∧ Spo D' t (upS S k) ∧ cont D' 0 = cont D 0 ∧ cont D' 1 = cont D 1 ∧ Below m x y := by
  have hs := h.st.mapped hg h.eb h1.1 h1.2.1
  refine ⟨hs, ?_⟩
  rintro y ⟨D', s1, s2, s3, s4, s5, s6, s7⟩
  have hr : x.ownsRow r0 9 1 pv (cutS t).length (strCells' (cutS t)) := ownsRow_same h.row (fun j hj => hg.block j (h.st.lt' j (h.er j hj)) (fun e => h1.2.2 j hj (Option.some.inj e)))
  exact ⟨D', ⟨s1, s2, hb.keep s7 h.eb, row_kept hr s7 h.er, h.eb, h.er⟩, s3, s4, s5, s6⟩
theorem HrW.piece (h : HrW m E w b B mb r0 pv t c S sv D) (hk : k < cutN t.size) : ∃ g cap, pv = .slice (some ⟨g, 0, none⟩) (cutS t).length cap ∧ w.cell? ⟨g, k, none⟩ = some (.string (cutAt t k)) := by
  obtain ⟨g, cap, hv, _, h2⟩ := strs_at h.row k (by rw [cutS_length]; exact hk)
  rw [cutS_at t hk] at h2
  exact ⟨g, cap, hv, h2⟩
end
section
variable {m : Nat} {E : Nat → Prop} {w x : World} {b B mb r0 c k q : Nat} {pv sv : Value} {D D' : Dv} {t : ByteArray} {S : Nat → Bool}
theorem HrW.openS (h : HrW m E w b B mb r0 pv t c S sv D) {b' : Nat} {sv' : Value} (hs : StC m (fun k => E k ∨ (w.heap.size ≤ k ∧ k < x.heap.size)) x b' B 200 0 (ofL 7 2 t) sv' 0 D) (hb : Below w.heap.size w x) : HrW m (fun k => E k ∨ (w.heap.size ≤ k ∧ k < x.heap.size)) x b' B mb r0 pv t c S sv' D :=
  ⟨hs, h.hm, h.bad.below hb, (h.below hb).row, .inl h.eb, fun g hg => .inl (h.er g hg)⟩
/-- Open, behind the damage. -/
theorem hr_open (h : HrW m E w b B mb r0 pv t c S sv D) (hq : Lq D t q) (hg : (ofL 7 2 t).Good) (hmw : m ≤ w.heap.size) (ht : Tabs w) :
    Calls Tryd.prog 34 #[.pointer (some ⟨B, 0, none⟩), .int .i64 0] w fun e w' => ∃ (b' : Nat) (sv' : Value) (E' : Nat → Prop), e = .returned (.tuple #[.pointer (some ⟨b', 0, none⟩), .int .i64 0]) ∧ (∀ j, E j → E' j) ∧ HrW m E' w' b' B mb r0 pv t c S sv' D ∧ Below w.heap.size w w' := by
  refine (st_open (M := 200) (base := 0) h.st.dev h.st.calm h.st.len (by decide) (by decide) hmw ht).mono ?_
  rw [hm_open h.hm hq hg]
  rintro e w' ⟨b', sv', ar, rfl, _, har, hs, hb⟩
  obtain rfl : ar = 0 := by have h : (ar : Int) = ((0 : Nat) : Int) := har; omega
  exact ⟨b', sv', _, rfl, fun _ hj => .inl hj, h.openS hs hb, hb⟩
theorem hr_scrub (h : HrW m E w b B mb r0 pv t c S sv D) (hq : Lq D t q) (hg : (ofL 7 2 t).Good) (hmw : m ≤ w.heap.size) (ht : ∀ x, Below m w x → Tabs x) :
    Calls Tryd.prog 45 #[.pointer (some ⟨b, 0, none⟩)] w fun e w' => e = .returned (.int .i64 0) ∧ ∃ D', HrW m E w' b B mb r0 pv t c S sv D' ∧ cont D' 0 = (listR (ofL 7 2 t), 1) ∧ cont D' 1 = (listR (ofL 7 2 t), 1) ∧ Below m w w' := by
  refine (hm_scrub h.st h.hm hq hg hmw ht).mono ?_
  rintro e w' ⟨rfl, D', s1, s2, s3, s4, s5, s6⟩
  exact ⟨rfl, D', h.turn s1 s2 s6, s3, s4, s5⟩
theorem hr_lose (q : Nat) (h : HrW m E w b B mb r0 pv t c S sv D) (hg : (ofL 7 2 t).Good) (hq : q ≤ 1) (h0 : cont D 0 = (listR (ofL 7 2 t), 1)) (h1 : cont D 1 = (listR (ofL 7 2 t), 1)) (hmw : m ≤ w.heap.size) :
    Calls Tryd.prog 40 #[.pointer (some ⟨B, 0, none⟩), .int .i64 (q : Int)] w fun e w' => e = .returned (.tuple #[]) ∧ ∃ D', HrW m E w' b B mb r0 pv t c S sv D' ∧ (∃ q, Lq D' t q) ∧ Below m w w' := by
  refine (hm_lose q h.st h.hm hg hq h0 h1 hmw).mono ?_
  rintro e w' ⟨rfl, D', s1, s2, s3, s4, s5⟩
  exact ⟨rfl, D', h.turn s1 s2 s5, ⟨_, s3⟩, s4⟩
theorem row_at {w : World} {base : Nat} {e : TypeId} {v : Value} {n : Nat} {xs : List Value} (h : w.ownsRow base e 1 v n xs) {j : Nat} (hj : j < n) : ∃ g cap u, v = .slice (some ⟨g, 0, none⟩) n cap ∧ xs[j]? = some u ∧ w.cell? ⟨g, j, none⟩ = some u := by
  have hl := h.1
  rcases h.2 with ⟨_, h0⟩ | ⟨g, cap, cur, rfl, _, hg, hn, _, hs, ht⟩
  · omega
  · obtain ⟨u, hx⟩ : ∃ u, xs[j]? = some u := ⟨_, List.getElem?_eq_getElem (by omega)⟩
    refine ⟨g, cap, u, rfl, hx, cell_of hg ?_⟩
    have hy := hx
    rw [← ht, List.getElem?_take] at hy
    split at hy
    · simpa using hy
    · cases hy
theorem xor1_q {q : Nat} (h : q ≤ 1) : bits .xor .i64 (q : Int) 1 = ((1 - q : Nat) : Int) := by
  have : q = 0 ∨ q = 1 := by omega
  rcases this with rfl | rfl <;> decide
theorem hurt_at {w : World} {base n : Nat} {v : Value} {zs : List Int} {S : Nat → Bool} (h : w.ownsRow base 3 1 v zs.length (ntCells zs)) (hz : ∀ z ∈ zs, ∃ j : Nat, z = (j : Int) ∧ j < n ∧ S j = true) {j : Nat} (hj : j < zs.length) :
    ∃ g cap k, v = .slice (some ⟨g, 0, none⟩) zs.length cap ∧ w.cell? ⟨g, j, none⟩ = some (.int .i64 ((k : Nat) : Int)) ∧ k < n ∧ S k = true := by
  obtain ⟨g, cap, u, hv, hu, hc⟩ := row_at h hj
  obtain ⟨k, e, h1, h2⟩ := hz _ (List.getElem_mem hj)
  refine ⟨g, cap, k, hv, ?_, h1, h2⟩
  rw [hc, ← hu, ← e]
  unfold ntCells
  rw [List.getElem?_map, List.getElem?_eq_getElem hj]
  rfl
end
/-- What a round over the map leaves: the store, the damage that is left, the pieces. -/
structure HrL (m : Nat) (E : Nat → Prop) (w : World) (b B mb r r0 c : Nat) (pv : Value) (t : ByteArray) (Dm : DataW Unit) (left : Lit → Bool) (n : Nat) (sv : Value) (D : Dv) : Prop where
  st : StC m E w b B 200 0 (ofL 7 2 t) sv 0 D
  hm : Hm D t (lfS left)
  rg : RgI w mb r c Dm left n
  row : w.ownsRow r0 9 1 pv (cutS t).length (strCells' (cutS t))
  eb : E mb
  eR : E r
  er : ∀ g, pv.ownBlock = some g → E g
  inn : ∀ kl, left kl = true → Maps.has Dm kl = true
section
variable {m : Nat} {E : Nat → Prop} {w x y : World} {b B mb r r0 c k n n1 : Nat} {pv sv : Value} {D D' : Dv} {t : ByteArray} {S : Nat → Bool} {Dm : DataW Unit} {left : Lit → Bool}
theorem below_none (h : w.grownBy x none) : Below w.heap.size w x := ⟨h.os, h.tape, h.output, h.size, fun j hj => h.block j hj (by simp)⟩
theorem HrW.ranged (h : HrW m E w b B mb r0 pv t c S sv D) (hD : BadD Dm (cutN t.size) S) (hr : RgI x mb w.heap.size c Dm (Maps.has Dm) n) (hg : w.grownBy x none) :
    HrL m (fun k => E k ∨ (w.heap.size ≤ k ∧ k < x.heap.size)) x b B mb w.heap.size r0 c pv t Dm (Maps.has Dm) n sv D ∧ (b ≠ w.heap.size ∧ (∀ g, sv.ownBlock = some g → g ≠ w.heap.size) ∧ ∀ g, pv.ownBlock = some g → g ≠ w.heap.size) := by
  have hb := below_none hg
  refine ⟨⟨h.st.grow hb, h.hm.same (fun k hk => hD.has k hk), hr, (h.below hb).row, .inl h.eb, .inr ⟨Nat.le_refl _, hr.lt⟩, fun g hg => .inl (h.er g hg), fun _ h => h⟩, ?_, fun g hg => ?_, fun g hg => ?_⟩
  · have := h.st.lt' b h.st.sto.eb; omega
  · have := h.st.lt' g (h.st.sto.own g hg).1; omega
  · have := h.st.lt' g (h.er g hg); omega
theorem HrL.step (h : HrL m E w b B mb r r0 c pv t Dm left n sv D) (hg : w.grownBy x (some r)) (hv : b ≠ r ∧ (∀ g, sv.ownBlock = some g → g ≠ r) ∧ ∀ g, pv.ownBlock = some g → g ≠ r) :
    StC m E x b B 200 0 (ofL 7 2 t) sv 0 D ∧ x.ownsRow r0 9 1 pv (cutS t).length (strCells' (cutS t)) :=
  ⟨h.st.mapped hg h.eR hv.1 hv.2.1, ownsRow_same h.row (fun j hj => hg.block j (h.st.lt' j (h.er j hj)) (fun e => hv.2.2 j hj (Option.some.inj e)))⟩
theorem HrL.next (h : HrL m E w b B mb r r0 c pv t Dm left n sv D) (hk : k < cutN t.size) (hr : RgI x mb r c Dm (fun z => left z && !z.sameKey (.int .i64 (k : Int))) n1) (hrow : x.ownsRow r0 9 1 pv (cutS t).length (strCells' (cutS t))) (hs : StC m E y b B 200 0 (ofL 7 2 t) sv 0 D') (hm : Hm D' t (dnS (lfS left) k)) (hkp : Kept E x y) :
    HrL m E y b B mb r r0 c pv t Dm (fun z => left z && !z.sameKey (.int .i64 (k : Int))) n1 sv D' :=
  ⟨hs, by rw [lfS_step]; exact hm, hr.keep hkp h.eb h.eR, row_kept hrow hkp h.er, h.eb, h.eR, h.er, fun kl hkl => h.inn kl (by simp only [Bool.and_eq_true] at hkl; exact hkl.1)⟩
theorem keyH_inv {z : Int} {kl : Lit} {n : Nat} (hkey : keyOf Tryd.prog 3 (.int .i64 z) = some kl) (hD : BadD Dm n S) (hh : Maps.has Dm kl = true) : ∃ k : Nat, k < n ∧ z = (k : Int) ∧ kl = .int .i64 (k : Int) := by
  obtain ⟨k, hk, rfl⟩ := hD.in' kl hh
  obtain ⟨x, h1, h2, _⟩ := Maps.keyOf_int_inv und_iH hkey
  injection h1 with _ h1
  injection h2 with _ h2
  exact ⟨k, hk, by omega, rfl⟩
theorem cat_size (a : ByteArray) (z : UInt8) : (a ++ ⟨#[z]⟩ : ByteArray).size = a.size + 1 := by
  rw [ByteArray.size_append]; rfl
end
end
end Go.Proofs.YtiknfifiglooeaaDoor
