/- A device's contents in plain words: what slot reads from each block, what writing, flushing and losing make of it; a store's snapshots on it. No program. -/
import Derived.Test.YtiknfifiglooeaaDoorChunkHd
namespace Go.Proofs.YtiknfifiglooeaaDoor
open Go.RowKit
set_option linter.unusedVariables false
set_option maxRecDepth 100000

/-- What a block reads as. -/
def rd (b : Blk) : Rc × Int := if b.lost = true then (rc0, 2) else getF b.contents
theorem rd_new : rd blk0 = (rc0, 0) := rfl
theorem rd_lost {b : Blk} (h : b.lost = true) : rd b = (rc0, 2) := by unfold rd; rw [if_pos h]
/-- Power, and no fall to come. -/
structure Live (D : Dv) : Prop where
  down : D.down = false
  fall : D.falling = false
/-- .. and nothing that is not durable. -/
structure Calm (D : Dv) : Prop extends Live D where
  pend : ∀ b ∈ D.bs, b.pending = []
  writes : D.writes = 0
/-- What slot reads from block k. -/
def cont (D : Dv) (k : Nat) : Rc × Int := rd (D.bs[k]?.getD blk0)
abbrev Ct := Nat → Rc × Int
def put2 (C : Ct) (k : Nat) (v : Rc × Int) : Ct := fun j => if j = k then v else C j
theorem put2_same (C : Ct) (k : Nat) (v : Rc × Int) : put2 C k v k = v := by unfold put2; rw [if_pos rfl]
theorem put2_other {C : Ct} {k j : Nat} {v : Rc × Int} (h : j ≠ k) : put2 C k v j = C j := by unfold put2; rw [if_neg h]
section
variable {D : Dv} {k : Nat}
theorem Live.up (h : Live D) : D.up = true := by unfold Dv.up; simp [h.down, h.fall]
theorem Live.op (h : Live D) : D.op = D := by unfold Dv.op; simp [h.down, h.fall]
theorem at_lt (hk : k < D.bs.length) : D.bs[k]? = some (D.bs[k]?.getD blk0) := by rw [List.getElem?_eq_getElem hk]; rfl
theorem sread_cont' (h : D.down = false) (hk : k < D.bs.length) : D.sread (k : Int) = ((cont D k).1, (cont D k).2, 0) := by
  have hb := at_lt hk
  unfold cont
  generalize D.bs[k]?.getD blk0 = b at hb
  cases hl : b.lost with
  | true => rw [sread_lost k h hb hl, rd_lost hl]
  | false => rw [sread_of k h hb hl]; unfold rd; rw [if_neg (by simp [hl])]
theorem sread_cont (h : Live D) (hk : k < D.bs.length) : D.sread (k : Int) = ((cont D k).1, (cont D k).2, 0) := sread_cont' h.down hk
theorem rd_write (b : Blk) (n : Nat) (s : ByteArray) : rd (b.write n s) = getF s := by
  unfold rd
  rw [if_neg (by simp [Blk.write]), write_contents]
theorem rd_flush (b : Blk) : rd b.flush = rd b := by
  unfold Blk.flush
  split
  · rfl
  · unfold rd
    rw [contents_nil (b := ⟨b.contents, false, b.lost, []⟩) rfl]
theorem rd_lose (b : Blk) : rd b.lose = (rc0, 2) := rd_lost rfl
theorem cont_set {bs : List Blk} {n t : Nat} {f d : Bool} {b : Blk} (hk : k < bs.length) : cont ⟨bs.set k b, n, f, t, d⟩ = put2 (fun j => rd (bs[j]?.getD blk0)) k (rd b) := by
  funext j
  unfold cont put2
  by_cases h : j = k
  · subst h; rw [if_pos rfl]; simp [hk]
  · rw [if_neg h]; simp only []; rw [List.getElem?_set_ne (fun e => h e.symm)]
theorem swrite_cont (h : Live D) {r : Rc} (ho : r.Ok) (hk : k < D.bs.length) : ∃ D', D.swrite (k : Int) r = (0, D') ∧ Live D' ∧ D'.bs.length = D.bs.length ∧ D'.writes = D.writes + 1 ∧ cont D' = put2 (cont D) k (r, 1) := by
  refine ⟨_, swrite_of k ho h.up (at_lt hk), ⟨by rw [h.op]; exact h.down, by rw [h.op]; exact h.fall⟩, by simp, rfl, ?_⟩
  rw [cont_set hk, rd_write, get_put ho]
  rfl
theorem flush_cont (h : Live D) : ∃ D', D.flush = (0, D') ∧ Calm D' ∧ D'.bs.length = D.bs.length ∧ cont D' = cont D := by
  refine ⟨D.flushed, by unfold Dv.flush; rw [if_pos h.up, h.op], ⟨⟨h.down, h.fall⟩, fun b hb => ?_, rfl⟩, by simp [Dv.flushed], ?_⟩
  · simp only [Dv.flushed, List.mem_map] at hb
    obtain ⟨d, _, rfl⟩ := hb
    exact flush_pending d
  · funext j
    unfold cont Dv.flushed
    simp only [List.getElem?_map]
    cases D.bs[j]? with
    | none => rfl
    | some b => exact rd_flush b
theorem on_cont (f : Blk → Blk) (hk : k < D.bs.length) : (D.onB (k : Int) f).bs.length = D.bs.length ∧ (D.onB (k : Int) f).writes = D.writes ∧ (D.onB (k : Int) f).down = D.down ∧ (D.onB (k : Int) f).falling = D.falling ∧ cont (D.onB (k : Int) f) = put2 (cont D) k (rd (f (D.bs[k]?.getD blk0))) := by
  rw [onB_at rfl (at_lt hk)]
  refine ⟨by simp, rfl, rfl, rfl, ?_⟩
  rw [cont_set hk]
  rfl
theorem lose_cont (h : Calm D) (hk : k < D.bs.length) : Calm (D.onB (k : Int) Blk.lose) ∧ (D.onB (k : Int) Blk.lose).bs.length = D.bs.length ∧ cont (D.onB (k : Int) Blk.lose) = put2 (cont D) k (rc0, 2) := by
  obtain ⟨h1, h2, h3, h4, h5⟩ := on_cont (D := D) Blk.lose hk
  refine ⟨⟨⟨h3.trans h.down, h4.trans h.fall⟩, fun b hb => ?_, h2.trans h.writes⟩, h1, by rw [h5, rd_lose]⟩
  rw [onB_at rfl (at_lt hk)] at hb
  rcases List.mem_or_eq_of_mem_set hb with hb | rfl
  · exact h.pend b hb
  · show (D.bs[k]?.getD blk0).pending = []
    exact h.pend _ (List.mem_of_getElem? (at_lt hk))
theorem new_calm (m : Nat) (hm : m ≤ 4096) : Calm (Dv.new (m : Int)) ∧ (Dv.new (m : Int)).bs.length = m ∧ cont (Dv.new (m : Int)) = fun _ => (rc0, 0) := by
  have e : howMany (m : Int) = m := by unfold howMany; omega
  unfold Dv.new Dv.newN
  rw [e]
  refine ⟨⟨⟨rfl, rfl⟩, fun b hb => by rw [List.eq_of_mem_replicate hb]; rfl, rfl⟩, by simp, ?_⟩
  funext j
  unfold cont
  rw [← rd_new]
  congr 1
  simp only [List.getElem?_replicate]
  split <;> rfl
theorem blk_crash_calm {b : Blk} (h : b.pending = []) (zs : List Int) : b.crash zs = b := by
  obtain ⟨d, s, l, p⟩ := b
  obtain rfl : p = [] := h
  rfl
theorem crash_calm (h : Calm D) (zs : List Int) : Calm (D.crash zs) ∧ (D.crash zs).bs = D.bs ∧ cont (D.crash zs) = cont D := by
  have e : (D.crash zs).bs = D.bs := by
    unfold Dv.crash
    simp only []
    rw [List.map_congr_left (g := id) (fun b hb => blk_crash_calm (h.pend b hb) zs), List.map_id]
  exact ⟨⟨⟨rfl, rfl⟩, by rw [e]; exact h.pend, rfl⟩, e, by funext j; unfold cont; rw [e]⟩
/-- A block written, and made durable. -/
theorem one_cont (h : Live D) {r : Rc} (ho : r.Ok) (hk : k < D.bs.length) : ∃ D', D.one (k : Int) r = (0, D') ∧ Calm D' ∧ D'.bs.length = D.bs.length ∧ cont D' = put2 (cont D) k (r, 1) := by
  obtain ⟨D1, e1, l1, n1, _, c1⟩ := swrite_cont h ho hk
  obtain ⟨D2, e2, l2, n2, c2⟩ := flush_cont l1
  refine ⟨D2, ?_, l2, n2.trans n1, c2.trans c1⟩
  unfold Dv.one
  rw [e1, if_pos rfl, e2]
theorem pair_cont (h : Live D) {r : Rc} (ho : r.Ok) {x y : Nat} (hx : x < D.bs.length) (hy : y < D.bs.length) : ∃ D', D.pair (x : Int) (y : Int) r = (0, D') ∧ Calm D' ∧ D'.bs.length = D.bs.length ∧ cont D' = put2 (put2 (cont D) x (r, 1)) y (r, 1) := by
  obtain ⟨D1, e1, l1, n1, c1⟩ := one_cont h ho hx
  obtain ⟨D2, e2, l2, n2, c2⟩ := one_cont l1.toLive ho (by rw [n1]; exact hy)
  refine ⟨D2, ?_, l2, n2.trans n1, by rw [c2, c1]⟩
  rw [pair_go (by rw [e1]), e1, e2]
end

/-- Numbers that were encoded are read. -/
theorem val_numE7 (z : Int) (h0 : 0 ≤ z) (h1 : z ≤ 281474976710655) : (val (numE z) : Int) = z := by
  unfold numE
  rw [val_be_lt _ _ (by have : (256 : Nat) ^ 6 = 281474976710656 := by decide
                        omega)]
  omega
theorem numF_good7 (z most : Int) (r : List UInt8) (h0 : 0 ≤ z) (hz : z ≤ most) (hm : most ≤ 281474976710655) : numF 6 most (some (numE z ++ r)) = (z, some r) := by
  have hl : (numE z).length = 6 := numE_length z
  have ht : (numE z ++ r).take 6 = numE z := List.take_left' hl
  have hd : (numE z ++ r).drop 6 = r := List.drop_left' hl
  have hv := val_numE7 z h0 (by omega)
  show (if _ then _ else _) = _
  rw [if_neg (by rw [ht, hv, List.length_append, hl]; omega), ht, hd, hv]
theorem rdSm_good (ss : List Int) (r : List UInt8) (hz : ∀ z ∈ ss, 0 ≤ z ∧ z ≤ 4294967295) : ∀ k, k ≤ ss.length → rdSm k (some (numsE ss ++ r)) = (ss.take k, some (numsE (ss.drop k) ++ r))
  | 0, _ => rfl
  | k + 1, hk => by
    have ih := rdSm_good ss r hz k (by omega)
    have hg := hz (ss.getD k 0) (by rw [List.getD_eq_getElem?_getD, List.getElem?_eq_getElem (by omega)]; exact List.getElem_mem _)
    have hd : numsE (ss.drop k) = numE (ss.getD k 0) ++ numsE (ss.drop (k + 1)) := by
      rw [List.drop_eq_getElem_cons (by omega), List.getD_eq_getElem?_getD, List.getElem?_eq_getElem (by omega)]
      rfl
    unfold rdSm
    rw [ih]
    simp only []
    rw [hd, List.append_assoc, numF_good7 _ _ _ hg.1 hg.2 (by decide)]
    refine congrArg (·, _) ?_
    rw [List.take_add_one, List.getElem?_eq_getElem (by omega), List.getD_eq_getElem?_getD, List.getElem?_eq_getElem (by omega)]
    rfl
/-- A list that a store can have. -/
structure Ls.Good (l : Ls) : Prop where
  valid : validB l.index l.term l.bytes l.sums.length = true
  bytes : 0 ≤ l.bytes ∧ l.bytes ≤ 281474976710655
  sums : ∀ z ∈ l.sums, 0 ≤ z ∧ z ≤ 4294967295
section
variable {l : Ls}
theorem Ls.Good.in (h : l.Good) : 1 ≤ l.index ∧ l.index ≤ 1099511627776 ∧ 1 ≤ l.term ∧ l.term ≤ 1099511627776 ∧ (l.sums.length : Int) ≤ 64 ∧ (l.sums.length : Int) = (l.bytes + 399) / 400 := by
  have := h.valid
  unfold validB at this
  exact of_decide_eq_true this
theorem listR_data (l : Ls) : (listR l).data.data.toList = numE l.bytes ++ (numE (l.sums.length : Int) ++ numsE l.sums) := by
  show (numsE (l.bytes :: (l.sums.length : Int) :: l.sums)).toArray.toList = _
  simp [numsE]
theorem listF_listR (h : l.Good) : listF (listR l) = l := by
  obtain ⟨h1, h2, h3, h4, h5, h6⟩ := h.in
  have ea : loA (listR l) = (l.bytes, some (numE (l.sums.length : Int) ++ numsE l.sums)) := by
    unfold loA
    rw [listR_data, numF_good7 _ _ _ h.bytes.1 h.bytes.2 (by decide)]
  have eb : loB (listR l) = ((l.sums.length : Int), some (numsE l.sums)) := by
    unfold loB
    rw [ea]
    exact numF_good7 _ _ _ (by omega) (by omega) (by decide)
  have ec : loC (listR l) = (l.sums, some []) := by
    unfold loC
    rw [eb]
    have := rdSm_good l.sums [] h.sums l.sums.length (Nat.le_refl _)
    rw [List.append_nil, List.take_length, List.drop_length] at this
    exact this
  unfold listF
  rw [ec, ea, if_pos ⟨rfl, rfl, h.valid⟩]
  rfl
theorem listR_ok (h : l.Good) : (listR l).Ok := by
  obtain ⟨h1, h2, h3, h4, h5, h6⟩ := h.in
  refine ⟨⟨⟨by show (0 : Int) ≤ 4; decide, by show (4 : Int) ≤ _; decide⟩, ⟨?_, ?_⟩, ⟨?_, ?_⟩⟩, ?_⟩
  · show 0 ≤ l.index; omega
  · show l.index ≤ _; omega
  · show 0 ≤ l.term; omega
  · show l.term ≤ _; omega
  · show (numsE (l.bytes :: (l.sums.length : Int) :: l.sums)).toArray.size ≤ 488
    rw [List.size_toArray, numsE_length]
    simp only [List.length_cons]
    omega
theorem chunkR_ok {i k : Int} {c : ByteArray} (hi : 0 ≤ i ∧ i ≤ 281474976710655) (hk : 0 ≤ k ∧ k ≤ 281474976710655) (hc : c.size ≤ 488) : (chunkR i k c).Ok := ⟨⟨⟨by show (0 : Int) ≤ 5; decide, by show (5 : Int) ≤ _; decide⟩, hi, hk⟩, hc⟩
end
/-- The list of a snapshot. -/
theorem ofL_good {i t : Int} {s : ByteArray} (h : (ofL i t s).bad 0 = false) (hs : s.size ≤ 100000000) : (ofL i t s).Good := by
  unfold Ls.bad at h
  simp only [Bool.or_eq_false_iff, Bool.not_eq_false'] at h
  exact ⟨h.1, ⟨Int.natCast_nonneg _, by show (s.size : Int) ≤ _; omega⟩, sumsOf_in s⟩
theorem ofL_good2 {i t : Int} {s : ByteArray} (hi : 1 ≤ i ∧ i ≤ 1099511627776) (ht : 1 ≤ t ∧ t ≤ 1099511627776) (hs : s.size ≤ 25600) : (ofL i t s).Good := by
  refine ⟨?_, ⟨Int.natCast_nonneg _, by show (s.size : Int) ≤ _; omega⟩, sumsOf_in s⟩
  have e : (ofL i t s).sums.length = cutN s.size := sumsOf_length s
  rw [e]
  unfold validB cutN
  show decide (1 ≤ i ∧ i ≤ 1099511627776 ∧ 1 ≤ t ∧ t ≤ 1099511627776 ∧ (((s.size + 399) / 400 : Nat) : Int) ≤ 64 ∧ (((s.size + 399) / 400 : Nat) : Int) = ((s.size : Int) + 399) / 400) = true
  exact decide_eq_true ⟨hi.1, hi.2, ht.1, ht.2, by omega, by omega⟩
theorem cutN_le {n : Nat} : (cutN n ≤ 64) ↔ n ≤ 25600 := by unfold cutN; omega
theorem cut_size (s : ByteArray) {k : Nat} (hk : k < cutN s.size) : (cutAt s k).size = min 400 (s.size - 400 * k) ∧ 1 ≤ (cutAt s k).size ∧ (cutAt s k).size ≤ 400 := by
  rw [cutAt_size]
  unfold cutN at hk
  omega
theorem match_cut (i t : Int) (s : ByteArray) {k : Nat} (hk : k < cutN s.size) : matchB (ofL i t s) k (cutAt s k) = true := by
  unfold matchB
  refine decide_eq_true ⟨?_, ?_⟩
  · rw [(cut_size s hk).1]
    show (((min 400 (s.size - 400 * k) : Nat)) : Int) = min ((s.size : Int) - (k : Int) * 400) 400
    unfold cutN at hk
    omega
  · show _ = (sumsOf s).getD k 0
    unfold sumsOf cutS
    rw [List.getD_eq_getElem?_getD, List.getElem?_map, List.getElem?_map, List.getElem?_range hk]
    rfl
/-- The chunks joined so far. -/
def cutT (s : ByteArray) (k : Nat) : ByteArray := s.extract 0 (400 * k)
theorem cutT_zero (s : ByteArray) : cutT s 0 = ⟨#[]⟩ := by
  unfold cutT
  ext1
  simp
theorem cutT_succ (s : ByteArray) (k : Nat) : cutT s k ++ cutAt s k = cutT s (k + 1) := by
  unfold cutT cutAt
  rw [ByteArray.extract_append_extract]
  congr 1 <;> omega
theorem cutT_all (s : ByteArray) : cutT s (cutN s.size) = s := by
  unfold cutT cutN
  conv => rhs; rw [← ByteArray.extract_zero_size (b := s)]
  rw [ByteArray.ext_iff]
  simp only [ByteArray.data_extract]
  rw [Array.extract_eq_extract_right]
  simp only [← ByteArray.size_data] 
  omega
end Go.Proofs.YtiknfifiglooeaaDoor
