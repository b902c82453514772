/- A device's contents in plain words: what slot reads from each block, what writing, flushing and losing make of it; a store's snapshots on it. No program. A store's snapshots on a device's contents, in plain words: what Put makes of them, what Chunk, Hurt and Open read. No program. A store beside its device, nothing amiss with the power: Open, Put and Lose in one statement each. No conditions beyond those in each statement. -/
import Derived.Test.YtiknfifiglooeaaDoorChunkHd
import Derived.Test.YtiknfifiglooeaaDoorChunkTx
namespace Go.Proofs.YtiknfifiglooeaaDoor
section
open Go.RowKit
set_option linter.unusedVariables false
set_option maxRecDepth 100000

/-- What a block reads as. -/
def rd (b : Blk) : Rc × Int := if b.lost = true then (rc0, 2) else getF b.contents
theorem rd_new : rd blk0 = (rc0, 0) := rfl
theorem rd_lost {b : Blk} (h : b.lost = true) : rd b = (rc0, 2) := by unfold rd; rw [if_pos h]
/-- Power, and no fall to come. -/
structure Live (D : Dv) : Prop where
  down : D.down = false
  fall : D.falling = false
/-- .. and nothing that is not durable. -/
structure Calm (D : Dv) : Prop extends Live D where
  pend : ∀ b ∈ D.bs, b.pending = []
  writes : D.writes = 0
/-- What slot reads from block k. -/
def cont (D : Dv) (k : Nat) : Rc × Int := rd (D.bs[k]?.getD blk0)
abbrev Ct := Nat → Rc × Int
def put2 (C : Ct) (k : Nat) (v : Rc × Int) : Ct := fun j => if j = k then v else C j
theorem put2_same (C : Ct) (k : Nat) (v : Rc × Int) : put2 C k v k = v := by unfold put2; rw [if_pos rfl]
theorem put2_other {C : Ct} {k j : Nat} {v : Rc × Int} (h : j ≠ k) : put2 C k v j = C j := by unfold put2; rw [if_neg h]
section
variable {D : Dv} {k : Nat}
theorem Live.up (h : Live D) : D.up = true := by unfold Dv.up; simp [h.down, h.fall]
theorem Live.op (h : Live D) : D.op = D := by unfold Dv.op; simp [h.down, h.fall]
theorem at_lt (hk : k < D.bs.length) : D.bs[k]? = some (D.bs[k]?.getD blk0) := by rw [List.getElem?_eq_getElem hk]; rfl
theorem sread_cont' (h : D.down = false) (hk : k < D.bs.length) : D.sread (k : Int) = ((cont D k).1, (cont D k).2, 0) := by
  have hb := at_lt hk
  unfold cont
  generalize D.bs[k]?.getD blk0 = b at hb
  cases hl : b.lost with
  | true => rw [sread_lost k h hb hl, rd_lost hl]
  | false => rw [sread_of k h hb hl]; unfold rd; rw [if_neg (by simp [hl])]
theorem sread_cont (h : Live D) (hk : k < D.bs.length) : D.sread (k : Int) = ((cont D k).1, (cont D k).2, 0) := sread_cont' h.down hk
theorem rd_write (b : Blk) (n : Nat) (s : ByteArray) : rd (b.write n s) = getF s := by
  unfold rd
  rw [if_neg (by simp [Blk.write]), write_contents]
theorem rd_flush (b : Blk) : rd b.flush = rd b := by
  unfold Blk.flush
  split
  · rfl
  · unfold rd
    rw [contents_nil (b := ⟨b.contents, false, b.lost, []⟩) rfl]
theorem rd_lose (b : Blk) : rd b.lose = (rc0, 2) := rd_lost rfl
theorem cont_set {bs : List Blk} {n t : Nat} {f d : Bool} {b : Blk} (hk : k < bs.length) : cont ⟨bs.set k b, n, f, t, d⟩ = put2 (fun j => rd (bs[j]?.getD blk0)) k (rd b) := by
  funext j
  unfold cont put2
  by_cases h : j = k
  · subst h; rw [if_pos rfl]; simp [hk]
  · rw [if_neg h]; simp only []; rw [List.getElem?_set_ne (fun e => h e.symm)]
theorem swrite_cont (h : Live D) {r : Rc} (ho : r.Ok) (hk : k < D.bs.length) : ∃ D', D.swrite (k : Int) r = (0, D') ∧ Live D' ∧ D'.bs.length = D.bs.length ∧ D'.writes = D.writes + 1 ∧ cont D' = put2 (cont D) k (r, 1) := by
  refine ⟨_, swrite_of k ho h.up (at_lt hk), ⟨by rw [h.op]; exact h.down, by rw [h.op]; exact h.fall⟩, by simp, rfl, ?_⟩
  rw [cont_set hk, rd_write, get_put ho]
  rfl
theorem flush_cont (h : Live D) : ∃ D', D.flush = (0, D') ∧ Calm D' ∧ D'.bs.length = D.bs.length ∧ cont D' = cont D := by
  refine ⟨D.flushed, by unfold Dv.flush; rw [if_pos h.up, h.op], ⟨⟨h.down, h.fall⟩, fun b hb => ?_, rfl⟩, by simp [Dv.flushed], ?_⟩
  · simp only [Dv.flushed, List.mem_map] at hb
    obtain ⟨d, _, rfl⟩ := hb
    exact flush_pending d
  · funext j
    unfold cont Dv.flushed
    simp only [List.getElem?_map]
    cases D.bs[j]? with
    | none => rfl
    | some b => exact rd_flush b
theorem on_cont (f : Blk → Blk) (hk : k < D.bs.length) : (D.onB (k : Int) f).bs.length = D.bs.length ∧ (D.onB (k : Int) f).writes = D.writes ∧ (D.onB (k : Int) f).down = D.down ∧ (D.onB (k : Int) f).falling = D.falling ∧ cont (D.onB (k : Int) f) = put2 (cont D) k (rd (f (D.bs[k]?.getD blk0))) := by
  rw [onB_at rfl (at_lt hk)]
  refine ⟨by simp, rfl, rfl, rfl, ?_⟩
  rw [cont_set hk]
  rfl
theorem lose_cont (h : Calm D) (hk : k < D.bs.length) : Calm (D.onB (k : Int) Blk.lose) ∧ (D.onB (k : Int) Blk.lose).bs.length = D.bs.length ∧ cont (D.onB (k : Int) Blk.lose) = put2 (cont D) k (rc0, 2) := by
  obtain ⟨h1, h2, h3, h4, h5⟩ := on_cont (D := D) Blk.lose hk
  refine ⟨⟨⟨h3.trans h.down, h4.trans h.fall⟩, fun b hb => ?_, h2.trans h.writes⟩, h1, by rw [h5, rd_lose]⟩
  rw [onB_at rfl (at_lt hk)] at hb
  rcases List.mem_or_eq_of_mem_set hb with hb | rfl
  · exact h.pend b hb
  · show (D.bs[k]?.getD blk0).pending = []
    exact h.pend _ (List.mem_of_getElem? (at_lt hk))
theorem new_calm (m : Nat) (hm : m ≤ 4096) : Calm (Dv.new (m : Int)) ∧ (Dv.new (m : Int)).bs.length = m ∧ cont (Dv.new (m : Int)) = fun _ => (rc0, 0) := by
  have e : howMany (m : Int) = m := by unfold howMany; omega
  unfold Dv.new Dv.newN
  rw [e]
  refine ⟨⟨⟨rfl, rfl⟩, fun b hb => by rw [List.eq_of_mem_replicate hb]; rfl, rfl⟩, by simp, ?_⟩
  funext j
  unfold cont
  rw [← rd_new]
  congr 1
  simp only [List.getElem?_replicate]
  split <;> rfl
theorem blk_crash_calm {b : Blk} (h : b.pending = []) (zs : List Int) : b.crash zs = b := by
  obtain ⟨d, s, l, p⟩ := b
  obtain rfl : p = [] := h
  rfl
theorem crash_calm (h : Calm D) (zs : List Int) : Calm (D.crash zs) ∧ (D.crash zs).bs = D.bs ∧ cont (D.crash zs) = cont D := by
  have e : (D.crash zs).bs = D.bs := by
    unfold Dv.crash
    simp only []
    rw [List.map_congr_left (g := id) (fun b hb => blk_crash_calm (h.pend b hb) zs), List.map_id]
  exact ⟨⟨⟨rfl, rfl⟩, by rw [e]; exact h.pend, rfl⟩, e, by funext j; unfold cont; rw [e]⟩
/-- A block written, and made durable. -/
theorem one_cont (h : Live D) {r : Rc} (ho : r.Ok) (hk : k < D.bs.length) : ∃ D', D.one (k : Int) r = (0, D') ∧ Calm D' ∧ D'.bs.length = D.bs.length ∧ cont D' = put2 (cont D) k (r, 1) := by
  obtain ⟨D1, e1, l1, n1, _, c1⟩ := swrite_cont h ho hk
  obtain ⟨D2, e2, l2, n2, c2⟩ := flush_cont l1
  refine ⟨D2, ?_, l2, n2.trans n1, c2.trans c1⟩
  unfold Dv.one
  rw [e1, if_pos rfl, e2]
theorem pair_cont (h : Live D) {r : Rc} (ho : r.Ok) {x y : Nat} (hx : x < D.bs.length) (hy : y < D.bs.length) : ∃ D', D.pair (x : Int) (y : Int) r = (0, D') ∧ Calm D' ∧ D'.bs.length = D.bs.length ∧ cont D' = put2 (put2 (cont D) x (r, 1)) y (r, 1) := by
  obtain ⟨D1, e1, l1, n1, c1⟩ := one_cont h ho hx
  obtain ⟨D2, e2, l2, n2, c2⟩ := one_cont l1.toLive ho (by rw [n1]; exact hy)
  refine ⟨D2, ?_, l2, n2.trans n1, by rw [c2, c1]⟩
  rw [pair_go (by rw [e1]), e1, e2]
end

/-- Numbers that were encoded are read. -/
theorem val_numE7 (z : Int) (h0 : 0 ≤ z) (h1 : z ≤ 281474976710655) : (val (numE z) : Int) = z := by
  unfold numE
  rw [val_be_lt _ _ (by have : (256 : Nat) ^ 6 = 281474976710656 := by decide
                        omega)]
  omega
theorem numF_good7 (z most : Int) (r : List UInt8) (h0 : 0 ≤ z) (hz : z ≤ most) (hm : most ≤ 281474976710655) : numF 6 most (some (numE z ++ r)) = (z, some r) := by
  have hl : (numE z).length = 6 := numE_length z
  have ht : (numE z ++ r).take 6 = numE z := List.take_left' hl
  have hd : (numE z ++ r).drop 6 = r := List.drop_left' hl
  have hv := val_numE7 z h0 (by omega)
  show (if _ then _ else _) = _
  rw [if_neg (by rw [ht, hv, List.length_append, hl]; omega), ht, hd, hv]
theorem rdSm_good (ss : List Int) (r : List UInt8) (hz : ∀ z ∈ ss, 0 ≤ z ∧ z ≤ 4294967295) : ∀ k, k ≤ ss.length → rdSm k (some (numsE ss ++ r)) = (ss.take k, some (numsE (ss.drop k) ++ r))
  | 0, _ => rfl
  | k + 1, hk => by
    have ih := rdSm_good ss r hz k (by omega)
    have hg := hz (ss.getD k 0) (by rw [List.getD_eq_getElem?_getD, List.getElem?_eq_getElem (by omega)]; exact List.getElem_mem _)
    have hd : numsE (ss.drop k) = numE (ss.getD k 0) ++ numsE (ss.drop (k + 1)) := by
      rw [List.drop_eq_getElem_cons (by omega), List.getD_eq_getElem?_getD, List.getElem?_eq_getElem (by omega)]
      rfl
    unfold rdSm
    rw [ih]
    simp only []
    rw [hd, List.append_assoc, numF_good7 _ _ _ hg.1 hg.2 (by decide)]
    refine congrArg (·, _) ?_
    rw [List.take_add_one, List.getElem?_eq_getElem (by omega), List.getD_eq_getElem?_getD, List.getElem?_eq_getElem (by omega)]
    rfl
/-- A list that a store can have. -/
structure Ls.Good (l : Ls) : Prop where
  valid : validB l.index l.term l.bytes l.sums.length = true
  bytes : 0 ≤ l.bytes ∧ l.bytes ≤ 281474976710655
  sums : ∀ z ∈ l.sums, 0 ≤ z ∧ z ≤ 4294967295
section
variable {l : Ls}
theorem Ls.Good.in (h : l.Good) : 1 ≤ l.index ∧ l.index ≤ 1099511627776 ∧ 1 ≤ l.term ∧ l.term ≤ 1099511627776 ∧ (l.sums.length : Int) ≤ 64 ∧ (l.sums.length : Int) = (l.bytes + 399) / 400 := by
  have := h.valid
  unfold validB at this
  exact of_decide_eq_true this
theorem listR_data (l : Ls) : (listR l).data.data.toList = numE l.bytes ++ (numE (l.sums.length : Int) ++ numsE l.sums) := by
  show (numsE (l.bytes :: (l.sums.length : Int) :: l.sums)).toArray.toList = _
  simp [numsE]
theorem listF_listR (h : l.Good) : listF (listR l) = l := by
  obtain ⟨h1, h2, h3, h4, h5, h6⟩ := h.in
  have ea : loA (listR l) = (l.bytes, some (numE (l.sums.length : Int) ++ numsE l.sums)) := by
    unfold loA
    rw [listR_data, numF_good7 _ _ _ h.bytes.1 h.bytes.2 (by decide)]
  have eb : loB (listR l) = ((l.sums.length : Int), some (numsE l.sums)) := by
    unfold loB
    rw [ea]
    exact numF_good7 _ _ _ (by omega) (by omega) (by decide)
  have ec : loC (listR l) = (l.sums, some []) := by
    unfold loC
    rw [eb]
    have := rdSm_good l.sums [] h.sums l.sums.length (Nat.le_refl _)
    rw [List.append_nil, List.take_length, List.drop_length] at this
    exact this
  unfold listF
  rw [ec, ea, if_pos ⟨rfl, rfl, h.valid⟩]
  rfl
theorem listR_ok (h : l.Good) : (listR l).Ok := by
  obtain ⟨h1, h2, h3, h4, h5, h6⟩ := h.in
  refine ⟨⟨⟨by show (0 : Int) ≤ 4; decide, by show (4 : Int) ≤ _; decide⟩, ⟨?_, ?_⟩, ⟨?_, ?_⟩⟩, ?_⟩
  · show 0 ≤ l.index; omega
  · show l.index ≤ _; omega
  · show 0 ≤ l.term; omega
  · show l.term ≤ _; omega
  · show (numsE (l.bytes :: (l.sums.length : Int) :: l.sums)).toArray.size ≤ 488
    rw [List.size_toArray, numsE_length]
    simp only [List.length_cons]
    omega
theorem chunkR_ok {i k : Int} {c : ByteArray} (hi : 0 ≤ i ∧ i ≤ 281474976710655) (hk : 0 ≤ k ∧ k ≤ 281474976710655) (hc : c.size ≤ 488) : (chunkR i k c).Ok := ⟨⟨⟨by show (0 : Int) ≤ 5; decide, by show (5 : Int) ≤ _; decide⟩, hi, hk⟩, hc⟩
end
/-- The list of a snapshot. -/
theorem ofL_good {i t : Int} {s : ByteArray} (h : (ofL i t s).bad 0 = false) (hs : s.size ≤ 100000000) : (ofL i t s).Good := by
  unfold Ls.bad at h
  simp only [Bool.or_eq_false_iff, Bool.not_eq_false'] at h
  exact ⟨h.1, ⟨Int.natCast_nonneg _, by show (s.size : Int) ≤ _; omega⟩, sumsOf_in s⟩
theorem ofL_good2 {i t : Int} {s : ByteArray} (hi : 1 ≤ i ∧ i ≤ 1099511627776) (ht : 1 ≤ t ∧ t ≤ 1099511627776) (hs : s.size ≤ 25600) : (ofL i t s).Good := by
  refine ⟨?_, ⟨Int.natCast_nonneg _, by show (s.size : Int) ≤ _; omega⟩, sumsOf_in s⟩
  have e : (ofL i t s).sums.length = cutN s.size := sumsOf_length s
  rw [e]
  unfold validB cutN
  show decide (1 ≤ i ∧ i ≤ 1099511627776 ∧ 1 ≤ t ∧ t ≤ 1099511627776 ∧ (((s.size + 399) / 400 : Nat) : Int) ≤ 64 ∧ (((s.size + 399) / 400 : Nat) : Int) = ((s.size : Int) + 399) / 400) = true
  exact decide_eq_true ⟨hi.1, hi.2, ht.1, ht.2, by omega, by omega⟩
theorem cutN_le {n : Nat} : (cutN n ≤ 64) ↔ n ≤ 25600 := by unfold cutN; omega
theorem cut_size (s : ByteArray) {k : Nat} (hk : k < cutN s.size) : (cutAt s k).size = min 400 (s.size - 400 * k) ∧ 1 ≤ (cutAt s k).size ∧ (cutAt s k).size ≤ 400 := by
  rw [cutAt_size]
  unfold cutN at hk
  omega
theorem match_cut (i t : Int) (s : ByteArray) {k : Nat} (hk : k < cutN s.size) : matchB (ofL i t s) k (cutAt s k) = true := by
  unfold matchB
  refine decide_eq_true ⟨?_, ?_⟩
  · rw [(cut_size s hk).1]
    show (((min 400 (s.size - 400 * k) : Nat)) : Int) = min ((s.size : Int) - (k : Int) * 400) 400
    unfold cutN at hk
    omega
  · show _ = (sumsOf s).getD k 0
    unfold sumsOf cutS
    rw [List.getD_eq_getElem?_getD, List.getElem?_map, List.getElem?_map, List.getElem?_range hk]
    rfl
/-- The chunks joined so far. -/
def cutT (s : ByteArray) (k : Nat) : ByteArray := s.extract 0 (400 * k)
theorem cutT_zero (s : ByteArray) : cutT s 0 = ⟨#[]⟩ := by
  unfold cutT
  ext1
  simp
theorem cutT_succ (s : ByteArray) (k : Nat) : cutT s k ++ cutAt s k = cutT s (k + 1) := by
  unfold cutT cutAt
  rw [ByteArray.extract_append_extract]
  congr 1 <;> omega
theorem cutT_all (s : ByteArray) : cutT s (cutN s.size) = s := by
  unfold cutT cutN
  conv => rhs; rw [← ByteArray.extract_zero_size (b := s)]
  rw [ByteArray.ext_iff]
  simp only [ByteArray.data_extract]
  rw [Array.extract_eq_extract_right]
  simp only [← ByteArray.size_data] 
  omega
end
section
open Go.RowKit
set_option linter.unusedVariables false
set_option maxRecDepth 100000

/-- Chunks written one behind the other. -/
def wrC (q : Nat) (i : Int) : Ct → Nat → List ByteArray → Ct
  | C, _, [] => C
  | C, k, c :: cs => wrC q i (put2 C (q + k) (chunkR i (k : Int) c, 1)) (k + 1) cs
theorem wrC_out (q : Nat) (i : Int) : ∀ (cs : List ByteArray) (C : Ct) (k j : Nat), (j < q + k ∨ q + k + cs.length ≤ j) → wrC q i C k cs j = C j
  | [], C, k, j, _ => rfl
  | c :: cs, C, k, j, h => by
    unfold wrC
    simp only [List.length_cons] at h
    rw [wrC_out q i cs _ _ j (by omega), put2_other (by omega)]
theorem wrC_at (q : Nat) (i : Int) : ∀ (cs : List ByteArray) (C : Ct) (k j : Nat), j < cs.length → wrC q i C k cs (q + k + j) = (chunkR i ((k + j : Nat) : Int) (cs.getD j ByteArray.empty), 1)
  | [], C, k, j, h => by simp at h
  | c :: cs, C, k, 0, h => by
    unfold wrC
    rw [wrC_out q i cs _ _ _ (by omega), Nat.add_zero, put2_same]
    rfl
  | c :: cs, C, k, j + 1, h => by
    unfold wrC
    have := wrC_at q i cs (put2 C (q + k) (chunkR i (k : Int) c, 1)) (k + 1) j (by simpa using h)
    rw [show q + k + (j + 1) = q + (k + 1) + j by omega, this, show k + 1 + j = k + (j + 1) by omega]
    simp
theorem wrs_cont {q : Nat} {i : Int} (hi : 0 ≤ i ∧ i ≤ 281474976710655) : ∀ (cs : List ByteArray) (D : Dv) (k : Nat), Live D → (∀ c ∈ cs, c.size ≤ 488) → q + k + cs.length ≤ D.bs.length → D.bs.length ≤ 4096 →
    ∃ D', Dv.wrs (q : Int) i D k cs = (0, D') ∧ Live D' ∧ D'.bs.length = D.bs.length ∧ cont D' = wrC q i (cont D) k cs
  | [], D, k, h, _, _, _ => ⟨D, rfl, h, rfl, rfl⟩
  | c :: cs, D, k, h, hc, hr, hb => by
    simp only [List.length_cons] at hr
    obtain ⟨D1, e1, l1, n1, _, c1⟩ := swrite_cont h (chunkR_ok (k := (k : Int)) hi ⟨by omega, by omega⟩ (hc c (by simp))) (k := q + k) (by omega)
    obtain ⟨D2, e2, l2, n2, c2⟩ := wrs_cont (q := q) hi cs D1 (k + 1) l1 (fun x hx => hc x (List.mem_cons_of_mem _ hx)) (by omega) (by omega)
    have e : (q : Int) + (k : Int) = ((q + k : Nat) : Int) := by omega
    refine ⟨D2, ?_, l2, n2.trans n1, ?_⟩
    · rw [wrs_go (by rw [e, e1]), e, e1]; exact e2
    · rw [c2, c1]; rfl
theorem cutS_at (s : ByteArray) {k : Nat} (hk : k < cutN s.size) : (cutS s).getD k ByteArray.empty = cutAt s k := by
  unfold cutS
  rw [List.getD_eq_getElem?_getD, List.getElem?_map, List.getElem?_range hk]
  rfl
theorem cutS_size (s : ByteArray) : ∀ c ∈ cutS s, c.size ≤ 488 := by
  intro c hc
  obtain ⟨k, hk, rfl⟩ := List.mem_map.1 hc
  have := cut_size s (List.mem_range.1 hk)
  omega
/-- A snapshot put into the area that begins at block a. -/
def putC (C : Ct) (a : Nat) (i t : Int) (s : ByteArray) : Ct := put2 (put2 (wrC (a + 2) i C 0 (cutS s)) a (listR (ofL i t s), 1)) (a + 1) (listR (ofL i t s), 1)
section
variable {C : Ct} {a : Nat} {i t : Int} {s : ByteArray}
theorem putC_l0 : putC C a i t s a = (listR (ofL i t s), 1) := by unfold putC; rw [put2_other (by omega), put2_same]
theorem putC_l1 : putC C a i t s (a + 1) = (listR (ofL i t s), 1) := by unfold putC; rw [put2_same]
theorem putC_ck {k : Nat} (hk : k < cutN s.size) : putC C a i t s (a + 2 + k) = (chunkR i (k : Int) (cutAt s k), 1) := by
  unfold putC
  rw [put2_other (by omega), put2_other (by omega)]
  have := wrC_at (a + 2) i (cutS s) C 0 k (by rw [cutS_length]; exact hk)
  rw [Nat.add_zero, Nat.zero_add, cutS_at s hk] at this
  exact this
theorem putC_out {j : Nat} (hs : s.size ≤ 25600) (hj : j < a ∨ a + 66 ≤ j) : putC C a i t s j = C j := by
  have := cutN_le.2 hs
  unfold putC
  rw [put2_other (by omega), put2_other (by omega), wrC_out _ _ _ _ _ _ (by rw [cutS_length]; omega)]
end
theorem good_size {i t : Int} {s : ByteArray} (h : (ofL i t s).Good) : s.size ≤ 25600 := by
  have := h.in
  have e : (ofL i t s).sums.length = cutN s.size := sumsOf_length s
  rw [e] at this
  exact cutN_le.1 (by omega)
theorem put_cont {D : Dv} {base i0 area i t : Int} {s : ByteArray} {a : Nat} (h : Live D) (hg : (ofL i t s).Good) (ha : base + nextA i0 area * 66 = (a : Int)) (hr : a + 66 ≤ D.bs.length) (hb : D.bs.length ≤ 4096) :
    ∃ D', putP D base i0 area i t s = (0, D') ∧ Calm D' ∧ D'.bs.length = D.bs.length ∧ cont D' = putC (cont D) a i t s := by
  have hsz := good_size hg
  have hn := cutN_le.2 hsz
  have hin := hg.in
  have hi : 0 ≤ i ∧ i ≤ 281474976710655 := by
    have h1 : 1 ≤ i ∧ i ≤ 1099511627776 := ⟨hin.1, hin.2.1⟩
    omega
  have e0 : wcB base (nextA i0 area) 0 0 = (a : Int) := by unfold wcB; rw [if_pos rfl]; omega
  have e1 : wcB base (nextA i0 area) 0 1 = ((a + 1 : Nat) : Int) := by unfold wcB; rw [if_neg (by decide)]; omega
  have e2 : base + nextA i0 area * 66 + 2 = ((a + 2 : Nat) : Int) := by omega
  obtain ⟨D1, w1, l1, n1, c1⟩ := wrs_cont hi (cutS s) D 0 h (cutS_size s) (q := a + 2) (by rw [cutS_length]; omega) hb
  obtain ⟨D2, w2, l2, n2, c2⟩ := flush_cont l1
  obtain ⟨D3, w3, l3, n3, c3⟩ := pair_cont l2.toLive (listR_ok hg) (x := a) (y := a + 1) (by omega) (by omega)
  refine ⟨D3, ?_, l3, by omega, ?_⟩
  · unfold putP
    rw [e0, e1, e2, put7_go (by rw [w1]) (by rw [w1, w2]), w1, w2]
    exact w3
  · rw [c3, c2, c1]
    rfl
/-- What Chunk answers, from the contents; q is the area's first chunk. -/
noncomputable def chunkC (C : Ct) (q : Nat) (l : Ls) (k : Nat) : ByteArray × Int :=
  open Classical in if (C (q + k)).1 = chunkR l.index (k : Int) (C (q + k)).1.data ∧ matchB l k (C (q + k)).1.data = true then ((C (q + k)).1.data, 0) else (⟨#[]⟩, 6)
theorem chunkF_cont {D : Dv} {base area : Int} {l : Ls} {k q : Nat} (h : D.down = false) (hq : base + area * 66 + 2 = (q : Int)) (hk : q + k < D.bs.length) : chunkF D base area l k = chunkC (cont D) q l k := by
  have e : base + area * 66 + 2 + (k : Int) = ((q + k : Nat) : Int) := by omega
  unfold chunkF chunkC
  rw [e, sread_cont' h hk]
  rfl
theorem chunkC_good {C : Ct} {q k : Nat} {i t : Int} {s : ByteArray} (h : C (q + k) = (chunkR i (k : Int) (cutAt s k), 1)) (hk : k < cutN s.size) : chunkC C q (ofL i t s) k = (cutAt s k, 0) := by
  unfold chunkC
  rw [h]
  exact if_pos ⟨rfl, match_cut i t s hk⟩
theorem chunkC_lost {C : Ct} {q k : Nat} {l : Ls} (h : C (q + k) = (rc0, 2)) : chunkC C q l k = (⟨#[]⟩, 6) := by
  unfold chunkC
  rw [h]
  exact if_neg (fun e => by have := congrArg Rc.kind e.1; simp [rc0, chunkR] at this)
/-- The list that a block is a copy of. -/
def cpC (C : Ct) (q : Nat) : Ls := listF (C q).1
theorem cpC_list {C : Ct} {q : Nat} {l : Ls} {x : Int} (h : C q = (listR l, x)) (hg : l.Good) : cpC C q = l := by unfold cpC; rw [h]; exact listF_listR hg
theorem cpC_rc0 {C : Ct} {q : Nat} {x : Int} (h : C q = (rc0, x)) : cpC C q = ls0 := by unfold cpC; rw [h]; exact listF_none (by show (0 : Int) ≠ 4; decide)
theorem cpC_chunk {C : Ct} {q : Nat} {x i k : Int} {c : ByteArray} (h : C q = (chunkR i k c, x)) : cpC C q = ls0 := by unfold cpC; rw [h]; exact listF_none (by show (5 : Int) ≠ 4; decide)
theorem copyF_cont {D : Dv} {x : Int} {q : Nat} (h : D.down = false) (hx : x = (q : Int)) (hq : q < D.bs.length) : copyF D x = (cpC (cont D) q, 0) := by
  subst hx
  unfold copyF cpC
  rw [sread_cont' h hq]
  exact if_pos rfl
def opS (C : Ct) (base ar n : Nat) (p : Ls × Int) : Ls × Int := if p.1.index < (cpC C (base + ar * 66 + n)).index then (cpC C (base + ar * 66 + n), (ar : Int)) else p
def opnC (C : Ct) (base : Nat) : Ls × Int := opS C base 1 1 (opS C base 1 0 (opS C base 0 1 (opS C base 0 0 (ls0, 0))))
theorem openF_cont {D : Dv} {base : Nat} (h : D.down = false) (hr : base + 132 ≤ D.bs.length) : openF D (base : Int) opnQ (ls0, 0) = (opnC (cont D) base, 0) := by
  have hc : ∀ ar n : Nat, ar ≤ 1 → n ≤ 1 → copyF D ((base : Int) + (ar : Int) * 66 + (n : Int)) = (cpC (cont D) (base + ar * 66 + n), 0) := fun ar n h1 h2 => copyF_cont h (by omega) (by omega)
  have hs : ∀ (ar n : Nat) (p : Ls × Int), ar ≤ 1 → n ≤ 1 → openS D (base : Int) (ar : Int) (n : Int) p = opS (cont D) base ar n p := fun ar n p h1 h2 => by
    unfold openS opS
    rw [hc ar n h1 h2]
  have c00 := hc 0 0 (by omega) (by omega)
  have c01 := hc 0 1 (by omega) (by omega)
  have c10 := hc 1 0 (by omega) (by omega)
  have c11 := hc 1 1 (by omega) (by omega)
  have s00 := fun p => hs 0 0 p (by omega) (by omega)
  have s01 := fun p => hs 0 1 p (by omega) (by omega)
  have s10 := fun p => hs 1 0 p (by omega) (by omega)
  have s11 := fun p => hs 1 1 p (by omega) (by omega)
  simp only [Int.natCast_zero, Int.natCast_one] at c00 c01 c10 c11 s00 s01 s10 s11
  unfold opnQ
  rw [openF_cons, c00, if_pos rfl, s00, openF_cons, c01, if_pos rfl, s01, openF_cons, c10, if_pos rfl, s10, openF_cons, c11, if_pos rfl, s11]
  rfl
/-- What Open finds: the list with the greatest index. -/
theorem opnC_zero {C : Ct} {base : Nat} (h : ∀ ar n, ar ≤ 1 → n ≤ 1 → (cpC C (base + ar * 66 + n)).index = 0) : opnC C base = (ls0, 0) := by
  have hs : ∀ ar n, ar ≤ 1 → n ≤ 1 → opS C base ar n (ls0, 0) = (ls0, 0) := fun ar n h1 h2 => by
    unfold opS
    rw [h ar n h1 h2]
    exact if_neg (by show ¬ (0 : Int) < 0; omega)
  unfold opnC
  rw [hs 0 0 (by omega) (by omega), hs 0 1 (by omega) (by omega), hs 1 0 (by omega) (by omega), hs 1 1 (by omega) (by omega)]
theorem opnC_max {C : Ct} {base ar : Nat} {l : Ls} (har : ar ≤ 1) (h0 : 0 < l.index) (hc : ∃ n, n ≤ 1 ∧ cpC C (base + ar * 66 + n) = l) (hl : ∀ a n, a ≤ 1 → n ≤ 1 → (cpC C (base + a * 66 + n)).index < l.index ∨ (a = ar ∧ cpC C (base + a * 66 + n) = l)) : opnC C base = (l, (ar : Int)) := by
  -- a step keeps 'l is taken, or all before it are smaller'
  have st : ∀ (a n : Nat) (p : Ls × Int), a ≤ 1 → n ≤ 1 → (p = (l, (ar : Int)) ∨ p.1.index < l.index) → (opS C base a n p = (l, (ar : Int)) ∨ (opS C base a n p).1.index < l.index) := by
    intro a n p ha hn hp
    unfold opS
    rcases hl a n ha hn with h | ⟨rfl, h⟩
    · split
      · rename_i hi
        rcases hp with rfl | hp
        · exfalso; simp only at hi; omega
        · exact .inr h
      · exact hp
    · rw [h]
      split
      · exact .inl rfl
      · rename_i hi
        rcases hp with hp | hp
        · exact .inl hp
        · exact absurd hp hi
  have tk : ∀ (n : Nat) (p : Ls × Int), n ≤ 1 → cpC C (base + ar * 66 + n) = l → (p = (l, (ar : Int)) ∨ p.1.index < l.index) → opS C base ar n p = (l, (ar : Int)) := by
    intro n p hn he hp
    unfold opS
    rw [he]
    rcases hp with rfl | hp
    · exact if_neg (by simp)
    · exact if_pos hp
  have kp : ∀ (a n : Nat), a ≤ 1 → n ≤ 1 → opS C base a n (l, (ar : Int)) = (l, (ar : Int)) := by
    intro a n ha hn
    unfold opS
    refine if_neg ?_
    show ¬ l.index < _
    rcases hl a n ha hn with h | ⟨_, h⟩
    · omega
    · rw [h]; omega
  have p0 : ((ls0, 0) : Ls × Int) = (l, (ar : Int)) ∨ ((ls0, 0) : Ls × Int).1.index < l.index := .inr h0
  have p1 := st 0 0 _ (by omega) (by omega) p0
  have p2 := st 0 1 _ (by omega) (by omega) p1
  have p3 := st 1 0 _ (by omega) (by omega) p2
  obtain ⟨n, hn, he⟩ := hc
  unfold opnC
  have h4 : (ar = 0 ∧ n = 0) ∨ (ar = 0 ∧ n = 1) ∨ (ar = 1 ∧ n = 0) ∨ (ar = 1 ∧ n = 1) := by omega
  rcases h4 with ⟨rfl, rfl⟩ | ⟨rfl, rfl⟩ | ⟨rfl, rfl⟩ | ⟨rfl, rfl⟩
  · rw [tk 0 _ hn he p0, kp 0 1 (by omega) (by omega), kp 1 0 (by omega) (by omega), kp 1 1 (by omega) (by omega)]
  · rw [tk 1 _ hn he p1, kp 1 0 (by omega) (by omega), kp 1 1 (by omega) (by omega)]
  · rw [tk 0 _ hn he p2, kp 1 1 (by omega) (by omega)]
  · rw [tk 1 _ hn he p3]
/-- What Hurt answers when all chunks but one are whole. -/
theorem hurtK_none {D : Dv} {base area : Int} {l : Ls} (h : ∀ k, k < l.sums.length → (chunkF D base area l k).2 = 0) : ∀ k, k ≤ l.sums.length → hurtK D base area l k = []
  | 0, _ => rfl
  | k + 1, hk => by rw [hurtK_miss (by rw [h k (by omega)]; decide)]; exact hurtK_none h k (by omega)
end
section
open Go Go.RowKit Go.Proofs.Tryd
set_option linter.unusedVariables false
set_option maxRecDepth 100000

theorem listF_in (r : Rc) : (listF r).Good ∨ listF r = ls0 := by
  unfold listF
  split
  · rename_i h
    refine .inl ⟨h.2.2, ?_, rdSm_in _ _⟩
    have := numF_most 6 281474976710655 (by decide) (some r.data.data.toList)
    exact this
  · exact .inr rfl
theorem cpC_in (C : Ct) (q : Nat) : (cpC C q).Good ∨ cpC C q = ls0 := listF_in _
theorem opS_in {C : Ct} {base ar n : Nat} {p : Ls × Int} (h : p.1.Good ∨ p.1 = ls0) (h2 : p.2 = 0 ∨ p.2 = 1) (ha : ar ≤ 1) : ((opS C base ar n p).1.Good ∨ (opS C base ar n p).1 = ls0) ∧ ((opS C base ar n p).2 = 0 ∨ (opS C base ar n p).2 = 1) := by
  unfold opS
  split
  · exact ⟨cpC_in _ _, by show (ar : Int) = 0 ∨ (ar : Int) = 1; omega⟩
  · exact ⟨h, h2⟩
theorem opnC_in (C : Ct) (base : Nat) : ((opnC C base).1.Good ∨ (opnC C base).1 = ls0) ∧ ((opnC C base).2 = 0 ∨ (opnC C base).2 = 1) := by
  have h0 : (((ls0, 0) : Ls × Int).1.Good ∨ ((ls0, 0) : Ls × Int).1 = ls0) ∧ (((ls0, 0) : Ls × Int).2 = 0 ∨ ((ls0, 0) : Ls × Int).2 = 1) := ⟨.inr rfl, .inl rfl⟩
  have h1 := opS_in (C := C) (base := base) (ar := 0) (n := 0) h0.1 h0.2 (by omega)
  have h2 := opS_in (C := C) (base := base) (ar := 0) (n := 1) h1.1 h1.2 (by omega)
  have h3 := opS_in (C := C) (base := base) (ar := 1) (n := 0) h2.1 h2.2 (by omega)
  exact opS_in (C := C) (base := base) (ar := 1) (n := 1) h3.1 h3.2 (by omega)
/-- A store and its device. -/
structure StC (m : Nat) (E : Nat → Prop) (w : World) (b B M base : Nat) (l : Ls) (sv : Value) (ar : Nat) (D : Dv) : Prop where
  sto : StoW m E w b B (base : Int) l sv (ar : Int) D
  calm : Calm D
  len : D.bs.length = M
  room : base + 132 ≤ M
  many : M ≤ 4096
  ar : ar ≤ 1
  lg : l.Good ∨ l = ls0
section
variable {m : Nat} {E : Nat → Prop} {w x : World} {b B M base : Nat} {l : Ls} {sv : Value} {ar : Nat} {D D' : Dv}
theorem StC.below (h : StC m E w b B M base l sv ar D) (hb : Below w.heap.size w x) : StC m E x b B M base l sv ar D := { h with sto := h.sto.below hb }
theorem StC.dev (h : StC m E w b B M base l sv ar D) : DevW m E w B D := h.sto.dev
theorem StC.w0 (h : StC m E w b B M base l sv ar D) : D.writes = 0 := h.calm.writes
theorem StC.turn (h : StC m E w b B M base l sv ar D) (hd : DevW m E x B D') (hk : Kept E w x) (hs : w.heap.size ≤ x.heap.size) (hc : Calm D') (hl : D'.bs.length = D.bs.length) : StC m E x b B M base l sv ar D' :=
  { h with sto := h.sto.turn hd hk (fun _ h => h) hs, calm := hc, len := hl.trans h.len }
/-- The device with its E, and what lies in the store's own blocks. -/
theorem st_open (hd : DevW m E w B D) (hc : Calm D) (hl : D.bs.length = M) (hr : base + 132 ≤ M) (hM : M ≤ 4096) (hm : m ≤ w.heap.size) (ht : Tabs w) :
    Calls Tryd.prog 34 #[.pointer (some ⟨B, 0, none⟩), .int .i64 (base : Int)] w fun e w' => ∃ b sv ar, e = .returned (.tuple #[.pointer (some ⟨b, 0, none⟩), .int .i64 0]) ∧ w.heap.size ≤ b ∧ ((ar : Nat) : Int) = (opnC (cont D) base).2 ∧
      StC m (fun k => E k ∨ (w.heap.size ≤ k ∧ k < w'.heap.size)) w' b B M base (opnC (cont D) base).1 sv ar D ∧ Below w.heap.size w w' := by
  have hop := openF_cont (D := D) (base := base) hc.down (by omega)
  obtain ⟨hin, har⟩ := opnC_in (cont D) base
  rcases hq : opnC (cont D) base with ⟨l, a⟩
  rw [hq] at hin har
  simp only at hin har
  rw [hq] at hop
  refine (copen_any (base : Int) hd ⟨by omega, by omega⟩ (by omega) (by omega) ht (by rw [hc.writes]; decide)).mono ?_
  rw [hop]
  rintro e w' ⟨hb, ⟨h1, _⟩ | ⟨_, b, sv, rfl, hbb, hcs, hrow⟩⟩
  · exact absurd rfl h1
  simp only at hcs hrow ⊢
  obtain ⟨ar, rfl⟩ : ∃ ar : Nat, (ar : Int) = a := ⟨a.toNat, by omega⟩
  refine ⟨b, sv, ar, rfl, hbb, rfl, ⟨⟨hd.growAllC hb, hcs, .inr ⟨hbb, hcs.lt⟩, Nat.le_trans hm hbb, ?_, ?_, ?_, ⟨by omega, by omega⟩, by omega⟩, hc, hl, hr, hM, by omega, hin⟩, hb⟩
  · refine SmR.of_row hrow ?_ ?_
    · rcases hin with h | h
      · have := h.in; omega
      · rw [h]; decide
    · rcases hin with h | h
      · exact h.sums
      · rw [h]; intro z hz; cases hz
  · intro g hg
    obtain ⟨h1, h2⟩ := World.ownsRow.lt hrow g hg
    refine ⟨.inr ⟨h1, h2⟩, fun e => ?_⟩
    subst e
    obtain ⟨cs, hcs'⟩ := ownsRow_block hrow hg
    unfold CsB at hcs
    rw [hcs'] at hcs
    simp at hcs
  · rcases hin with h | h
    · exact h.bytes
    · rw [h]; decide
/-- The area that the next snapshot takes. -/
def nxtA (l : Ls) (ar : Nat) : Nat := if l.index = 0 then 0 else 1 - ar
theorem nxtA_le (l : Ls) (ar : Nat) : nxtA l ar ≤ 1 := by unfold nxtA; split <;> omega
theorem nxtA_eq (h : ar ≤ 1) : nextA l.index (ar : Int) = (nxtA l ar : Int) := by
  unfold nextA nxtA
  split
  · rfl
  · omega
theorem st_put (i t : Int) (s : ByteArray) (h : StC m E w b B M base l sv ar D) (hg : (ofL i t s).Good) (hi : l.index < i) (hs : s.size ≤ 100000000) (hm : m ≤ w.heap.size) (ht : ∀ x, Below m w x → Tabs x) :
    Calls Tryd.prog 36 #[.pointer (some ⟨b, 0, none⟩), .int .i64 i, .int .i64 t, .string s] w fun e w' => e = .returned (.int .i64 0) ∧ ∃ E' sv' D', (∀ j, E j → E' j) ∧
      StC m E' w' b B M base (ofL i t s) sv' (nxtA l ar) D' ∧ cont D' = putC (cont D) (base + nxtA l ar * 66) i t s ∧ Below m w w' ∧ Kept (fun j => E j ∧ j ≠ b) w w' ∧ D' = (putP D (base : Int) l.index (ar : Int) i t s).2 := by
  have hna := nxtA_le l ar
  have hne := nxtA_eq (l := l) h.ar
  obtain ⟨D', e1, c1, n1, k1⟩ := put_cont (D := D) (base := (base : Int)) (i0 := l.index) (area := (ar : Int)) (a := base + nxtA l ar * 66) h.calm.toLive hg (by rw [hne]; omega) (by have := h.len; have := h.room; omega) (by have := h.len; have := h.many; omega)
  have hbad : (ofL i t s).bad l.index = false := by
    unfold Ls.bad
    have := hg.valid
    rw [this]
    simp
    show l.index < i
    exact hi
  obtain ⟨i0, t0, n0, ss0⟩ := l
  refine (cput_any (ss0 := ss0) i t s hs h.sto hm ht (by rw [h.w0]; decide)).mono ?_
  rintro e w' ⟨c, rfl, hp, hb, hk⟩
  rcases hp with ⟨h1, _⟩ | ⟨_, rfl, E', hE, hp⟩
  · rw [hbad] at h1; cases h1
  simp only at hp e1 hne
  rw [e1] at hp
  rw [e1]
  rcases hp with ⟨_, sv', hp⟩ | ⟨h1, _⟩
  · rw [hne] at hp
    exact ⟨rfl, E', sv', D', hE, ⟨hp, c1, n1.trans h.len, h.room, h.many, hna, .inl hg⟩, k1, hb, hk, rfl⟩
  · exact absurd rfl h1
theorem st_put_bad (i t : Int) (s : ByteArray) (h : StC m E w b B M base l sv ar D) (hg : (ofL i t s).bad l.index = true) (hs : s.size ≤ 100000000) (hm : m ≤ w.heap.size) (ht : ∀ x, Below m w x → Tabs x) :
    Calls Tryd.prog 36 #[.pointer (some ⟨b, 0, none⟩), .int .i64 i, .int .i64 t, .string s] w fun e w' => e = .returned (.int .i64 1) ∧ StC m E w' b B M base l sv ar D ∧ Below m w w' ∧ Kept (fun j => E j ∧ j ≠ b) w w' := by
  obtain ⟨i0, t0, n0, ss0⟩ := l
  refine (cput_any (ss0 := ss0) i t s hs h.sto hm ht (by rw [h.w0]; decide)).mono ?_
  rintro e w' ⟨c, rfl, hp, hb, hk⟩
  rcases hp with ⟨_, rfl, hp⟩ | ⟨h1, _⟩
  · exact ⟨rfl, { h with sto := hp }, hb, hk⟩
  · simp only at hg; rw [hg] at h1; cases h1
theorem st_lose (k : Nat) (h : StC m E w b B M base l sv ar D) (hk : k < M) (hm : m ≤ w.heap.size) :
    Calls Tryd.prog 40 #[.pointer (some ⟨B, 0, none⟩), .int .i64 (k : Int)] w fun e w' => e = .returned (.tuple #[]) ∧ ∃ D', StC m E w' b B M base l sv ar D' ∧ cont D' = put2 (cont D) k (rc0, 2) ∧ Below m w w' ∧ Kept E w w' ∧ D' = D.onB (k : Int) Blk.lose := by
  obtain ⟨c1, n1, k1⟩ := lose_cont (D := D) (k := k) h.calm (by rw [h.len]; exact hk)
  refine (devw_lose (k : Int) hm h.dev).mono ?_
  rintro e w' ⟨rfl, hd, hb, hkp⟩
  have hsz : w.heap.size ≤ w'.heap.size := hb.size
  exact ⟨rfl, _, h.turn hd hkp hsz c1 n1, k1, hb, hkp, rfl⟩
/-- Hurt, from the contents. -/
theorem st_chunkF (h : StC m E w b B M base l sv ar D) {k : Nat} (hk : k < 64) : chunkF D (base : Int) (ar : Int) l k = chunkC (cont D) (base + ar * 66 + 2) l k :=
  chunkF_cont h.calm.down (by omega) (by have := h.len; have := h.room; have := h.ar; omega)
end
/-- Law 7's example. -/
theorem head7_any (w : World) (hT : ∀ x, Below w.heap.size w x → Tabs x) : Calls Tryd.prog 27 #[] w fun e w' => e = .returned (.bool true) ∧ Below w.heap.size w w' := by
  have HT := Lib.hid hT
  clear hT
  go_enter Tryd.func27, Tryd.ntmps27
  go_wp2_with fail
  refine (new_any 200 w).mono ?_
  rintro e w1 ⟨B, rfl, hd, hb1⟩
  have X1 : DevW w.heap.size (fun _ => False) w1 B (Dv.new ((200 : Nat) : Int)) := devw_new hd (Nat.le_refl _) (fun j hj => hj.elim) hb1.size
  clear hd
  obtain ⟨c1, n1, k1⟩ := new_calm 200 (by decide)
  have HC1 := Lib.hid c1
  have HN1 := Lib.hid n1
  have HK1 := Lib.hid k1
  clear c1 n1 k1
  have HO := Lib.hid (st_open (M := 200) (base := 3) X1 HC1.out HN1.out (by decide) (by decide) hb1.size (HT.out _ hb1))
  have hopn : opnC (cont (Dv.new ((200 : Nat) : Int))) 3 = (ls0, 0) := opnC_zero (fun ar n _ _ => by rw [cpC_rc0 (x := 0) (by rw [HK1.out])]; rfl)
  rw [hopn] at HO
  clear hopn X1
  go_wp2_with fail
  refine HO.out.mono ?_
  rintro e w2 ⟨b, sv, ar, rfl, hbb, har, S2, hb2⟩
  have har' : ar = 0 := by simpa using har
  subst har'
  have B2 := hb1.trans (hb2.mono hb1.size)
  clear har HO hbb hb2
  have HS2 := Lib.hid S2
  have HB2 := Lib.hid B2
  have HB1 := Lib.hid hb1
  clear S2 B2 hb1
  go_wp2_with fail
  refine (text7_any 900 1 (by decide) w2).mono ?_
  rintro e w3 ⟨s, rfl, hsz, hb3⟩
  have S3 := HS2.out.below hb3
  have B3 := HB2.out.trans (hb3.mono HB2.out.size)
  have hg : (ofL 1 1 s).Good := ofL_good2 ⟨by decide, by decide⟩ ⟨by decide, by decide⟩ (by omega)
  have HG := Lib.hid hg
  have HSZ := Lib.hid hsz
  have HP := Lib.hid (st_put 1 1 s S3 hg (by decide) (by omega) B3.size (fun x hx => HT.out x (B3.trans hx)))
  have HB3 := Lib.hid B3
  clear S3 B3 hb3 hg hsz HS2 HB2
  go_wp2_with fail
  refine HP.out.mono ?_
  rintro e w4 ⟨rfl, E4, sv4, D4, hE4, S4, k4, hb4, hk4⟩
  rw [show nxtA ls0 0 = 0 from rfl] at S4 k4
  have HS4 := Lib.hid S4
  have HK4 := Lib.hid k4
  have HB4 := Lib.hid (HB3.out.trans hb4)
  clear S4 k4 hb4 hk4 hE4 HP HB3
  go_wp2_with fail
  refine (st_lose 6 HS4.out (by decide) HB4.out.size).mono ?_
  rintro e w5 ⟨rfl, D5, S5, k5, hb5, hk5, _⟩
  have B5 := HB4.out.trans hb5
  have hlen : (ofL 1 1 s).sums.length = 3 := by
    have := sumsOf_length s
    rw [HSZ.out] at this
    exact this
  have hn3 : cutN s.size = 3 := by rw [HSZ.out]; rfl
  have hck : ∀ k, k < 3 → chunkF D5 ((3 : Nat) : Int) ((0 : Nat) : Int) (ofL 1 1 s) k = chunkC (cont D5) 5 (ofL 1 1 s) k := fun k hk => st_chunkF S5 (by omega)
  have h0 : (chunkF D5 ((3 : Nat) : Int) ((0 : Nat) : Int) (ofL 1 1 s) 0).2 = 0 := by
    rw [hck 0 (by omega), chunkC_good (by rw [k5, put2_other (by decide), HK4.out]; exact putC_ck (a := 3) (k := 0) (by omega)) (by omega)]
  have h1 : (chunkF D5 ((3 : Nat) : Int) ((0 : Nat) : Int) (ofL 1 1 s) 1).2 = 6 := by
    rw [hck 1 (by omega), chunkC_lost (by rw [k5]; exact put2_same _ _ _)]
  have h2 : (chunkF D5 ((3 : Nat) : Int) ((0 : Nat) : Int) (ofL 1 1 s) 2).2 = 0 := by
    rw [hck 2 (by omega), chunkC_good (by rw [k5, put2_other (by decide), HK4.out]; exact putC_ck (a := 3) (k := 2) (by omega)) (by omega)]
  have hhu : hurtK D5 ((3 : Nat) : Int) ((0 : Nat) : Int) (ofL 1 1 s) 3 = [1] := by
    rw [hurtK_miss (by rw [h2]; decide), hurtK_hit h1, hurtK_miss (by rw [h0]; decide)]
    rfl
  have HU := Lib.hid (churt_any S5.sto (by show (1 : Int) ≠ 0; decide) (HT.out _ B5) (by rw [S5.w0]; decide))
  rw [hlen, hhu] at HU
  have HB5 := Lib.hid B5
  clear hck h0 h1 h2 hhu hlen hn3 S5 k5 hb5 hk5 B5
  go_wp2_with fail
  refine HU.out.mono ?_
  rintro e w6 ⟨v, rfl, hrow, hb6⟩
  obtain ⟨g, cap, rfl, hg, hcell⟩ := row_ints hrow rfl (by decide)
  have hc0 := hcell 0 (by decide)
  simp only [Nat.zero_add, List.getD_cons_zero] at hc0
  have B6 := HB5.out.trans (hb6.mono HB5.out.size)
  clear hcell hrow HU
  go_wp2_with fail
  go_ret
  exact ⟨rfl, B6⟩
end
end Go.Proofs.YtiknfifiglooeaaDoor
