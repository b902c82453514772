/- slices.Equal at two rows of sums. No conditions beyond those in each statement. Same: are two lists one? No conditions beyond those in each statement. slices.Clone at a row of sums; List. No conditions beyond those in each statement. -/
import Derived.Test.YtiknfifiglooeaaDoorChunkRc
import Derived.Laws.AppendOwn
import Derived.Lib.SliceRun
namespace Go.Proofs.YtiknfifiglooeaaDoor
section
open Go Go.RowKit Go.Proofs.Tryd
set_option linter.unusedVariables false
set_option maxRecDepth 100000

theorem SmR.at {w : World} {a : Option Addr} {n c : Nat} {ss : List Int} (h : SmR w (.slice a n c) ss) : ss.length = n ∧ n ≤ 1000000 ∧ ∀ k, k < n → ∃ g, a = some ⟨g, 0, none⟩ ∧ w.cell? ⟨g, k, none⟩ = some (.int .u32 (ss.getD k 0)) := by
  obtain ⟨a', c', hv, hl, hc, _⟩ := h
  injection hv with h1 h2 h3
  subst h1 h2
  refine ⟨rfl, hl, fun k hk => ?_⟩
  obtain ⟨g, e, _, hcell⟩ := hc.resolve_left (by omega)
  exact ⟨g, e, hcell k hk⟩
set_option maxHeartbeats 4000000 in
theorem cseq_any (u v : Value) (xs ys : List Int) (w : World) (hx : SmR w u xs) (hy : SmR w v ys) :
    Calls Tryd.prog 73 #[u, v] w fun e w' => e = .returned (.bool (decide (xs = ys))) ∧ Below w.heap.size w w' := by
  obtain ⟨a, c, rfl, hxl, _⟩ := id hx
  obtain ⟨b, d, rfl, hyl, _⟩ := id hy
  have HX := Lib.hid (fun (W : World) (h : Below w.heap.size w W) => (hx.below h).at)
  have HY := Lib.hid (fun (W : World) (h : Below w.heap.size w W) => (hy.below h).at)
  clear hx hy
  go_enter Tryd.func73, Tryd.ntmps73
  go_upto_region 1 with fail
  by_cases hl : xs.length = ys.length
  case neg =>
    have HV : Hid (decide (xs = ys) = false) := by show _ = _; exact decide_eq_false (fun e => hl (by rw [e]))
    have hl' : ((xs.length : Int) == (ys.length : Int)) = false := by simp; omega
    have hl'' : ((xs.length : Int) != (ys.length : Int)) = true := by simp; omega
    go_wp2_with fail
    go_ret
    exact ⟨by rw [HV.out]; rfl, Below.refl _ _⟩
  obtain ⟨n, hn⟩ : ∃ n, n = xs.length := ⟨_, rfl⟩
  rw [← hl]
  rw [← hl] at HY hyl
  rw [← hn] at HX HY hxl ⊢
  have HL := Lib.hid hl
  have HN := Lib.hid hn
  clear hl hn
  go_wp2_with fail
  go_loopw [13] (fun z wr => ∃ k : Nat, k ≤ n ∧ z = .int .i64 (k : Int) ∧ xs.take k = ys.take k ∧ Below w.heap.size w wr) (fun z _ => n - (intOf z).toNat)
  case atStart => exact ⟨0, Nat.zero_le _, rfl, rfl, Below.refl _ _⟩
  case round =>
    obtain ⟨k, hk, rfl, hxy, Bk⟩ := hrel
    by_cases hlt : k < n
    · have hlt' : (k : Int) < (n : Int) := by omega
      have hk0 : (0 : Int) ≤ (k : Int) := by omega
      obtain ⟨g1, rfl, e1⟩ := (HX.out wr Bk).2.2 k hlt
      obtain ⟨g2, rfl, e2⟩ := (HY.out wr Bk).2.2 k hlt
      obtain ⟨x, hx⟩ : ∃ x, xs.getD k 0 = x := ⟨_, rfl⟩
      obtain ⟨y, hy⟩ : ∃ y, ys.getD k 0 = y := ⟨_, rfl⟩
      rw [hx] at e1
      rw [hy] at e2
      have HGX := Lib.hid hx
      have HGY := Lib.hid hy
      have HXY := Lib.hid hxy
      have HBK := Lib.hid Bk
      clear hx hy hxy Bk
      have hxn : xs[k]? = some x := by have := HN.out; have := HGX.out; rw [List.getD_eq_getElem?_getD, List.getElem?_eq_getElem (by omega)] at this; rw [List.getElem?_eq_getElem (by omega)]; exact congrArg some this
      have hyn : ys[k]? = some y := by have := HN.out; have := HL.out; have := HGY.out; rw [List.getD_eq_getElem?_getD, List.getElem?_eq_getElem (by omega)] at this; rw [List.getElem?_eq_getElem (by omega)]; exact congrArg some this
      have HXN := Lib.hid hxn
      have HYN := Lib.hid hyn
      clear hxn hyn
      by_cases hq : x = y
      · subst hq
        go_wp2_with fail
        go_region_held3 (fun w' => w'.cell? ⟨g1, k, none⟩ = some (.int .u32 x) ∧ w'.cell? ⟨g2, k, none⟩ = some (.int .u32 x)) (first | (with_reducible assumption) | (refine ⟨?_, ?_⟩ <;> with_reducible assumption) | go_keep) (fail)
        all_goals
          go_wp2_with fail
          go_roundw
          case rel => exact ⟨k + 1, by omega, by go_num, by rw [List.take_add_one, List.take_add_one, HXN.out, HYN.out, HXY.out], HBK.out.drew⟩
          case measure => simp [intOf]; omega
      · have hq' : (x == y) = false := by simp [hq]
        have hq'' : (x != y) = true := by simp [hq]
        go_wp2_with fail
        have HV : Hid (decide (xs = ys) = false) := by
          show _ = _
          refine decide_eq_false (fun e => hq ?_)
          have h1 := HXN.out
          rw [e, HYN.out] at h1
          exact (Option.some.inj h1).symm
        go_region_held3 (fun w' => w'.cell? ⟨g1, k, none⟩ = some (.int .u32 x) ∧ w'.cell? ⟨g2, k, none⟩ = some (.int .u32 y)) (first | (with_reducible assumption) | (refine ⟨?_, ?_⟩ <;> with_reducible assumption) | go_keep) (fail)
        all_goals
          go_wp2_with fail
          go_ret
          exact ⟨by rw [HV.out]; rfl, HBK.out.drew⟩
    · obtain rfl : k = n := by omega
      have HV : Hid (decide (xs = ys) = true) := by
        show _ = _
        refine decide_eq_true ?_
        have h1 : xs.take k = xs := by rw [HN.out]; exact List.take_length
        have h2 : ys.take k = ys := by rw [HN.out, HL.out]; exact List.take_length
        rw [← h1, ← h2]; exact hxy
      clear hlt hxy
      go_wp2_with fail
      go_ret
      exact ⟨by rw [HV.out]; rfl, Bk⟩
end
section
open Go Go.RowKit Go.Proofs.Tryd
set_option linter.unusedVariables false
set_option maxRecDepth 100000

/-- Are they one? -/
def sameB (l o : Ls) : Bool := decide (l.index = o.index ∧ l.term = o.term ∧ l.bytes = o.bytes ∧ l.sums = o.sums)
theorem Ls.ext' {l o : Ls} (h1 : l.index = o.index) (h2 : l.term = o.term) (h3 : l.bytes = o.bytes) (h4 : l.sums = o.sums) : l = o := by
  cases l; cases o; simp only at h1 h2 h3 h4; subst h1 h2 h3 h4; rfl
theorem sameB_iff (l o : Ls) : sameB l o = true ↔ l = o := by
  unfold sameB
  rw [decide_eq_true_eq]
  exact ⟨fun ⟨h1, h2, h3, h4⟩ => Ls.ext' h1 h2 h3 h4, fun e => by subst e; exact ⟨rfl, rfl, rfl, rfl⟩⟩
set_option maxHeartbeats 4000000 in
theorem csame_any (l o : Ls) (sv ov : Value) (w : World) (hs : SmR w sv l.sums) (ho : SmR w ov o.sums) :
    Calls Tryd.prog 32 #[lsV l sv, lsV o ov] w fun e w' => e = .returned (.bool (sameB l o)) ∧ Below w.heap.size w w' := by
  obtain ⟨i, t, n, ss⟩ := l
  obtain ⟨j, u, m, os⟩ := o
  simp only at hs ho
  obtain ⟨a, c, rfl, _⟩ := id hs
  obtain ⟨b, d, rfl, _⟩ := id ho
  unfold lsV
  simp only
  have B1 := ((Below.refl w.heap.size w).alloc (Nat.le_refl _) (.cells #[.int .i64 i, .int .i64 t, .int .i64 n, .slice a ss.length c] 67)).alloc (by simp) (.cells #[.int .i64 j, .int .i64 u, .int .i64 m, .slice b os.length d] 67)
  have L1 := (LsB.new w i t n (.slice a ss.length c)).below ((Below.refl _ (w.alloc (.cells #[.int .i64 i, .int .i64 t, .int .i64 n, .slice a ss.length c] 67))).alloc (Nat.le_refl _) (.cells #[.int .i64 j, .int .i64 u, .int .i64 m, .slice b os.length d] 67))
  have L2 := LsB.new (w.alloc (.cells #[.int .i64 i, .int .i64 t, .int .i64 n, .slice a ss.length c] 67)) j u m (.slice b os.length d)
  rw [World.size_alloc] at L2
  go_enter Tryd.func32, Tryd.ntmps32
  go_upto_region 1 with fail
  generalize (w.alloc (.cells #[.int .i64 i, .int .i64 t, .int .i64 n, .slice a ss.length c] 67)).alloc (.cells #[.int .i64 j, .int .i64 u, .int .i64 m, .slice b os.length d] 67) = w1 at L1 L2 B1 ⊢
  obtain ⟨⟨l0, l1, l2, l3⟩, _⟩ := L1.cells
  obtain ⟨⟨m0, m1, m2, m3⟩, _⟩ := L2.cells
  have HE := Lib.hid (cseq_any (.slice a ss.length c) (.slice b os.length d) ss os w1 (hs.below B1) (ho.below B1))
  clear L1 L2 hs ho
  by_cases q0 : i = j
  case neg =>
    have d0 : (i == j) = false := by simp [q0]
    have HV : Hid (sameB ⟨i, t, n, ss⟩ ⟨j, u, m, os⟩ = false) := by show _ = _; unfold sameB; exact decide_eq_false (fun h => q0 h.1)
    go_wp2_with fail
    go_ret
    exact ⟨(by rw [HV.out]; rfl), B1⟩
  subst q0
  by_cases q1 : t = u
  case neg =>
    have d0 : (t == u) = false := by simp [q1]
    have HV : Hid (sameB ⟨i, t, n, ss⟩ ⟨i, u, m, os⟩ = false) := by show _ = _; unfold sameB; exact decide_eq_false (fun h => q1 h.2.1)
    go_wp2_with fail
    go_ret
    exact ⟨(by rw [HV.out]; rfl), B1⟩
  subst q1
  by_cases q2 : n = m
  case neg =>
    have d0 : (n == m) = false := by simp [q2]
    have HV : Hid (sameB ⟨i, t, n, ss⟩ ⟨i, t, m, os⟩ = false) := by show _ = _; unfold sameB; exact decide_eq_false (fun h => q2 h.2.2.1)
    go_wp2_with fail
    go_ret
    exact ⟨(by rw [HV.out]; rfl), B1⟩
  subst q2
  have HV : Hid (sameB ⟨i, t, n, ss⟩ ⟨i, t, n, os⟩ = decide (ss = os)) := by
    show _ = _
    unfold sameB
    simp
  go_wp2_with (go_at_call 73; refine HE.out.mono ?_; rintro e w5 ⟨rfl, hb5⟩)
  go_ret
  exact ⟨(by rw [HV.out]; rfl), B1.trans (hb5.mono B1.size)⟩
end
section
open Go Go.RowKit Go.Proofs.Tryd
set_option linter.unusedVariables false
set_option maxRecDepth 100000

set_option maxHeartbeats 4000000 in
theorem cclone_any (v : Value) (ss : List Int) (w : World) (h : SmR w v ss) :
    Calls Tryd.prog 82 #[v] w fun e w' => ∃ v', e = .returned v' ∧ w'.ownsRow w.heap.size 70 1 v' ss.length (smCells ss) ∧ Below w.heap.size w w' := by
  obtain ⟨i1, hi1, hz1, hz2, hz3⟩ := info_parts info_sum
  have q22 : ∀ (w : World) (a : Option Addr) (n c n' c' : Nat), (binOp .eql 65 (.slice a n c) (.slice none n' c')).run Tryd.prog w = .ok (.bool a.isNone) w := fun w a n c n' c' => Lib.run_eql_slice_nil w _ _ a n c n' c' und_sums
  obtain ⟨a, c, rfl, hl, hc, _⟩ := h
  cases a with
  | none =>
    have h0 : ss = [] := by
      rcases hc with h | ⟨g, e, _⟩
      · exact List.eq_nil_of_length_eq_zero h
      · cases e
    subst h0
    clear hc
    go_enter Tryd.func82, Tryd.ntmps82
    go_wp2_with fail
    go_ret
    exact ⟨_, rfl, World.ownsRow_nil _ _ _ _, Below.refl _ _⟩
  | some ad =>
    have bA := (Below.refl w.heap.size w).alloc (Nat.le_refl _) (.cells #[] 70)
    obtain ⟨w1, hw1⟩ : ∃ w1, w1 = w.alloc (.cells #[] 70) := ⟨_, rfl⟩
    have O1 : w1.ownsRow w.heap.size 70 1 (.slice (some ⟨w.heap.size, 0, none⟩) 0 0) 0 [] := by
      rw [hw1]; exact World.ownsRow_made (base := w.heap.size) (e := 70) (size := 1) w #[] 0 (Nat.le_refl _) (Nat.zero_le _) rfl
    rw [← hw1] at bA
    have HC : Hid (∀ j u, (smCells ss)[j]? = some u → w1.cell? (ad.add j) = some u) := Lib.hid fun j u hu => by
      have hjl := (List.getElem?_eq_some_iff.1 hu).1
      rw [smCells_length] at hjl
      obtain ⟨g, e, hg, hcell⟩ := hc.resolve_left (by omega)
      obtain rfl : ad = ⟨g, 0, none⟩ := Option.some.inj e
      rw [show (⟨g, 0, none⟩ : Addr).add j = ⟨g, j, none⟩ by rw [Addr.add_lit, Nat.zero_add], bA.cell (p := ⟨g, j, none⟩) hg, hcell j hjl, ← hu]
      unfold smCells
      rw [List.getElem?_map, List.getElem?_eq_getElem hjl, List.getD_eq_getElem?_getD, List.getElem?_eq_getElem hjl]
      rfl
    have HO := Lib.hid O1
    have HW1 := Lib.hid hw1
    have HB := Lib.hid bA
    have HLN : Hid ((smCells ss).length = ss.length * 1) := by show _ = _; rw [smCells_length, Nat.mul_one]
    have HON : Hid (∀ u ∈ smCells ss, u.oneCell' = true) := Lib.hid fun u hu => by
      unfold smCells at hu
      obtain ⟨z, _, rfl⟩ := List.mem_map.1 hu
      rfl
    clear hc O1 bA hw1
    go_enter Tryd.func82, Tryd.ntmps82
    go_wp2_with (at_builtin; rw [← HW1.out]; refine wpList_append_own _ rfl _ _ _ rfl w.heap.size 70 i1 _ 1 4 und_sums hi1 hz1 hz2 hz3 rfl (by decide) (.slice (some ⟨w.heap.size, 0, none⟩) 0 0) 0 [] rfl HO.out ad ss.length c (smCells ss) rfl HLN.out HC.out HON.out (by unfold maxLen; omega) (by omega) HB.out.size ?_; intro v8 w8 hown8 hgrow8 hiff8; go_frame)
    go_ret
    rw [Nat.zero_add, List.nil_append] at hown8
    refine ⟨v8, rfl, hown8, HB.out.grown hgrow8 HB.out.size (fun q hq => by simp [Value.ownBlock] at hq; omega)⟩
theorem cretli (A : Act) (W : World) (b : Nat) (l : Ls) (sv : Value) (x : Bool) (Q : Ending → World → Prop) (h2 : A.tmps.getD 2 undef = .pointer (some ⟨b, 0, none⟩)) (h3 : A.tmps.getD 3 undef = .bool x) (hd : A.defers = []) (hr : LsB W b l.index l.term l.bytes sv)
    (hq : Q (.returned (.tuple #[lsV l sv, .bool x])) W) : bodyPost Tryd.prog Tryd.f39 Q Exit.ret A W := by
  obtain ⟨⟨c0, c1, c2, c3⟩, _⟩ := hr.cells
  have e2 : A.tmps[2]?.getD undef = .pointer (some ⟨b, 0, none⟩) := by simpa using h2
  have e3 : A.tmps[3]?.getD undef = .bool x := by simpa using h3
  exact bodyPost_ret (v := .tuple #[lsV l sv, .bool x]) (by simp [results, Tryd.results39, go_sem, lsV, e2, e3, c0, c1, c2, c3]) hd hq
/-- The list that a store has. -/
def hasL (l : Ls) : Ls := if l.index = 0 then ls0 else l
set_option maxHeartbeats 4000000 in
theorem clist_any {w : World} {b B : Nat} {base area : Int} {sv : Value} (l : Ls) (h : CsB w b B base l.index l.term l.bytes sv area) (hs : SmR w sv l.sums) :
    Calls Tryd.prog 39 #[.pointer (some ⟨b, 0, none⟩)] w fun e w' => ∃ sv', e = .returned (.tuple #[lsV (hasL l) sv', .bool (decide (l.index ≠ 0))]) ∧ w'.ownsRow w.heap.size 70 1 sv' (hasL l).sums.length (smCells (hasL l).sums) ∧ Below w.heap.size w w' := by
  obtain ⟨i, t, n, ss⟩ := l
  simp only at h hs ⊢
  obtain ⟨a, c, rfl, hl, _⟩ := id hs
  have V0 := LsB.new w 0 0 0 (.slice none 0 0)
  have B0 := (Below.refl w.heap.size w).alloc (Nat.le_refl _) (.cells #[.int .i64 0, .int .i64 0, .int .i64 0, .slice none 0 0] 67)
  have h1 := h.below B0
  have hs1 := hs.below B0
  clear h hs
  go_enter Tryd.func39, Tryd.ntmps39
  go_upto_region 1 with fail
  generalize (w.alloc (.cells #[.int .i64 0, .int .i64 0, .int .i64 0, .slice none 0 0] 67)) = w1 at V0 B0 h1 hs1 ⊢
  obtain ⟨⟨c0, c1, c2, c3, c4, c5, c6⟩, _⟩ := h1.cells
  obtain ⟨⟨v0, v1, v2, v3⟩, f0, f1, f2, f3⟩ := V0.cells
  have HV0 := Lib.hid V0
  have HB0 := Lib.hid B0
  have HS1 := Lib.hid hs1
  have HE := Lib.hid (cempty_any h1)
  clear h1 hs1 V0 B0
  by_cases h0 : i = 0
  · subst h0
    rw [show decide ((0 : Int) = 0) = true from rfl] at HE
    go_wp2_with fail
    refine HE.out.mono ?_
    rintro e w2 ⟨rfl, rfl⟩
    go_wp2_with fail
    refine cretli _ (setLs w1 w.heap.size 0 0 0 (.slice none 0 0)) w.heap.size ls0 (.slice none 0 0) false _ rfl rfl rfl (HV0.out.setAll 0 0 0 (.slice none 0 0)) ?_
    exact ⟨_, rfl, World.ownsRow_nil _ _ _ _, below_setLs HB0.out (Nat.le_refl _) _ _ _ _⟩
  · rw [show decide (i = 0) = false from decide_eq_false h0] at HE
    have HL0 : Hid (hasL ⟨i, t, n, ss⟩ = ⟨i, t, n, ss⟩) := by show _ = _; unfold hasL; exact if_neg h0
    have HD0 : Hid (decide (i ≠ 0) = true) := by show _ = _; exact decide_eq_true h0
    clear h0
    go_wp2_with fail
    refine HE.out.mono ?_
    rintro e w2 ⟨rfl, rfl⟩
    clear HE
    go_wp2_with fail
    have bA := (Below.refl w1.heap.size w1).alloc (Nat.le_refl _) (.cells #[.int .i64 i, .int .i64 t, .int .i64 n, .slice a ss.length c] 67)
    have L2 := LsB.new w1 i t n (.slice a ss.length c)
    clear c0 c1 c2 c3 c4 c5 c6 v0 v1 v2 v3 f0 f1 f2 f3
    have HQ : Hid (w.heap.size < w1.heap.size) := HV0.out.lt
    obtain ⟨lb, hlb⟩ : ∃ b, b = w1.heap.size := ⟨_, rfl⟩
    rw [← hlb] at L2 HQ
    rw [← hlb]
    generalize w1.alloc (.cells #[.int .i64 i, .int .i64 t, .int .i64 n, .slice a ss.length c] 67) = w2 at bA L2 ⊢
    refine (cclone_any (.slice a ss.length c) ss w2 (HS1.out.below bA)).mono ?_
    rintro e w3 ⟨sv', rfl, O3, B3⟩
    obtain ⟨sa, sc, rfl⟩ := slice_of O3
    have V3 := (HV0.out.below bA).below B3
    have L3 := L2.below B3
    have Bw := HB0.out.trans ((bA.trans (B3.mono bA.size)).mono HB0.out.size)
    obtain ⟨⟨y0, y1, y2, y3⟩, z0, z1, z2, z3⟩ := V3.cells
    obtain ⟨⟨m0, m1, m2, m3⟩, k0, k1, k2, k3⟩ := L3.cells
    have hsz2 : w.heap.size ≤ w2.heap.size := Nat.le_trans HB0.out.size bA.size
    have HV3 := Lib.hid V3
    have HL3 := Lib.hid L3
    have HBw := Lib.hid Bw
    have HO3 := Lib.hid O3
    have HS2 := Lib.hid hsz2
    have u1 : ¬ w.heap.size = lb := Nat.ne_of_lt HQ.out
    have u2 : ¬ lb = w.heap.size := Nat.ne_of_gt HQ.out
    clear V3 L3 Bw O3 L2 bA B3 hsz2 hlb
    go_wp2_with fail
    have L4 := HL3.out.set (.slice sa ss.length sc)
    have V4 : LsB (w3.setCell ⟨lb, 3, none⟩ (.slice sa ss.length sc)) w.heap.size 0 0 0 (.slice none 0 0) := (block_setCell_other u1).trans HV3.out
    have B4 := HBw.out.setCell (p := ⟨lb, 3, none⟩) (Nat.le_of_lt HQ.out) (.slice sa ss.length sc)
    have hne1 := HL3.out.not_row HO3.out
    have O4 : (w3.setCell ⟨lb, 3, none⟩ (.slice sa ss.length sc)).ownsRow w2.heap.size 70 1 (.slice sa ss.length sc) ss.length (smCells ss) := ownsRow_same HO3.out (fun j hj => block_setCell_other (fun e => hne1 (by rw [hj, e])))
    refine cretli _ (setLs (w3.setCell ⟨lb, 3, none⟩ (.slice sa ss.length sc)) w.heap.size i t n (.slice sa ss.length sc)) w.heap.size ⟨i, t, n, ss⟩ (.slice sa ss.length sc) true _ rfl rfl rfl (V4.setAll _ _ _ _) ?_
    rw [HL0.out, HD0.out]
    refine ⟨_, rfl, ?_, below_setLs B4 (Nat.le_refl _) _ _ _ _⟩
    have hne := V4.not_row O4
    have hO := ownsRow_same (w' := setLs (w3.setCell ⟨lb, 3, none⟩ (.slice sa ss.length sc)) w.heap.size i t n (.slice sa ss.length sc)) O4 (fun j hj => setLs_other (fun e => hne (by rw [hj, e])))
    exact ⟨hO.1, hO.2.imp id (fun ⟨g, cp, cur, e1, e2, e3⟩ => ⟨g, cp, cur, e1, Nat.le_trans HS2.out e2, e3⟩)⟩
set_option maxHeartbeats 4000000 in
theorem clist_nil (w : World) :
    Calls Tryd.prog 39 #[.pointer none] w fun e w' => e = .returned (.tuple #[lsV ls0 (.slice none 0 0), .bool false]) ∧ Below w.heap.size w w' := by
  have V0 := LsB.new w 0 0 0 (.slice none 0 0)
  have B0 := (Below.refl w.heap.size w).alloc (Nat.le_refl _) (.cells #[.int .i64 0, .int .i64 0, .int .i64 0, .slice none 0 0] 67)
  go_enter Tryd.func39, Tryd.ntmps39
  go_upto_region 1 with fail
  generalize (w.alloc (.cells #[.int .i64 0, .int .i64 0, .int .i64 0, .slice none 0 0] 67)) = w1 at V0 B0 ⊢
  obtain ⟨⟨v0, v1, v2, v3⟩, f0, f1, f2, f3⟩ := V0.cells
  have HV0 := Lib.hid V0
  have HB0 := Lib.hid B0
  clear V0 B0
  go_wp2_with fail
  refine (cempty_nil w1).mono ?_
  rintro e w2 ⟨rfl, rfl⟩
  go_wp2_with fail
  refine cretli _ (setLs w1 w.heap.size 0 0 0 (.slice none 0 0)) w.heap.size ls0 (.slice none 0 0) false _ rfl rfl rfl (HV0.out.setAll 0 0 0 (.slice none 0 0)) ?_
  exact ⟨rfl, below_setLs HB0.out (Nat.le_refl _) _ _ _ _⟩
end
end Go.Proofs.YtiknfifiglooeaaDoor
