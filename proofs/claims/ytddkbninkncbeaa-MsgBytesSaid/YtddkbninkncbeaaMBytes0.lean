/- Bytes of a message. No conditions beyond those in each statement. -/
import Derived.Test.YtddkbninkncbeaaMRight
namespace Go.Proofs.Ytddkbninkncbeaa
open Go.RowKit
set_option linter.unusedVariables false
set_option linter.unusedSimpArgs false
set_option maxRecDepth 100000

theorem und_ints : Try.prog.underlying 36 = some (.slice 3) := by kernel_rfl
theorem info_int : (Try.prog.info? 3).map (fun i => (i.zero, i.size, i.bytes)) = some (some (.int .i64 0), 1, 8) := by kernel_rfl
def ntOne (z : Int) : List Value := [.int .i64 z]
theorem ntOne_len (z : Int) : (ntOne z).length = 1 := rfl
/-- A row of numbers of one's own. -/
def IRow (w : World) (base : Nat) (v : Value) (L : List Int) : Prop := w.ownsRow base 3 1 v L.length (cellsK ntOne L)
theorem IRow.below {w w' : World} {base : Nat} {v : Value} {L : List Int} (h : IRow w base v L) (hb : Below w.heap.size w w') : IRow w' base v L := by
  refine ⟨h.1, h.2.imp id ?_⟩
  rintro ⟨g, c, cur, h1, h3, h4, h5⟩
  exact ⟨g, c, cur, h1, h3, (hb.block g (Array.getElem?_eq_some_iff.1 h4).1).trans h4, h5⟩
theorem IRow.less {w : World} {base base' : Nat} {v : Value} {L : List Int} (h : IRow w base v L) (hb : base' ≤ base) : IRow w base' v L := by
  refine ⟨h.1, h.2.imp id ?_⟩
  rintro ⟨g, c, cur, h1, h3, h4⟩
  exact ⟨g, c, cur, h1, by omega, h4⟩
theorem IRow.own {w : World} {base : Nat} {v : Value} {L : List Int} (h : IRow w base v L) {g : Nat} (hg : v.ownBlock = some g) : base ≤ g ∧ g < w.heap.size := by
  rcases h.2 with ⟨h1, _⟩ | ⟨g', c, cur, h1, h3, h4, _⟩
  · rw [h1] at hg; simp [Value.ownBlock] at hg
  · rw [h1] at hg; simp [Value.ownBlock] at hg; subst hg; exact ⟨h3, (Array.getElem?_eq_some_iff.1 h4).1⟩
theorem IRow.cells {w : World} {base : Nat} {v : Value} {L : List Int} (h : IRow w base v L) (h0 : 0 < L.length) : ∃ g c, v = .slice (some ⟨g, 0, none⟩) L.length c ∧ base ≤ g ∧ g < w.heap.size ∧ ∀ j, j < L.length → w.cell? ⟨g, 0 + j, none⟩ = some (.int .i64 (L.getD j 0)) := by
  have h' := h
  rcases h.2 with ⟨_, h2⟩ | ⟨g, c, cur, h1, h3, h4, _⟩
  · omega
  · refine ⟨g, c, h1, h3, (Array.getElem?_eq_some_iff.1 h4).1, fun j hj => ?_⟩
    subst h1
    have hx : L[j]? = some (L.getD j 0) := by rw [List.getD_eq_getElem?_getD, List.getElem?_eq_getElem hj]; rfl
    have := World.ownsRow.cellAt h' j (by omega)
    rw [Nat.zero_add, this]
    have h2 := cellsK_at ntOne_len L j 0 _ hx (by decide)
    rw [Nat.mul_one, Nat.add_zero] at h2
    rw [h2]; rfl
/-- A list's numbers. -/
def lnS (i t n : Int) (S : List Int) : List Int := [i, t, n, (S.length : Int)] ++ S
theorem lnS_len (i t n : Int) (S : List Int) : (lnS i t n S).length = S.length + 4 := by unfold lnS; rw [List.length_append]; simp only [List.length_cons, List.length_nil]; omega
set_option maxHeartbeats 4000000 in
theorem listnums_any (sv : Value) (i t n : Int) (S : List Int) (w : World) (h : SmsR w sv S) (hS : S.length ≤ 1000000) :
    Calls Try.prog 18 #[lsV sv i t n] w fun e w' => ∃ v, e = .returned v ∧ IRow w' w.heap.size v (lnS i t n S) ∧ Below w.heap.size w w' := by
  obtain ⟨a, cap, rfl, _⟩ := h.form
  have HS := Lib.hid h
  clear h
  obtain ⟨i0, hi, hz0, hz1, hz2⟩ := info_parts info_int
  have bA := (Below.refl w.heap.size w).alloc (Nat.le_refl _) (.cells #[.int .i64 i, .int .i64 t, .int .i64 n, .slice a S.length cap] 27)
  have N1 := LsB.new w (.slice a S.length cap) i t n
  unfold lsV
  go_enter Try.func18, Try.ntmps18
  go_upto_region 1 with fail
  obtain ⟨w1, hw1⟩ : ∃ w1, w1 = w.alloc (.cells #[.int .i64 i, .int .i64 t, .int .i64 n, .slice a S.length cap] 27) := ⟨_, rfl⟩
  have hw1' : w1 = w.alloc (.cells (lsA (.slice a S.length cap) i t n) 27) := hw1
  rw [← hw1'] at N1
  rw [← hw1] at bA ⊢
  obtain ⟨⟨l0, l1, l2, l3⟩, _⟩ := LsB.cells N1
  have hs1 : w.heap.size + 1 ≤ w1.heap.size := N1.lt
  have bB := (Below.refl w1.heap.size w1).alloc (Nat.le_refl _) (.cells #[.int .i64 i, .int .i64 t, .int .i64 n, .int .i64 (S.length : Int)] 3)
  have R1 : IRow (w1.alloc (.cells #[.int .i64 i, .int .i64 t, .int .i64 n, .int .i64 (S.length : Int)] 3)) (w.heap.size + 1) (.slice (some ⟨w1.heap.size, 0, none⟩) 4 4) (lnS i t n (S.take 0) ) ∨ True := .inr trivial
  have R2 : (w1.alloc (.cells #[.int .i64 i, .int .i64 t, .int .i64 n, .int .i64 (S.length : Int)] 3)).ownsRow (w.heap.size + 1) 3 1 (.slice (some ⟨w1.heap.size, 0, none⟩) 4 4) 4 (cellsK ntOne [i, t, n, (S.length : Int)]) :=
    ⟨rfl, .inr ⟨w1.heap.size, 4, _, rfl, hs1, heap_alloc_new w1 _, Nat.le_refl _, by unfold maxLen; omega, rfl, rfl⟩⟩
  have N2 := N1.below bB
  have bC := bA.trans (bB.mono bA.size)
  have HN1 := Lib.hid N1
  clear R1 N1 hw1 hw1'
  go_upto_region 2 with fail
  obtain ⟨w2, hw2⟩ : ∃ w2, w2 = w1.alloc (.cells #[.int .i64 i, .int .i64 t, .int .i64 n, .int .i64 (S.length : Int)] 3) := ⟨_, rfl⟩
  rw [← hw2] at R2 N2 bC ⊢
  generalize hv0 : Value.slice (some ⟨w1.heap.size, 0, none⟩) 4 4 = nv0 at R2 ⊢
  clear l0 l1 l2 l3 hw2 hv0 HN1 bA bB
  obtain ⟨⟨l0, l1, l2, l3⟩, _⟩ := LsB.cells N2
  have hs2 : w.heap.size + 1 ≤ w2.heap.size := N2.lt
  clear N2
  go_wp2_with fail
  go_loopw [3, 19] (fun nv z wr => ∃ k : Nat, k ≤ S.length ∧ z = .int .i64 (k : Int) ∧ wr.ownsRow (w.heap.size + 1) 3 1 nv (k + 4) (cellsK ntOne ([i, t, n, (S.length : Int)] ++ S.take k)) ∧ Below w.heap.size w wr ∧ w.heap.size + 1 ≤ wr.heap.size) (fun _ z _ => S.length - (intOf z).toNat)
  case atStart => exact ⟨0, Nat.zero_le _, rfl, by simpa using R2, bC, hs2⟩
  case round =>
    obtain ⟨k, hk, rfl, Rk, Bk, hsk⟩ := hrel
    clear R2 bC l0 l1 l2 l3
    by_cases hlt : k < S.length
    · have hk0 : (0 : Int) ≤ (k : Int) := by omega
      have hki : (k : Int) < (S.length : Int) := by omega
      have t2 : IntKind.i64.wrap ((k : Int) + 1) = (k : Int) + 1 := IntWalk.i64_in _ (by omega)
      obtain ⟨hzb, g, off, rfl, hcell⟩ := HS.out.at Bk hlt
      have HTK := Lib.hid (take_snoc_getD S (0 : Int) k hlt)
      generalize S.getD k 0 = z at *
      have ez : IntKind.i64.wrap z = z := IntWalk.i64_in _ (by omega)
      have HRK := Lib.hid Rk
      have HBK := Lib.hid Bk
      clear Bk
      go_wp2_with (at_builtin; refine wpList_append_own _ rfl _ _ 36 rfl (w.heap.size + 1) 3 i0 (.int .i64 0) 1 8 und_ints hi hz0 hz1 hz2 rfl (by decide) _ _ _ rfl (Rk.alloc _) ⟨wr.heap.size, 0, none⟩ 1 1 [.int .i64 z] rfl rfl (cell_one_new _ _ _) (by simp [Value.oneCell']) (by unfold maxLen; omega) (by omega) (by simp; omega) ?_; intro v' w3 hown' hgrow _; go_frame)
      go_roundw
      case rel =>
        have hbA := (Below.refl wr.heap.size wr).alloc (Nat.le_refl _) (.cells #[.int .i64 z] 3)
        refine ⟨k + 1, by omega, by go_num, ?_, ?_, ?_⟩
        · rw [HTK.out, ← List.append_assoc, cellsK_append, show k + 1 + 4 = k + 4 + 1 by omega]; exact hown'
        · exact (HBK.out.trans (hbA.mono HBK.out.size)).grown hgrow (Nat.le_trans HBK.out.size hbA.size) (fun j hj => by have := (World.ownsRow.lt HRK.out j hj).1; omega)
        · have := hgrow.size; have := hbA.size; omega
      case measure => simp [intOf]; omega
    · obtain rfl : k = S.length := by omega
      have hlt2 : decide ((S.length : Int) < (S.length : Int)) = false := by simp
      rw [List.take_length] at Rk
      have HRK := Lib.hid Rk
      clear Rk
      go_wp2_with fail
      go_ret
      refine ⟨_, rfl, ?_, Bk⟩
      have h := HRK.out
      exact IRow.less (base := w.heap.size + 1) (by unfold IRow; rw [lnS_len]; exact h) (Nat.le_succ _)
/-- An entry's bytes; a message's. -/
def encE (o : Ent) : List UInt8 := numsE [o.ix, o.tm] ++ textsE [o.da]
def headE (m : Mg) : List UInt8 := numsE [m.kd, m.fr, m.dt, m.tm, m.ix, m.lg, m.la, m.co, (m.es.length : Int)]
def encM (m : Mg) : List UInt8 := (((((headE m ++ m.es.flatMap encE) ++ flagsE [m.ok]) ++ numsE [m.st]) ++ numsE (lnS m.li m.lt m.lb m.ss)) ++ numsE [m.pa]) ++ textsE [m.da]
theorem encE_len (o : Ent) : (encE o).length ≤ 65549 := by
  have := textsE_length [o.da]
  unfold encE; rw [List.length_append, numsE_length]; simp only [List.length_cons, List.length_nil] at this ⊢; omega
theorem encEs_len : ∀ L : List Ent, (L.flatMap encE).length ≤ 65549 * L.length
  | [] => by simp
  | z :: l => by
    have h1 := encEs_len l
    have h2 := encE_len z
    rw [List.flatMap_cons, List.length_append, List.length_cons]; omega
theorem encEs_snoc (L : List Ent) (k : Nat) (h : k < L.length) : (L.take (k + 1)).flatMap encE = (L.take k).flatMap encE ++ encE (L.getD k Ent.zero) := by
  rw [take_snoc_getD L Ent.zero k h, List.flatMap_append]; simp
/-- What Bytes of a message answers. -/
def bytesM (m : Mg) : ByteArray × Int := if rightM m = true then (⟨(encM m).toArray⟩, 0) else (⟨#[]⟩, 1)
theorem rightN_parts {z : Int} (h : rightN z = true) : 0 ≤ z ∧ z ≤ 281474976710655 := by
  simp only [rightN, lowB, highB, Bool.and_eq_true, Bool.not_eq_true', decide_eq_false_iff_not] at h
  omega
theorem rightE_parts {o : Ent} (h : rightE o = true) : (0 ≤ o.ix ∧ o.ix ≤ 281474976710655) ∧ (0 ≤ o.tm ∧ o.tm ≤ 281474976710655) ∧ o.da.size ≤ 488 := by
  simp only [rightE, Bool.and_eq_true, decide_eq_true_eq] at h
  exact ⟨rightN_parts h.1.1, rightN_parts h.1.2, by omega⟩
structure Mg.Rt (m : Mg) : Prop where
  fr : 0 ≤ m.fr ∧ m.fr ≤ 281474976710655
  dt : 0 ≤ m.dt ∧ m.dt ≤ 281474976710655
  tm : 0 ≤ m.tm ∧ m.tm ≤ 281474976710655
  ix : 0 ≤ m.ix ∧ m.ix ≤ 281474976710655
  lg : 0 ≤ m.lg ∧ m.lg ≤ 281474976710655
  la : 0 ≤ m.la ∧ m.la ≤ 281474976710655
  co : 0 ≤ m.co ∧ m.co ≤ 281474976710655
  li : 0 ≤ m.li ∧ m.li ≤ 281474976710655
  lt : 0 ≤ m.lt ∧ m.lt ≤ 281474976710655
  lb : 0 ≤ m.lb ∧ m.lb ≤ 281474976710655
  pa : 0 ≤ m.pa ∧ m.pa ≤ 281474976710655
  kd : 1 ≤ m.kd ∧ m.kd ≤ 8
  st : 0 ≤ m.st ∧ m.st ≤ 3
  es : m.es.length ≤ 4
  ess : ∀ e ∈ m.es, rightE e = true
  ss : m.ss.length ≤ 64
  da : m.da.size ≤ 400
theorem rightM_parts {m : Mg} (h : rightM m = true) : m.Rt := by
  simp only [rightM, Bool.and_eq_true, List.all_eq_true, rightT, decide_eq_true_eq] at h
  obtain ⟨⟨h1, h2⟩, ⟨⟨⟨⟨⟨⟨t1, t2⟩, t3⟩, t4⟩, t5⟩, t6⟩, t7⟩⟩ := h
  have q := fun z (hz : z ∈ numsM m) => rightN_parts (h1 z hz)
  unfold numsM at q
  exact {fr := q _ (by simp), dt := q _ (by simp), tm := q _ (by simp), ix := q _ (by simp), lg := q _ (by simp), la := q _ (by simp), co := q _ (by simp), li := q _ (by simp), lt := q _ (by simp), lb := q _ (by simp), pa := q _ (by simp), kd := ⟨t1, t2⟩, st := ⟨t3, t4⟩, es := by omega, ess := h2, ss := by omega, da := by omega}
theorem rightM_make {m : Mg} (h : m.Rt) : rightM m = true := by
  simp only [rightM, Bool.and_eq_true, List.all_eq_true, rightT, decide_eq_true_eq]
  have q : ∀ z, 0 ≤ z ∧ z ≤ 281474976710655 → rightN z = true := fun z hz => by
    simp only [rightN, lowB, highB, Bool.and_eq_true, Bool.not_eq_true', decide_eq_false_iff_not]; omega
  refine ⟨⟨fun z hz => ?_, h.ess⟩, ⟨⟨⟨⟨⟨⟨h.kd.1, h.kd.2⟩, h.st.1⟩, h.st.2⟩, ?_⟩, ?_⟩, ?_⟩⟩
  · unfold numsM at hz
    simp only [List.mem_cons, List.not_mem_nil, or_false] at hz
    rcases hz with rfl | rfl | rfl | rfl | rfl | rfl | rfl | rfl | rfl | rfl | rfl
    · exact q _ h.fr
    · exact q _ h.dt
    · exact q _ h.tm
    · exact q _ h.ix
    · exact q _ h.lg
    · exact q _ h.la
    · exact q _ h.co
    · exact q _ h.pa
    · exact q _ h.li
    · exact q _ h.lt
    · exact q _ h.lb
  · have := h.es; omega
  · have := h.ss; omega
  · have := h.da; omega
theorem Mg.Rt.ok {m : Mg} (h : m.Rt) : m.Ok := by
  have h1 := h.kd
  have h2 := h.st
  have h3 := h.da
  refine {fr := ⟨by have := h.fr; omega, by have := h.fr; omega⟩, dt := ⟨by have := h.dt; omega, by have := h.dt; omega⟩, tm := ⟨by have := h.tm; omega, by have := h.tm; omega⟩, ix := ⟨by have := h.ix; omega, by have := h.ix; omega⟩, lg := ⟨by have := h.lg; omega, by have := h.lg; omega⟩, la := ⟨by have := h.la; omega, by have := h.la; omega⟩, co := ⟨by have := h.co; omega, by have := h.co; omega⟩, li := ⟨by have := h.li; omega, by have := h.li; omega⟩, lt := ⟨by have := h.lt; omega, by have := h.lt; omega⟩, lb := ⟨by have := h.lb; omega, by have := h.lb; omega⟩, pa := ⟨by have := h.pa; omega, by have := h.pa; omega⟩, kd := ?_, st := ?_, da := ?_}
  · unfold InR; omega
  · unfold InR; omega
  · unfold maxLen; omega

end Go.Proofs.Ytddkbninkncbeaa
