/- A device's first two blocks in plain words: what head makes of them; no program. -/
import Derived.Test.YtpjbkeheemhlnaaDoorHeadScrub
import Derived.Test.YtpjbkeheemhlnaaDoorHeadOpen
namespace Go.Proofs.YtpjbkeheemhlnaaDoor
set_option linter.unusedVariables false
set_option maxRecDepth 100000

/-- x, y, and m empty blocks. -/
def Dx (x y : Blk) (m n : Nat) (f : Bool) (t : Nat) (d : Bool) : Dv := ⟨x :: y :: List.replicate m blk0, n, f, t, d⟩
def P2 (x y : Blk) (m : Nat) : Dv := Dx x y m 0 false 0 false
/-- A block that a record was put in. -/
def good (r : Rc) : Blk := ⟨r.bytes, false, false, []⟩
/-- What a block reads as. -/
def rd (b : Blk) : Rc × Int := if b.lost = true then (rc0, 2) else getF b.contents
theorem rd_good {r : Rc} (ho : r.Ok) : rd (good r) = (r, 1) := by
  unfold rd
  rw [if_neg (by simp [good]), contents_nil rfl]
  exact get_put ho
theorem rd_new : rd blk0 = (rc0, 0) := rfl
theorem rd_lost {b : Blk} (h : b.lost = true) : rd b = (rc0, 2) := by unfold rd; rw [if_pos h]
theorem P2_new (m : Nat) (hm : m + 2 ≤ 4096) : Dv.new ((m + 2 : Nat) : Int) = P2 blk0 blk0 m := by
  have e : howMany ((m + 2 : Nat) : Int) = m + 2 := by unfold howMany; omega
  unfold Dv.new Dv.newN P2 Dx
  rw [e]
  rfl
section
variable {x y : Blk} {m n t : Nat} {f d : Bool}
theorem Dx_at0 : (Dx x y m n f t d).bs[0]? = some x := rfl
theorem Dx_at1 : (Dx x y m n f t d).bs[1]? = some y := rfl
theorem Dx_read0 : (Dx x y m n f t false).sread 0 = ((rd x).1, (rd x).2, 0) := by
  cases hl : x.lost with
  | true => rw [rd_lost hl]; exact sread_lost 0 rfl Dx_at0 hl
  | false => have e : rd x = getF x.contents := by unfold rd; rw [if_neg (by simp [hl])]
             rw [e]; exact sread_of 0 rfl Dx_at0 hl
theorem Dx_read1 : (Dx x y m n f t false).sread 1 = ((rd y).1, (rd y).2, 0) := by
  cases hl : y.lost with
  | true => rw [rd_lost hl]; exact sread_lost 1 rfl Dx_at1 hl
  | false => have e : rd y = getF y.contents := by unfold rd; rw [if_neg (by simp [hl])]
             rw [e]; exact sread_of 1 rfl Dx_at1 hl
theorem Dx_down (i : Int) : (Dx x y m n f t true).sread i = (rc0, 0, 5) := sread_down i rfl
/-- Without a failure to come, or with one after t + 1 more. -/
theorem Dx_w0 {r : Rc} (ho : r.Ok) : (Dx x y m n false t false).swrite 0 r = (0, Dx (x.write n r.bytes) y m (n + 1) false t false) := swrite_of 0 ho rfl Dx_at0
theorem Dx_w1 {r : Rc} (ho : r.Ok) : (Dx x y m n false t false).swrite 1 r = (0, Dx x (y.write n r.bytes) m (n + 1) false t false) := swrite_of 1 ho rfl Dx_at1
theorem Dx_f : (Dx x y m n false t false).flush = (0, Dx x.flush y.flush m 0 false t false) := by
  have e : blk0.flush = blk0 := rfl
  unfold Dv.flush
  rw [if_pos (show (Dx x y m n false t false).up = true from rfl), show (Dx x y m n false t false).op = Dx x y m n false t false from rfl]
  unfold Dv.flushed Dx
  simp [e]
theorem Dx_ops : (Dx x y m n true (t + 1) false).up = true ∧ (Dx x y m n true (t + 1) false).op = Dx x y m n true t false := by
  unfold Dv.up Dv.op Dx
  simp
theorem Dx_op0 : (Dx x y m n true 0 false).up = false ∧ (Dx x y m n true 0 false).op = Dx x y m n true 0 true := by
  unfold Dv.up Dv.op Dx
  simp
theorem Dx_ws0 {r : Rc} (ho : r.Ok) : (Dx x y m n true (t + 1) false).swrite 0 r = (0, Dx (x.write n r.bytes) y m (n + 1) true t false) := by
  have h := swrite_of (D := Dx x y m n true (t + 1) false) 0 ho Dx_ops.1 Dx_at0
  rw [Dx_ops.2] at h
  exact h
theorem Dx_ws1 {r : Rc} (ho : r.Ok) : (Dx x y m n true (t + 1) false).swrite 1 r = (0, Dx x (y.write n r.bytes) m (n + 1) true t false) := by
  have h := swrite_of (D := Dx x y m n true (t + 1) false) 1 ho Dx_ops.1 Dx_at1
  rw [Dx_ops.2] at h
  exact h
theorem Dx_fs : (Dx x y m n true (t + 1) false).flush = (0, Dx x.flush y.flush m 0 true t false) := by
  have e : blk0.flush = blk0 := rfl
  unfold Dv.flush
  rw [if_pos Dx_ops.1, Dx_ops.2]
  unfold Dv.flushed Dx
  simp [e]
theorem Dx_wz (i : Int) {r : Rc} (ho : r.Ok) : (Dx x y m n true 0 false).swrite i r = (5, Dx x y m n true 0 true) := by
  rw [swrite_down i ho Dx_op0.1, Dx_op0.2]
theorem Dx_fz : (Dx x y m n true 0 false).flush = (5, Dx x y m n true 0 true) := by
  unfold Dv.flush
  rw [if_neg (by rw [Dx_op0.1]; decide), Dx_op0.2]
theorem flush_done {b : Blk} (h : b.pending = []) : b.flush = b := by unfold Blk.flush; rw [if_pos (by simp [h])]
theorem flush_good (r : Rc) : (good r).flush = good r := flush_done rfl
theorem flush_recd (b : Blk) (n : Nat) (r : Rc) : (b.write n r.bytes).flush = good r := write_flush b n r.bytes
theorem Dx_one0 {r : Rc} (ho : r.Ok) : (Dx x y m n false t false).one 0 r = (0, Dx (good r) y.flush m 0 false t false) := by
  rw [one_go (by rw [Dx_w0 ho]), Dx_w0 ho, Dx_f, flush_recd]
theorem Dx_one1 {r : Rc} (ho : r.Ok) : (Dx x y m n false t false).one 1 r = (0, Dx x.flush (good r) m 0 false t false) := by
  rw [one_go (by rw [Dx_w1 ho]), Dx_w1 ho, Dx_f, flush_recd]
theorem Dx_two0 {r : Rc} (ho : r.Ok) : (Dx x y m n false t false).two 0 r = (0, Dx (good r) (good r) m 0 false t false) := by
  rw [two_go (by rw [Dx_one0 ho]), Dx_one0 ho]
  exact (Dx_one1 ho).trans (by rw [flush_good])
theorem Dx_two1 {r : Rc} (ho : r.Ok) : (Dx x y m n false t false).two 1 r = (0, Dx (good r) (good r) m 0 false t false) := by
  rw [two_go (by rw [Dx_one1 ho]), Dx_one1 ho]
  exact (Dx_one0 ho).trans (by rw [flush_good])
theorem Dx_on0 (g : Blk → Blk) : (Dx x y m n f t d).onB 0 g = Dx (g x) y m n f t d := onB_at (k := 0) rfl Dx_at0
theorem Dx_on1 (g : Blk → Blk) : (Dx x y m n f t d).onB 1 g = Dx x (g y) m n f t d := onB_at (k := 1) rfl Dx_at1
theorem Dx_fall (k : Nat) : (Dx x y m n f t d).fall (k : Int) = Dx x y m n true k d := by unfold Dv.fall Dx; simp
theorem Dx_crash (zs : List Int) : (Dx x y m n f t d).crash zs = P2 (x.crash zs) (y.crash zs) m := by
  have e : blk0.crash zs = blk0 := rfl
  unfold Dv.crash P2 Dx
  simp [e]
open Classical in
theorem Dx_open : (Dx x y m n f t false).hopen = if pick (pick rc0 (rd x).1) (rd y).1 = rc0 ∧ (rd y).2 ≠ 0 then (rc0, 6) else (pick (pick rc0 (rd x).1) (rd y).1, 0) := by
  unfold Dv.hopen
  rw [Dx_read0, Dx_read1, if_pos rfl, if_pos rfl]
theorem Dx_opend : (Dx x y m n f t true).hopen = (rc0, 5) := by
  rw [hopen_e0 (by rw [Dx_down]; decide), Dx_down]
theorem Dx_opens {L : Rc} (h : pick (pick rc0 (rd x).1) (rd y).1 = L) (h0 : L ≠ rc0) : (Dx x y m n f t false).hopen = (L, 0) := by
  rw [Dx_open, h, if_neg (fun e => h0 e.1)]
theorem Dx_lost (hx : (rd x).1 = rc0) (hy : rd y = (rc0, 2)) : (Dx x y m n f t false).hopen = (rc0, 6) := by
  rw [Dx_open, hx, hy, pick_not (show (headF rc0).2 = false by rw [headF_zero]), pick_not (show (headF rc0).2 = false by rw [headF_zero]), if_pos ⟨rfl, by decide⟩]
end
theorem pick_zero (L : Rc) : pick L rc0 = L := pick_not (show (headF rc0).2 = false by rw [headF_zero])
theorem pick_copy {h : Hd} (ho : h.Ok) (i : Int) : pick rc0 (copyR h i) = copyR h i := pick_new (by rw [headF_copy ho])
theorem pick_same {h : Hd} (ho : h.Ok) (i : Int) : pick (copyR h i) (copyR h i) = copyR h i := pick_less (copy_ne h i) (Int.le_refl _)
theorem pick_up {a b : Hd} (ao : a.Ok) (bo : b.Ok) {i j : Int} (h : i < j) : pick (copyR a i) (copyR b j) = copyR b j := pick_more (by rw [headF_copy bo]) h
theorem pick_old {a b : Hd} {i j : Int} (h : i < j) : pick (copyR b j) (copyR a i) = copyR b j := pick_less (copy_ne b j) (Int.le_of_lt h)
theorem P2_fresh (m : Nat) : (P2 blk0 blk0 m).hopen = (rc0, 0) := by
  unfold P2
  rw [Dx_open, rd_new, pick_zero, pick_zero, if_neg (fun e => e.2 rfl)]

/-- Two copies of one head, or one and a bad block. -/
theorem open_both {h : Hd} (ho : h.Ok) {i : Int} (hi : 0 ≤ i ∧ i ≤ 281474976710655) (m : Nat) : (P2 (good (copyR h i)) (good (copyR h i)) m).hopen = (copyR h i, 0) :=
  Dx_opens (by rw [rd_good (copy_ok ho hi), pick_copy ho, pick_same ho]) (copy_ne h i)
theorem open_bad0 {h : Hd} (ho : h.Ok) {i : Int} (hi : 0 ≤ i ∧ i ≤ 281474976710655) {x : Blk} (hx : (rd x).1 = rc0) (m : Nat) : (P2 x (good (copyR h i)) m).hopen = (copyR h i, 0) :=
  Dx_opens (by rw [rd_good (copy_ok ho hi), hx, pick_zero, pick_copy ho]) (copy_ne h i)
theorem open_bad1 {h : Hd} (ho : h.Ok) {i : Int} (hi : 0 ≤ i ∧ i ≤ 281474976710655) {x : Blk} (hx : (rd x).1 = rc0) (m : Nat) : (P2 (good (copyR h i)) x m).hopen = (copyR h i, 0) :=
  Dx_opens (by rw [rd_good (copy_ok ho hi), hx, pick_copy ho, pick_zero]) (copy_ne h i)
theorem scrub_bad0 {h : Hd} (ho : h.Ok) {i : Int} (hi : 0 ≤ i ∧ i < 281474976710655) {x : Blk} (hx : (rd x).1 = rc0) (m : Nat) :
    (P2 x (good (copyR h i)) m).scrub (copyR h i) = (0, P2 (good (copyR h (i + 1))) (good (copyR h (i + 1))) m, copyR h (i + 1)) := by
  have h0 : ((P2 x (good (copyR h i)) m).sread 0).1 = rc0 := by unfold P2; rw [Dx_read0]; exact hx
  have hn : ¬ ((P2 x (good (copyR h i)) m).sread 0).1 = copyR h i := by rw [h0]; exact fun e => copy_ne h i e.symm
  rw [scrub_zero (by unfold P2; rw [Dx_read0]) (by unfold P2; rw [Dx_read1]) (fun e => e.elim (copy_ne h i) (fun e => hn e.1)) hn, headL_copy ho]
  have e := Dx_two0 (x := x) (y := good (copyR h i)) (m := m) (n := 0) (t := 0) (copy_ok ho (show 0 ≤ i + 1 ∧ i + 1 ≤ 281474976710655 by omega))
  unfold P2
  rw [show (copyR h i).index = i from rfl, e]
  show (0, _, lastL 0 _ _) = _
  rw [lastL_zero rfl]
theorem scrub_bad1 {h : Hd} (ho : h.Ok) {i : Int} (hi : 0 ≤ i ∧ i < 281474976710655) {x : Blk} (hx : (rd x).1 ≠ copyR h i) (m : Nat) :
    (P2 (good (copyR h i)) x m).scrub (copyR h i) = (0, P2 (good (copyR h (i + 1))) (good (copyR h (i + 1))) m, copyR h (i + 1)) := by
  have h0 : ((P2 (good (copyR h i)) x m).sread 0).1 = copyR h i := by unfold P2; rw [Dx_read0, rd_good (copy_ok ho (show 0 ≤ i ∧ i ≤ 281474976710655 by omega))]
  have hn : ¬ ((P2 (good (copyR h i)) x m).sread 1).1 = copyR h i := by unfold P2; rw [Dx_read1]; exact hx
  rw [scrub_one (by unfold P2; rw [Dx_read0]) (by unfold P2; rw [Dx_read1]) (fun e => e.elim (copy_ne h i) (fun e => hn e.2)) h0, headL_copy ho]
  have e := Dx_two1 (x := good (copyR h i)) (y := x) (m := m) (n := 0) (t := 0) (copy_ok ho (show 0 ≤ i + 1 ∧ i + 1 ≤ 281474976710655 by omega))
  unfold P2
  rw [show (copyR h i).index = i from rfl, e]
  show (0, _, lastL 0 _ _) = _
  rw [lastL_zero rfl]
theorem scrub_both {h : Hd} (ho : h.Ok) {i : Int} (hi : 0 ≤ i ∧ i ≤ 281474976710655) (m : Nat) :
    (P2 (good (copyR h i)) (good (copyR h i)) m).scrub (copyR h i) = (0, P2 (good (copyR h i)) (good (copyR h i)) m, copyR h i) :=
  scrub_same (by unfold P2; rw [Dx_read0]) (by unfold P2; rw [Dx_read1]) (.inr ⟨by unfold P2; rw [Dx_read0, rd_good (copy_ok ho hi)], by unfold P2; rw [Dx_read1, rd_good (copy_ok ho hi)]⟩)
theorem scrub_fresh (D : Dv) (h0 : (D.sread 0).2.2 = 0) (h1 : (D.sread 1).2.2 = 0) : D.scrub rc0 = (0, D, rc0) := scrub_same h0 h1 (.inl rfl)

/-- What a write that was not durable leaves of a block: what was there, the record, or its torn half. -/
theorem crash_put {a b : Rc} (zs : List Int) (n : Nat) : ((good a).write n b.bytes).crash zs = good a ∨ ((good a).write n b.bytes).crash zs = good b ∨ ((good a).write n b.bytes).crash zs = ⟨b.bytes.extract 0 (b.bytes.size / 2), true, false, []⟩ := by
  by_cases h1 : fateF zs n = 1
  · exact .inr (.inl (by simp [Blk.crash, Blk.write, good, oneHit, h1]))
  · by_cases h2 : fateF zs n = 2
    · exact .inr (.inr (by simp [Blk.crash, Blk.write, good, oneHit, h2]))
    · exact .inl (by simp [Blk.crash, Blk.write, good, oneHit, h1, h2])
theorem crash_good (a : Rc) (zs : List Int) : (good a).crash zs = good a := rfl
theorem rd_half {b : Rc} (h : b.Ok) : rd ⟨b.bytes.extract 0 (b.bytes.size / 2), true, false, []⟩ = (rc0, 2) := by
  unfold rd
  rw [if_neg (show ¬ (false = true) by decide), contents_nil rfl]
  exact get_half h
theorem five_ne : (5 : Int) ≠ 0 := by decide
/-- Law HeadAgain's story: a put, then b under way when the power failed, then Scrub, then one copy lost. -/
theorem again_math {a b : Hd} (ao : a.Ok) (bo : b.Ok) (k : Nat) (zs : List Int) : ∃ (q : Hd) (L r : Rc) (x y : Blk), (q = a ∨ q = b) ∧ q.Ok ∧
    ((((P2 (good (copyR a 1)) (good (copyR a 1)) 0).fall (k : Int)).two 0 (copyR b 2)).2.crash zs).hopen = (L, 0) ∧ headL L = q ∧ (-1 ≤ L.index ∧ L.index ≤ 281474976710654) ∧ L.data.size = 18 ∧
    ((((P2 (good (copyR a 1)) (good (copyR a 1)) 0).fall (k : Int)).two 0 (copyR b 2)).2.crash zs).scrub L = (0, P2 x y 0, r) ∧ headL r = q ∧ r.data.size = 18 ∧
    (((P2 x y 0).crash []).onB 0 Blk.lose).hopen = (r, 0) ∧ (((P2 x y 0).crash []).onB 1 Blk.lose).hopen = (r, 0) := by
  have hb : (copyR b 2).Ok := copy_ok bo (by decide)
  have ha : (copyR a 1).Ok := copy_ok ao (by decide)
  -- what is left by the failure: five ways
  have key : ∀ x y : Blk, ((rd x).1 = copyR a 1 ∧ x = good (copyR a 1) ∧ (y = good (copyR a 1)) ∨ x = good (copyR b 2) ∧ y = good (copyR a 1) ∨ (rd x).1 = rc0 ∧ y = good (copyR a 1) ∨ x = good (copyR b 2) ∧ (rd y).1 = rc0 ∨ x = good (copyR b 2) ∧ y = good (copyR b 2)) →
      ∃ (q : Hd) (L r : Rc) (x' y' : Blk), (q = a ∨ q = b) ∧ q.Ok ∧ (P2 x y 0).hopen = (L, 0) ∧ headL L = q ∧ (-1 ≤ L.index ∧ L.index ≤ 281474976710654) ∧ L.data.size = 18 ∧ (P2 x y 0).scrub L = (0, P2 x' y' 0, r) ∧ headL r = q ∧ r.data.size = 18 ∧
        (((P2 x' y' 0).crash []).onB 0 Blk.lose).hopen = (r, 0) ∧ (((P2 x' y' 0).crash []).onB 1 Blk.lose).hopen = (r, 0) := by
    have fin : ∀ (q : Hd) (i : Int), q.Ok → 0 ≤ i ∧ i ≤ 281474976710655 → (((P2 (good (copyR q i)) (good (copyR q i)) 0).crash []).onB 0 Blk.lose).hopen = (copyR q i, 0) ∧ (((P2 (good (copyR q i)) (good (copyR q i)) 0).crash []).onB 1 Blk.lose).hopen = (copyR q i, 0) := by
      intro q i qo hi
      rw [show (P2 (good (copyR q i)) (good (copyR q i)) 0).crash [] = P2 (good (copyR q i)) (good (copyR q i)) 0 from by unfold P2; rw [Dx_crash, crash_good]; rfl]
      refine ⟨?_, ?_⟩
      · rw [show (P2 (good (copyR q i)) (good (copyR q i)) 0).onB 0 Blk.lose = P2 (good (copyR q i)).lose (good (copyR q i)) 0 from Dx_on0 _]
        exact open_bad0 qo hi (by rw [rd_lost rfl]) 0
      · rw [show (P2 (good (copyR q i)) (good (copyR q i)) 0).onB 1 Blk.lose = P2 (good (copyR q i)) (good (copyR q i)).lose 0 from Dx_on1 _]
        exact open_bad1 qo hi (by rw [rd_lost rfl]) 0
    rintro x y (⟨_, rfl, rfl⟩ | ⟨rfl, rfl⟩ | ⟨hx, rfl⟩ | ⟨rfl, hy⟩ | ⟨rfl, rfl⟩)
    · exact ⟨a, copyR a 1, copyR a 1, _, _, .inl rfl, ao, open_both ao (by decide) 0, headL_copy ao 1, (show (-1 : Int) ≤ 1 ∧ (1 : Int) ≤ 281474976710654 by decide), copy_size a 1, scrub_both ao (by decide) 0, headL_copy ao 1, copy_size a 1, fin a 1 ao (by decide)⟩
    · refine ⟨b, copyR b 2, copyR b 3, _, _, .inr rfl, bo, ?_, headL_copy bo 2, (show (-1 : Int) ≤ 2 ∧ (2 : Int) ≤ 281474976710654 by decide), copy_size b 2, scrub_bad1 bo (by decide) ?_ 0, headL_copy bo 3, copy_size b 3, fin b 3 bo (by decide)⟩
      · exact Dx_opens (by rw [rd_good ha, rd_good hb, pick_copy bo, pick_old (by decide)]) (copy_ne b 2)
      · rw [rd_good ha]
        intro e
        have := (copy_inj ao bo e).2
        omega
    · exact ⟨a, copyR a 1, copyR a 2, _, _, .inl rfl, ao, open_bad0 ao (by decide) hx 0, headL_copy ao 1, (show (-1 : Int) ≤ 1 ∧ (1 : Int) ≤ 281474976710654 by decide), copy_size a 1, scrub_bad0 ao (by decide) hx 0, headL_copy ao 2, copy_size a 2, fin a 2 ao (by decide)⟩
    · refine ⟨b, copyR b 2, copyR b 3, _, _, .inr rfl, bo, open_bad1 bo (by decide) hy 0, headL_copy bo 2, (show (-1 : Int) ≤ 2 ∧ (2 : Int) ≤ 281474976710654 by decide), copy_size b 2, scrub_bad1 bo (by decide) ?_ 0, headL_copy bo 3, copy_size b 3, fin b 3 bo (by decide)⟩
      rw [hy]
      exact fun e => copy_ne b 2 e.symm
    · exact ⟨b, copyR b 2, copyR b 2, _, _, .inr rfl, bo, open_both bo (by decide) 0, headL_copy bo 2, (show (-1 : Int) ≤ 2 ∧ (2 : Int) ≤ 281474976710654 by decide), copy_size b 2, scrub_both bo (by decide) 0, headL_copy bo 2, copy_size b 2, fin b 2 bo (by decide)⟩
  have half := rd_half hb
  unfold P2 at *
  rw [Dx_fall]
  match k with
  | 0 =>
    rw [two_stop (by rw [one_stop (by rw [Dx_wz 0 hb]; exact five_ne), Dx_wz 0 hb]; exact five_ne), one_stop (by rw [Dx_wz 0 hb]; exact five_ne), Dx_wz 0 hb]
    simp only
    rw [Dx_crash]
    exact key _ _ (.inl ⟨by rw [crash_good, rd_good ha], rfl, rfl⟩)
  | 1 =>
    have e : (Dx (good (copyR a 1)) (good (copyR a 1)) 0 0 true 1 false).one 0 (copyR b 2) = (5, Dx ((good (copyR a 1)).write 0 (copyR b 2).bytes) (good (copyR a 1)) 0 1 true 0 true) := by
      rw [one_go (by rw [Dx_ws0 hb]), Dx_ws0 hb, Dx_fz]
    rw [two_stop (by rw [e]; exact five_ne), e]
    simp only
    rw [Dx_crash, crash_good]
    rcases crash_put (a := copyR a 1) (b := copyR b 2) zs 0 with h | h | h
    · exact key _ _ (.inl ⟨by rw [h, rd_good ha], h, rfl⟩)
    · exact key _ _ (.inr (.inl ⟨h, rfl⟩))
    · exact key _ _ (.inr (.inr (.inl ⟨by rw [h, half], rfl⟩)))
  | 2 =>
    have e : (Dx (good (copyR a 1)) (good (copyR a 1)) 0 0 true 2 false).one 0 (copyR b 2) = (0, Dx (good (copyR b 2)) (good (copyR a 1)) 0 0 true 0 false) := by
      rw [one_go (by rw [Dx_ws0 hb]), Dx_ws0 hb, Dx_fs, flush_recd, flush_good]
    rw [two_go (by rw [e]), e, one_stop (by rw [Dx_wz _ hb]; exact five_ne), Dx_wz _ hb]
    simp only
    rw [Dx_crash]
    exact key _ _ (.inr (.inl ⟨rfl, rfl⟩))
  | 3 =>
    have e : (Dx (good (copyR a 1)) (good (copyR a 1)) 0 0 true 3 false).one 0 (copyR b 2) = (0, Dx (good (copyR b 2)) (good (copyR a 1)) 0 0 true 1 false) := by
      rw [one_go (by rw [Dx_ws0 hb]), Dx_ws0 hb, Dx_fs, flush_recd, flush_good]
    have e2 : (Dx (good (copyR b 2)) (good (copyR a 1)) 0 0 true 1 false).one (1 - 0) (copyR b 2) = (5, Dx (good (copyR b 2)) ((good (copyR a 1)).write 0 (copyR b 2).bytes) 0 1 true 0 true) := by
      rw [show (1 : Int) - 0 = 1 by decide, one_go (by rw [Dx_ws1 hb]), Dx_ws1 hb, Dx_fz]
    rw [two_go (by rw [e]), e]
    simp only
    rw [e2]
    simp only
    rw [Dx_crash, crash_good]
    rcases crash_put (a := copyR a 1) (b := copyR b 2) zs 0 with h | h | h
    · exact key _ _ (.inr (.inl ⟨rfl, h⟩))
    · exact key _ _ (.inr (.inr (.inr (.inr ⟨rfl, h⟩))))
    · exact key _ _ (.inr (.inr (.inr (.inl ⟨rfl, by rw [h, half]⟩))))
  | j + 4 =>
    have e : (Dx (good (copyR a 1)) (good (copyR a 1)) 0 0 true (j + 4) false).one 0 (copyR b 2) = (0, Dx (good (copyR b 2)) (good (copyR a 1)) 0 0 true (j + 2) false) := by
      rw [one_go (by rw [Dx_ws0 hb]), Dx_ws0 hb, Dx_fs, flush_recd, flush_good]
    have e2 : (Dx (good (copyR b 2)) (good (copyR a 1)) 0 0 true (j + 2) false).one (1 - 0) (copyR b 2) = (0, Dx (good (copyR b 2)) (good (copyR b 2)) 0 0 true j false) := by
      rw [show (1 : Int) - 0 = 1 by decide, one_go (by rw [Dx_ws1 hb]), Dx_ws1 hb, Dx_fs, flush_recd, flush_good]
    rw [two_go (by rw [e]), e]
    simp only
    rw [e2]
    simp only
    rw [Dx_crash, crash_good]
    exact key _ _ (.inr (.inr (.inr (.inr ⟨rfl, rfl⟩))))
end Go.Proofs.YtpjbkeheemhlnaaDoor
