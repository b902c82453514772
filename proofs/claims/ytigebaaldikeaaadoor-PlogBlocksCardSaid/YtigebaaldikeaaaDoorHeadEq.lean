/- A device's first two blocks in plain words: what head makes of them; no program. head's arguments of a law: a head as four numbers; right. No conditions beyond those in each statement. What head's functions do to a device beside blocks that it leaves alone, with what they answer reckoned ahead; law 5's helper begin. No conditions beyond those in each statement. Heads compared and loaded, at the operations. No conditions beyond those in each statement. -/
import Derived.Test.YtigebaaldikeaaaDoorHeadPut
import Derived.Test.YtigebaaldikeaaaDoorHeadOpen
import Derived.Test.YtigebaaldikeaaaDoorSlotArgs
import Derived.Test.YtigebaaldikeaaaDoorHeadOf
namespace Go.Proofs.YtigebaaldikeaaaDoor
section
set_option linter.unusedVariables false
set_option maxRecDepth 100000

/-- x, y, and m empty blocks. -/
def Dx (x y : Blk) (m n : Nat) (f : Bool) (t : Nat) (d : Bool) : Dv := ⟨x :: y :: List.replicate m blk0, n, f, t, d⟩
def P2 (x y : Blk) (m : Nat) : Dv := Dx x y m 0 false 0 false
/-- A block that a record was put in. -/
def good (r : Rc) : Blk := ⟨r.bytes, false, false, []⟩
/-- What a block reads as. -/
def rd (b : Blk) : Rc × Int := if b.lost = true then (rc0, 2) else getF b.contents
theorem rd_good {r : Rc} (ho : r.Ok) : rd (good r) = (r, 1) := by
  unfold rd
  rw [if_neg (by simp [good]), contents_nil rfl]
  exact get_put ho
theorem rd_new : rd blk0 = (rc0, 0) := rfl
theorem rd_lost {b : Blk} (h : b.lost = true) : rd b = (rc0, 2) := by unfold rd; rw [if_pos h]
theorem P2_new (m : Nat) (hm : m + 2 ≤ 4096) : Dv.new ((m + 2 : Nat) : Int) = P2 blk0 blk0 m := by
  have e : howMany ((m + 2 : Nat) : Int) = m + 2 := by unfold howMany; omega
  unfold Dv.new Dv.newN P2 Dx
  rw [e]
  rfl
section
variable {x y : Blk} {m n t : Nat} {f d : Bool}
theorem Dx_at0 : (Dx x y m n f t d).bs[0]? = some x := rfl
theorem Dx_at1 : (Dx x y m n f t d).bs[1]? = some y := rfl
theorem Dx_read0 : (Dx x y m n f t false).sread 0 = ((rd x).1, (rd x).2, 0) := by
  cases hl : x.lost with
  | true => rw [rd_lost hl]; exact sread_lost 0 rfl Dx_at0 hl
  | false => have e : rd x = getF x.contents := by unfold rd; rw [if_neg (by simp [hl])]
             rw [e]; exact sread_of 0 rfl Dx_at0 hl
theorem Dx_read1 : (Dx x y m n f t false).sread 1 = ((rd y).1, (rd y).2, 0) := by
  cases hl : y.lost with
  | true => rw [rd_lost hl]; exact sread_lost 1 rfl Dx_at1 hl
  | false => have e : rd y = getF y.contents := by unfold rd; rw [if_neg (by simp [hl])]
             rw [e]; exact sread_of 1 rfl Dx_at1 hl
theorem Dx_down (i : Int) : (Dx x y m n f t true).sread i = (rc0, 0, 5) := sread_down i rfl
/-- Without a failure to come, or with one after t + 1 more. -/
theorem Dx_w0 {r : Rc} (ho : r.Ok) : (Dx x y m n false t false).swrite 0 r = (0, Dx (x.write n r.bytes) y m (n + 1) false t false) := swrite_of 0 ho rfl Dx_at0
theorem Dx_w1 {r : Rc} (ho : r.Ok) : (Dx x y m n false t false).swrite 1 r = (0, Dx x (y.write n r.bytes) m (n + 1) false t false) := swrite_of 1 ho rfl Dx_at1
theorem Dx_f : (Dx x y m n false t false).flush = (0, Dx x.flush y.flush m 0 false t false) := by
  have e : blk0.flush = blk0 := rfl
  unfold Dv.flush
  rw [if_pos (show (Dx x y m n false t false).up = true from rfl), show (Dx x y m n false t false).op = Dx x y m n false t false from rfl]
  unfold Dv.flushed Dx
  simp [e]
theorem Dx_ops : (Dx x y m n true (t + 1) false).up = true ∧ (Dx x y m n true (t + 1) false).op = Dx x y m n true t false := by
  unfold Dv.up Dv.op Dx
  simp
theorem Dx_op0 : (Dx x y m n true 0 false).up = false ∧ (Dx x y m n true 0 false).op = Dx x y m n true 0 true := by
  unfold Dv.up Dv.op Dx
  simp
theorem Dx_ws0 {r : Rc} (ho : r.Ok) : (Dx x y m n true (t + 1) false).swrite 0 r = (0, Dx (x.write n r.bytes) y m (n + 1) true t false) := by
  have h := swrite_of (D := Dx x y m n true (t + 1) false) 0 ho Dx_ops.1 Dx_at0
  rw [Dx_ops.2] at h
  exact h
theorem Dx_ws1 {r : Rc} (ho : r.Ok) : (Dx x y m n true (t + 1) false).swrite 1 r = (0, Dx x (y.write n r.bytes) m (n + 1) true t false) := by
  have h := swrite_of (D := Dx x y m n true (t + 1) false) 1 ho Dx_ops.1 Dx_at1
  rw [Dx_ops.2] at h
  exact h
theorem Dx_fs : (Dx x y m n true (t + 1) false).flush = (0, Dx x.flush y.flush m 0 true t false) := by
  have e : blk0.flush = blk0 := rfl
  unfold Dv.flush
  rw [if_pos Dx_ops.1, Dx_ops.2]
  unfold Dv.flushed Dx
  simp [e]
theorem Dx_wz (i : Int) {r : Rc} (ho : r.Ok) : (Dx x y m n true 0 false).swrite i r = (5, Dx x y m n true 0 true) := by
  rw [swrite_down i ho Dx_op0.1, Dx_op0.2]
theorem Dx_fz : (Dx x y m n true 0 false).flush = (5, Dx x y m n true 0 true) := by
  unfold Dv.flush
  rw [if_neg (by rw [Dx_op0.1]; decide), Dx_op0.2]
theorem flush_done {b : Blk} (h : b.pending = []) : b.flush = b := by unfold Blk.flush; rw [if_pos (by simp [h])]
theorem flush_good (r : Rc) : (good r).flush = good r := flush_done rfl
theorem flush_recd (b : Blk) (n : Nat) (r : Rc) : (b.write n r.bytes).flush = good r := write_flush b n r.bytes
theorem Dx_one0 {r : Rc} (ho : r.Ok) : (Dx x y m n false t false).one 0 r = (0, Dx (good r) y.flush m 0 false t false) := by
  rw [one_go (by rw [Dx_w0 ho]), Dx_w0 ho, Dx_f, flush_recd]
theorem Dx_one1 {r : Rc} (ho : r.Ok) : (Dx x y m n false t false).one 1 r = (0, Dx x.flush (good r) m 0 false t false) := by
  rw [one_go (by rw [Dx_w1 ho]), Dx_w1 ho, Dx_f, flush_recd]
theorem Dx_two0 {r : Rc} (ho : r.Ok) : (Dx x y m n false t false).two 0 r = (0, Dx (good r) (good r) m 0 false t false) := by
  rw [two_go (by rw [Dx_one0 ho]), Dx_one0 ho]
  exact (Dx_one1 ho).trans (by rw [flush_good])
theorem Dx_two1 {r : Rc} (ho : r.Ok) : (Dx x y m n false t false).two 1 r = (0, Dx (good r) (good r) m 0 false t false) := by
  rw [two_go (by rw [Dx_one1 ho]), Dx_one1 ho]
  exact (Dx_one0 ho).trans (by rw [flush_good])
theorem Dx_on0 (g : Blk → Blk) : (Dx x y m n f t d).onB 0 g = Dx (g x) y m n f t d := onB_at (k := 0) rfl Dx_at0
theorem Dx_on1 (g : Blk → Blk) : (Dx x y m n f t d).onB 1 g = Dx x (g y) m n f t d := onB_at (k := 1) rfl Dx_at1
theorem Dx_fall (k : Nat) : (Dx x y m n f t d).fall (k : Int) = Dx x y m n true k d := by unfold Dv.fall Dx; simp
theorem Dx_crash (zs : List Int) : (Dx x y m n f t d).crash zs = P2 (x.crash zs) (y.crash zs) m := by
  have e : blk0.crash zs = blk0 := rfl
  unfold Dv.crash P2 Dx
  simp [e]
open Classical in
theorem Dx_open : (Dx x y m n f t false).hopen = if pick (pick rc0 (rd x).1) (rd y).1 = rc0 ∧ (rd y).2 ≠ 0 then (rc0, 6) else (pick (pick rc0 (rd x).1) (rd y).1, 0) := by
  unfold Dv.hopen
  rw [Dx_read0, Dx_read1, if_pos rfl, if_pos rfl]
theorem Dx_opend : (Dx x y m n f t true).hopen = (rc0, 5) := by
  rw [hopen_e0 (by rw [Dx_down]; decide), Dx_down]
theorem Dx_opens {L : Rc} (h : pick (pick rc0 (rd x).1) (rd y).1 = L) (h0 : L ≠ rc0) : (Dx x y m n f t false).hopen = (L, 0) := by
  rw [Dx_open, h, if_neg (fun e => h0 e.1)]
theorem Dx_lost (hx : (rd x).1 = rc0) (hy : rd y = (rc0, 2)) : (Dx x y m n f t false).hopen = (rc0, 6) := by
  rw [Dx_open, hx, hy, pick_not (show (headF rc0).2 = false by rw [headF_zero]), pick_not (show (headF rc0).2 = false by rw [headF_zero]), if_pos ⟨rfl, by decide⟩]
end
theorem pick_zero (L : Rc) : pick L rc0 = L := pick_not (show (headF rc0).2 = false by rw [headF_zero])
theorem pick_copy {h : Hd} (ho : h.Ok) (i : Int) : pick rc0 (copyR h i) = copyR h i := pick_new (by rw [headF_copy ho])
theorem pick_same {h : Hd} (ho : h.Ok) (i : Int) : pick (copyR h i) (copyR h i) = copyR h i := pick_less (copy_ne h i) (Int.le_refl _)
theorem pick_up {a b : Hd} (ao : a.Ok) (bo : b.Ok) {i j : Int} (h : i < j) : pick (copyR a i) (copyR b j) = copyR b j := pick_more (by rw [headF_copy bo]) h
theorem pick_old {a b : Hd} {i j : Int} (h : i < j) : pick (copyR b j) (copyR a i) = copyR b j := pick_less (copy_ne b j) (Int.le_of_lt h)
theorem P2_fresh (m : Nat) : (P2 blk0 blk0 m).hopen = (rc0, 0) := by
  unfold P2
  rw [Dx_open, rd_new, pick_zero, pick_zero, if_neg (fun e => e.2 rfl)]

/-- Two copies of one head, or one and a bad block. -/
theorem open_both {h : Hd} (ho : h.Ok) {i : Int} (hi : 0 ≤ i ∧ i ≤ 281474976710655) (m : Nat) : (P2 (good (copyR h i)) (good (copyR h i)) m).hopen = (copyR h i, 0) :=
  Dx_opens (by rw [rd_good (copy_ok ho hi), pick_copy ho, pick_same ho]) (copy_ne h i)
theorem open_bad0 {h : Hd} (ho : h.Ok) {i : Int} (hi : 0 ≤ i ∧ i ≤ 281474976710655) {x : Blk} (hx : (rd x).1 = rc0) (m : Nat) : (P2 x (good (copyR h i)) m).hopen = (copyR h i, 0) :=
  Dx_opens (by rw [rd_good (copy_ok ho hi), hx, pick_zero, pick_copy ho]) (copy_ne h i)
theorem open_bad1 {h : Hd} (ho : h.Ok) {i : Int} (hi : 0 ≤ i ∧ i ≤ 281474976710655) {x : Blk} (hx : (rd x).1 = rc0) (m : Nat) : (P2 (good (copyR h i)) x m).hopen = (copyR h i, 0) :=
  Dx_opens (by rw [rd_good (copy_ok ho hi), hx, pick_copy ho, pick_zero]) (copy_ne h i)
theorem scrub_bad0 {h : Hd} (ho : h.Ok) {i : Int} (hi : 0 ≤ i ∧ i < 281474976710655) {x : Blk} (hx : (rd x).1 = rc0) (m : Nat) :
    (P2 x (good (copyR h i)) m).scrub (copyR h i) = (0, P2 (good (copyR h (i + 1))) (good (copyR h (i + 1))) m, copyR h (i + 1)) := by
  have h0 : ((P2 x (good (copyR h i)) m).sread 0).1 = rc0 := by unfold P2; rw [Dx_read0]; exact hx
  have hn : ¬ ((P2 x (good (copyR h i)) m).sread 0).1 = copyR h i := by rw [h0]; exact fun e => copy_ne h i e.symm
  rw [scrub_zero (by unfold P2; rw [Dx_read0]) (by unfold P2; rw [Dx_read1]) (fun e => e.elim (copy_ne h i) (fun e => hn e.1)) hn, headL_copy ho]
  have e := Dx_two0 (x := x) (y := good (copyR h i)) (m := m) (n := 0) (t := 0) (copy_ok ho (show 0 ≤ i + 1 ∧ i + 1 ≤ 281474976710655 by omega))
  unfold P2
  rw [show (copyR h i).index = i from rfl, e]
  show (0, _, lastL 0 _ _) = _
  rw [lastL_zero rfl]
theorem scrub_bad1 {h : Hd} (ho : h.Ok) {i : Int} (hi : 0 ≤ i ∧ i < 281474976710655) {x : Blk} (hx : (rd x).1 ≠ copyR h i) (m : Nat) :
    (P2 (good (copyR h i)) x m).scrub (copyR h i) = (0, P2 (good (copyR h (i + 1))) (good (copyR h (i + 1))) m, copyR h (i + 1)) := by
  have h0 : ((P2 (good (copyR h i)) x m).sread 0).1 = copyR h i := by unfold P2; rw [Dx_read0, rd_good (copy_ok ho (show 0 ≤ i ∧ i ≤ 281474976710655 by omega))]
  have hn : ¬ ((P2 (good (copyR h i)) x m).sread 1).1 = copyR h i := by unfold P2; rw [Dx_read1]; exact hx
  rw [scrub_one (by unfold P2; rw [Dx_read0]) (by unfold P2; rw [Dx_read1]) (fun e => e.elim (copy_ne h i) (fun e => hn e.2)) h0, headL_copy ho]
  have e := Dx_two1 (x := good (copyR h i)) (y := x) (m := m) (n := 0) (t := 0) (copy_ok ho (show 0 ≤ i + 1 ∧ i + 1 ≤ 281474976710655 by omega))
  unfold P2
  rw [show (copyR h i).index = i from rfl, e]
  show (0, _, lastL 0 _ _) = _
  rw [lastL_zero rfl]
theorem scrub_both {h : Hd} (ho : h.Ok) {i : Int} (hi : 0 ≤ i ∧ i ≤ 281474976710655) (m : Nat) :
    (P2 (good (copyR h i)) (good (copyR h i)) m).scrub (copyR h i) = (0, P2 (good (copyR h i)) (good (copyR h i)) m, copyR h i) :=
  scrub_same (by unfold P2; rw [Dx_read0]) (by unfold P2; rw [Dx_read1]) (.inr ⟨by unfold P2; rw [Dx_read0, rd_good (copy_ok ho hi)], by unfold P2; rw [Dx_read1, rd_good (copy_ok ho hi)]⟩)
theorem scrub_fresh (D : Dv) (h0 : (D.sread 0).2.2 = 0) (h1 : (D.sread 1).2.2 = 0) : D.scrub rc0 = (0, D, rc0) := scrub_same h0 h1 (.inl rfl)

/-- What a write that was not durable leaves of a block: what was there, the record, or its torn half. -/
theorem crash_put {a b : Rc} (zs : List Int) (n : Nat) : ((good a).write n b.bytes).crash zs = good a ∨ ((good a).write n b.bytes).crash zs = good b ∨ ((good a).write n b.bytes).crash zs = ⟨b.bytes.extract 0 (b.bytes.size / 2), true, false, []⟩ := by
  by_cases h1 : fateF zs n = 1
  · exact .inr (.inl (by simp [Blk.crash, Blk.write, good, oneHit, h1]))
  · by_cases h2 : fateF zs n = 2
    · exact .inr (.inr (by simp [Blk.crash, Blk.write, good, oneHit, h2]))
    · exact .inl (by simp [Blk.crash, Blk.write, good, oneHit, h1, h2])
theorem crash_good (a : Rc) (zs : List Int) : (good a).crash zs = good a := rfl
theorem rd_half {b : Rc} (h : b.Ok) : rd ⟨b.bytes.extract 0 (b.bytes.size / 2), true, false, []⟩ = (rc0, 2) := by
  unfold rd
  rw [if_neg (show ¬ (false = true) by decide), contents_nil rfl]
  exact get_half h
theorem five_ne : (5 : Int) ≠ 0 := by decide
/-- Law HeadAgain's story: a put, then b under way when the power failed, then Scrub, then one copy lost. -/
theorem again_math {a b : Hd} (ao : a.Ok) (bo : b.Ok) (k : Nat) (zs : List Int) : ∃ (q : Hd) (L r : Rc) (x y : Blk), (q = a ∨ q = b) ∧ q.Ok ∧
    ((((P2 (good (copyR a 1)) (good (copyR a 1)) 0).fall (k : Int)).two 0 (copyR b 2)).2.crash zs).hopen = (L, 0) ∧ headL L = q ∧ (-1 ≤ L.index ∧ L.index ≤ 281474976710654) ∧ L.data.size = 18 ∧
    ((((P2 (good (copyR a 1)) (good (copyR a 1)) 0).fall (k : Int)).two 0 (copyR b 2)).2.crash zs).scrub L = (0, P2 x y 0, r) ∧ headL r = q ∧ r.data.size = 18 ∧
    (((P2 x y 0).crash []).onB 0 Blk.lose).hopen = (r, 0) ∧ (((P2 x y 0).crash []).onB 1 Blk.lose).hopen = (r, 0) := by
  have hb : (copyR b 2).Ok := copy_ok bo (by decide)
  have ha : (copyR a 1).Ok := copy_ok ao (by decide)
  -- what is left by the failure: five ways
  have key : ∀ x y : Blk, ((rd x).1 = copyR a 1 ∧ x = good (copyR a 1) ∧ (y = good (copyR a 1)) ∨ x = good (copyR b 2) ∧ y = good (copyR a 1) ∨ (rd x).1 = rc0 ∧ y = good (copyR a 1) ∨ x = good (copyR b 2) ∧ (rd y).1 = rc0 ∨ x = good (copyR b 2) ∧ y = good (copyR b 2)) →
      ∃ (q : Hd) (L r : Rc) (x' y' : Blk), (q = a ∨ q = b) ∧ q.Ok ∧ (P2 x y 0).hopen = (L, 0) ∧ headL L = q ∧ (-1 ≤ L.index ∧ L.index ≤ 281474976710654) ∧ L.data.size = 18 ∧ (P2 x y 0).scrub L = (0, P2 x' y' 0, r) ∧ headL r = q ∧ r.data.size = 18 ∧
        (((P2 x' y' 0).crash []).onB 0 Blk.lose).hopen = (r, 0) ∧ (((P2 x' y' 0).crash []).onB 1 Blk.lose).hopen = (r, 0) := by
    have fin : ∀ (q : Hd) (i : Int), q.Ok → 0 ≤ i ∧ i ≤ 281474976710655 → (((P2 (good (copyR q i)) (good (copyR q i)) 0).crash []).onB 0 Blk.lose).hopen = (copyR q i, 0) ∧ (((P2 (good (copyR q i)) (good (copyR q i)) 0).crash []).onB 1 Blk.lose).hopen = (copyR q i, 0) := by
      intro q i qo hi
      rw [show (P2 (good (copyR q i)) (good (copyR q i)) 0).crash [] = P2 (good (copyR q i)) (good (copyR q i)) 0 from by unfold P2; rw [Dx_crash, crash_good]; rfl]
      refine ⟨?_, ?_⟩
      · rw [show (P2 (good (copyR q i)) (good (copyR q i)) 0).onB 0 Blk.lose = P2 (good (copyR q i)).lose (good (copyR q i)) 0 from Dx_on0 _]
        exact open_bad0 qo hi (by rw [rd_lost rfl]) 0
      · rw [show (P2 (good (copyR q i)) (good (copyR q i)) 0).onB 1 Blk.lose = P2 (good (copyR q i)) (good (copyR q i)).lose 0 from Dx_on1 _]
        exact open_bad1 qo hi (by rw [rd_lost rfl]) 0
    rintro x y (⟨_, rfl, rfl⟩ | ⟨rfl, rfl⟩ | ⟨hx, rfl⟩ | ⟨rfl, hy⟩ | ⟨rfl, rfl⟩)
    · exact ⟨a, copyR a 1, copyR a 1, _, _, .inl rfl, ao, open_both ao (by decide) 0, headL_copy ao 1, (show (-1 : Int) ≤ 1 ∧ (1 : Int) ≤ 281474976710654 by decide), copy_size a 1, scrub_both ao (by decide) 0, headL_copy ao 1, copy_size a 1, fin a 1 ao (by decide)⟩
    · refine ⟨b, copyR b 2, copyR b 3, _, _, .inr rfl, bo, ?_, headL_copy bo 2, (show (-1 : Int) ≤ 2 ∧ (2 : Int) ≤ 281474976710654 by decide), copy_size b 2, scrub_bad1 bo (by decide) ?_ 0, headL_copy bo 3, copy_size b 3, fin b 3 bo (by decide)⟩
      · exact Dx_opens (by rw [rd_good ha, rd_good hb, pick_copy bo, pick_old (by decide)]) (copy_ne b 2)
      · rw [rd_good ha]
        intro e
        have := (copy_inj ao bo e).2
        omega
    · exact ⟨a, copyR a 1, copyR a 2, _, _, .inl rfl, ao, open_bad0 ao (by decide) hx 0, headL_copy ao 1, (show (-1 : Int) ≤ 1 ∧ (1 : Int) ≤ 281474976710654 by decide), copy_size a 1, scrub_bad0 ao (by decide) hx 0, headL_copy ao 2, copy_size a 2, fin a 2 ao (by decide)⟩
    · refine ⟨b, copyR b 2, copyR b 3, _, _, .inr rfl, bo, open_bad1 bo (by decide) hy 0, headL_copy bo 2, (show (-1 : Int) ≤ 2 ∧ (2 : Int) ≤ 281474976710654 by decide), copy_size b 2, scrub_bad1 bo (by decide) ?_ 0, headL_copy bo 3, copy_size b 3, fin b 3 bo (by decide)⟩
      rw [hy]
      exact fun e => copy_ne b 2 e.symm
    · exact ⟨b, copyR b 2, copyR b 2, _, _, .inr rfl, bo, open_both bo (by decide) 0, headL_copy bo 2, (show (-1 : Int) ≤ 2 ∧ (2 : Int) ≤ 281474976710654 by decide), copy_size b 2, scrub_both bo (by decide) 0, headL_copy bo 2, copy_size b 2, fin b 2 bo (by decide)⟩
  have half := rd_half hb
  unfold P2 at *
  rw [Dx_fall]
  match k with
  | 0 =>
    rw [two_stop (by rw [one_stop (by rw [Dx_wz 0 hb]; exact five_ne), Dx_wz 0 hb]; exact five_ne), one_stop (by rw [Dx_wz 0 hb]; exact five_ne), Dx_wz 0 hb]
    simp only
    rw [Dx_crash]
    exact key _ _ (.inl ⟨by rw [crash_good, rd_good ha], rfl, rfl⟩)
  | 1 =>
    have e : (Dx (good (copyR a 1)) (good (copyR a 1)) 0 0 true 1 false).one 0 (copyR b 2) = (5, Dx ((good (copyR a 1)).write 0 (copyR b 2).bytes) (good (copyR a 1)) 0 1 true 0 true) := by
      rw [one_go (by rw [Dx_ws0 hb]), Dx_ws0 hb, Dx_fz]
    rw [two_stop (by rw [e]; exact five_ne), e]
    simp only
    rw [Dx_crash, crash_good]
    rcases crash_put (a := copyR a 1) (b := copyR b 2) zs 0 with h | h | h
    · exact key _ _ (.inl ⟨by rw [h, rd_good ha], h, rfl⟩)
    · exact key _ _ (.inr (.inl ⟨h, rfl⟩))
    · exact key _ _ (.inr (.inr (.inl ⟨by rw [h, half], rfl⟩)))
  | 2 =>
    have e : (Dx (good (copyR a 1)) (good (copyR a 1)) 0 0 true 2 false).one 0 (copyR b 2) = (0, Dx (good (copyR b 2)) (good (copyR a 1)) 0 0 true 0 false) := by
      rw [one_go (by rw [Dx_ws0 hb]), Dx_ws0 hb, Dx_fs, flush_recd, flush_good]
    rw [two_go (by rw [e]), e, one_stop (by rw [Dx_wz _ hb]; exact five_ne), Dx_wz _ hb]
    simp only
    rw [Dx_crash]
    exact key _ _ (.inr (.inl ⟨rfl, rfl⟩))
  | 3 =>
    have e : (Dx (good (copyR a 1)) (good (copyR a 1)) 0 0 true 3 false).one 0 (copyR b 2) = (0, Dx (good (copyR b 2)) (good (copyR a 1)) 0 0 true 1 false) := by
      rw [one_go (by rw [Dx_ws0 hb]), Dx_ws0 hb, Dx_fs, flush_recd, flush_good]
    have e2 : (Dx (good (copyR b 2)) (good (copyR a 1)) 0 0 true 1 false).one (1 - 0) (copyR b 2) = (5, Dx (good (copyR b 2)) ((good (copyR a 1)).write 0 (copyR b 2).bytes) 0 1 true 0 true) := by
      rw [show (1 : Int) - 0 = 1 by decide, one_go (by rw [Dx_ws1 hb]), Dx_ws1 hb, Dx_fz]
    rw [two_go (by rw [e]), e]
    simp only
    rw [e2]
    simp only
    rw [Dx_crash, crash_good]
    rcases crash_put (a := copyR a 1) (b := copyR b 2) zs 0 with h | h | h
    · exact key _ _ (.inr (.inl ⟨rfl, h⟩))
    · exact key _ _ (.inr (.inr (.inr (.inr ⟨rfl, h⟩))))
    · exact key _ _ (.inr (.inr (.inr (.inl ⟨rfl, by rw [h, half]⟩))))
  | j + 4 =>
    have e : (Dx (good (copyR a 1)) (good (copyR a 1)) 0 0 true (j + 4) false).one 0 (copyR b 2) = (0, Dx (good (copyR b 2)) (good (copyR a 1)) 0 0 true (j + 2) false) := by
      rw [one_go (by rw [Dx_ws0 hb]), Dx_ws0 hb, Dx_fs, flush_recd, flush_good]
    have e2 : (Dx (good (copyR b 2)) (good (copyR a 1)) 0 0 true (j + 2) false).one (1 - 0) (copyR b 2) = (0, Dx (good (copyR b 2)) (good (copyR b 2)) 0 0 true j false) := by
      rw [show (1 : Int) - 0 = 1 by decide, one_go (by rw [Dx_ws1 hb]), Dx_ws1 hb, Dx_fs, flush_recd, flush_good]
    rw [two_go (by rw [e]), e]
    simp only
    rw [e2]
    simp only
    rw [Dx_crash, crash_good]
    exact key _ _ (.inr (.inr (.inr (.inr ⟨rfl, rfl⟩))))
end
section
open Go.RowKit
set_option linter.unusedVariables false
set_option maxRecDepth 100000
section
variable {H : Type} {enc : TypeId × Value → H} {W : World} {base b0 : Nat} {spare : Nat → Bool} {held : Bool} {v : Value} {d : DataW H} {p : List MemPlace}
theorem hd_of (hv : Value.okWide Tryd.prog W .any b0 23 v) (h : DataW.Trod enc Tryd.prog W base spare held 23 v d p) : ∃ h : Hd, v = headV h ∧ h.Fits := by
  obtain ⟨v0, v1, v2, v3, y0, y1, y2, y3, n, rfl, rfl, rfl, h0, h1, h2, h3⟩ := Joins.open_agg4 Tryd.underlying23 (by kernel_rfl) (by kernel_rfl) hv h
  obtain ⟨k, hk, _, wk⟩ := DataW.trod_int Tryd.underlying3 h0
  obtain ⟨i, hi, _, wi⟩ := DataW.trod_int Tryd.underlying3 h1
  obtain ⟨t, ht, _, wt⟩ := DataW.trod_int Tryd.underlying3 h2
  obtain ⟨s, hs, _, ws⟩ := DataW.trod_int Tryd.underlying3 h3
  obtain rfl := List.head_eq_of_cons_eq hk
  obtain rfl := List.head_eq_of_cons_eq hi
  obtain rfl := List.head_eq_of_cons_eq ht
  obtain rfl := List.head_eq_of_cons_eq hs
  exact ⟨⟨k, i, t, s⟩, rfl, ⟨i64_wf wk, i64_wf wi, i64_wf wt, i64_wf ws⟩⟩
end
set_option maxHeartbeats 4000000 in
theorem right_any (h : Hd) (w : World) (BQ : Bool) (hB : BQ = true ↔ h.Ok) :
    Calls Tryd.prog 8 #[headV h] w fun e w' => e = .returned (.bool BQ) ∧ Below w.heap.size w w' := by
  have n0 := HdB.new w h
  obtain ⟨⟨c0, c1, c2, c3⟩, _⟩ := n0.cells
  have b0 := (Below.refl _ w).alloc (Nat.le_refl _) (.cells #[.int .i64 h.term, .int .i64 h.vote, .int .i64 h.first, .int .i64 h.base] 23)
  unfold headV
  by_cases hq : h.base ≤ 281474976710655
  · have eq : decide (h.base ≤ 281474976710655) = true := by simpa using hq
    go_enter Tryd.func8, Tryd.ntmps8
    go_wp2
    all_goals
      go_ret
      refine ⟨?_, b0⟩
      first
        | (have ho : h.Ok := ⟨by omega, by omega, by omega, by omega⟩
           rw [hB.2 ho]
           try rfl)
        | (have ho : ¬ h.Ok := fun o => by
             have o1 := o.term
             have o2 := o.vote
             have o3 := o.first
             have o4 := o.base
             omega
           rw [show BQ = false by rw [← Bool.not_eq_true, hB]; exact ho]
           try rfl)
  · have eq : decide (h.base ≤ 281474976710655) = false := by simpa using hq
    go_enter Tryd.func8, Tryd.ntmps8
    go_wp2
    all_goals
      go_ret
      refine ⟨?_, b0⟩
      first
        | (have ho : h.Ok := ⟨by omega, by omega, by omega, by omega⟩
           rw [hB.2 ho]
           try rfl)
        | (have ho : ¬ h.Ok := fun o => by
             have o1 := o.term
             have o2 := o.vote
             have o3 := o.first
             have o4 := o.base
             omega
           rw [show BQ = false by rw [← Bool.not_eq_true, hB]; exact ho]
           try rfl)
end
section
open Go.RowKit
set_option linter.unusedVariables false
set_option maxRecDepth 100000

section
variable {n : Nat} {E : Nat → Prop} {w : World} {B : Nat} {D : Dv}
theorem hw_open (L : Rc) (h : DevW n E w B D) (ht : Tabs w) (hw : D.writes ≤ 1073741824) (hn : n ≤ w.heap.size) (ho : D.hopen = (L, 0)) :
    Calls Tryd.prog 10 #[.pointer (some ⟨B, 0, none⟩)] w fun e w' => ∃ sb, e = .returned (.tuple #[.pointer (some ⟨sb, 0, none⟩), .int .i64 0]) ∧ StB w' sb B L ∧ w.heap.size ≤ sb ∧ DevW n (fun k => E k ∨ k = sb) w' B D ∧ Below w.heap.size w w' := by
  refine (hopen_any h ht hw).mono ?_
  rintro e w' ⟨hv, hb⟩
  rw [ho] at hv
  rcases hv with ⟨_, sb, rfl, hs, hl⟩ | ⟨h0, _⟩
  · exact ⟨sb, rfl, hs, hl, h.grow hb hl hs.lt, hb⟩
  · exact absurd rfl h0
theorem hw_fail (L : Rc) (x : Int) (h : DevW n E w B D) (ht : Tabs w) (hw : D.writes ≤ 1073741824) (ho : D.hopen = (L, x)) (hx : x ≠ 0) :
    Calls Tryd.prog 10 #[.pointer (some ⟨B, 0, none⟩)] w fun e w' => e = .returned (.tuple #[.pointer none, .int .i64 x]) ∧ DevW n E w' B D ∧ Below w.heap.size w w' := by
  refine (hopen_any h ht hw).mono ?_
  rintro e w' ⟨hv, hb⟩
  rw [ho] at hv
  rcases hv with ⟨h0, _⟩ | ⟨_, rfl⟩
  · exact absurd h0 hx
  · exact ⟨rfl, h.below hb, hb⟩
theorem hw_put (b : Nat) (L : Rc) (h : Hd) (y : Int) (D' : Dv) (hW : DevW n E w B D) (hs : StB w b B L) (hE : E b) (hn : n ≤ w.heap.size) (hnb : n ≤ b)
    (hT : ∀ x, Below n w x → Tabs x) (hw : D.writes ≤ 1073741822) (hv : h.Ok) (hL : -1 ≤ L.index ∧ L.index ≤ 281474976710654) (ho : D.two 0 (copyR h (L.index + 1)) = (y, D')) :
    Calls Tryd.prog 11 #[.pointer (some ⟨b, 0, none⟩), headV h] w fun e w' => e = .returned (.int .i64 y) ∧ DevW n E w' B D' ∧ Below n w w' ∧
      StB w' b B (lastL y (copyR h (L.index + 1)) L) ∧ Kept (fun k => E k ∧ k ≠ b) w w' := by
  have := hPut_any b L h hW hs hE hn hnb hT hw hv hL
  rw [ho] at this
  exact this
theorem hw_scrub (b : Nat) (L : Rc) (y : Int) (D' : Dv) (r : Rc) (hW : DevW n E w B D) (hs : StB w b B L) (hE : E b) (hn : n ≤ w.heap.size) (hnb : n ≤ b)
    (hT : ∀ x, Below n w x → Tabs x) (hw : D.writes ≤ 1073741822) (hv : L = rc0 ∨ (headL L).Ok) (hL : -1 ≤ L.index ∧ L.index ≤ 281474976710654) (hls : L.data.size ≤ 140737488355328) (ho : D.scrub L = (y, D', r)) :
    Calls Tryd.prog 16 #[.pointer (some ⟨b, 0, none⟩)] w fun e w' => e = .returned (.int .i64 y) ∧ DevW n E w' B D' ∧ Below n w w' ∧
      StB w' b B r ∧ Kept (fun k => E k ∧ k ≠ b) w w' := by
  have := hscrub_any b L hW hs hE hn hnb hT hw hv hL hls
  rw [ho] at this
  exact this
end
theorem head_says (b B : Nat) (L : Rc) (h : Hd) (w : World) (hs : StB w b B L) (hl : headL L = h) (hd : L.data.size ≤ 140737488355328) :
    Calls Tryd.prog 15 #[.pointer (some ⟨b, 0, none⟩)] w fun e w' => e = .returned (headV h) ∧ Below w.heap.size w w' := by
  have := head_any b B L w hs hd
  rw [hl] at this
  exact this
def hd3 : Hd := ⟨3, 0, 1, 0⟩
theorem hd3_ok : hd3.Ok := ⟨by decide, by decide, by decide, by decide⟩
theorem hd1_ok : hd1.Ok := ⟨by decide, by decide, by decide, by decide⟩

theorem run_hdf0 (W : World) (a b c d : Int) : (Instr.field 23 (.agg #[.int .i64 a, .int .i64 b, .int .i64 c, .int .i64 d]) 0).run Tryd.prog W = .ok (.int .i64 a) W := by kernel_rfl
set_option maxHeartbeats 4000000 in
/-- The document's example holds. -/
theorem begin_any (w : World) (hT : Tabs w) : Calls Tryd.prog 7 #[] w fun e w' => e = .returned (.bool true) ∧ Below w.heap.size w w' := by
  have HT := Lib.hid hT
  have HTb := Lib.hid (fun (W x : World) (h : Below w.heap.size w W) (k : Below w.heap.size W x) => hT.below (h.trans k))
  have HR := Lib.hid (show (copyR hd3 1).Ok from copy_ok hd3_ok (by decide))
  have H2 := Lib.hid (show (P2 blk0 blk0 2).two 0 (copyR hd3 (rc0.index + 1)) = (0, P2 (good (copyR hd3 1)) (good (copyR hd3 1)) 2) from Dx_two0 HR.out)
  have H3 := Lib.hid (show (P2 (good (copyR hd3 1)) (good (copyR hd3 1)) 2).onB 0 Blk.lose = P2 (good (copyR hd3 1)).lose (good (copyR hd3 1)) 2 from Dx_on0 _)
  have H4 := Lib.hid (open_bad0 hd3_ok (i := 1) (by decide) (x := (good (copyR hd3 1)).lose) (by rw [rd_lost rfl]) 2)
  have hrf := run_hdf0
  clear hT
  go_enter Tryd.func7, Tryd.ntmps7
  go_wp2_with fail
  refine (new_any 4 w).mono ?_
  rintro e w1 ⟨B, rfl, hd, hb1⟩
  rw [show Dv.new 4 = P2 blk0 blk0 2 from P2_new 2 (by decide)] at hd
  have X1 : DevW w.heap.size (fun _ => False) w1 B (P2 blk0 blk0 2) := devw_new hd (Nat.le_refl _) (fun j hj => hj.elim) hb1.size
  clear hd
  go_wp2_with fail
  refine (hw_open rc0 X1 (HT.out.below hb1) (Nat.zero_le _) hb1.size (P2_fresh 2)).mono ?_
  rintro e w2 ⟨sb, rfl, S2, hsb, X2, hb⟩
  have B2 := hb1.trans (hb.mono hb1.size)
  have hnb := Nat.le_trans hb1.size hsb
  clear hb X1 hb1 hsb
  go_wp2_with fail
  refine (head_says sb B rc0 hd1 _ S2 headL_zero (by decide)).mono ?_
  rintro e w3 ⟨rfl, hb⟩
  have S3 := S2.below hb
  have X3 := X2.below hb
  have B3 := B2.trans (hb.mono B2.size)
  clear hb S2 X2 B2
  unfold headV hd1
  go_wp2_with fail
  refine (hw_put sb rc0 hd3 0 _ X3 S3 (.inr rfl) B3.size hnb (fun x k => HTb.out _ x B3 k) (by decide) hd3_ok (by decide) H2.out).mono ?_
  rintro e w4 ⟨rfl, X4, hb, S4, hk⟩
  rw [lastL_zero rfl] at S4
  have B4 := B3.trans hb
  clear hb hk S3 X3 B3
  go_wp2_with fail
  refine (devw_lose 0 B4.size X4).mono ?_
  rintro e w5 ⟨rfl, X5, hb, hk⟩
  rw [H3.out] at X5
  have S5 := S4.keep hk (.inr rfl)
  have B5 := B4.trans hb
  clear hb hk S4 X4 B4
  go_wp2_with fail
  refine (hw_open (copyR hd3 1) X5 (HT.out.below B5) (Nat.zero_le _) B5.size H4.out).mono ?_
  rintro e w6 ⟨tb, rfl, S6, htb, X6, hb⟩
  have B6 := B5.trans (hb.mono B5.size)
  clear hb X5 htb S5 B5
  go_wp2_with fail
  refine (head_says tb B (copyR hd3 1) hd3 _ S6 (headL_copy hd3_ok 1) (by rw [copy_size]; decide)).mono ?_
  rintro e w7 ⟨rfl, hb⟩
  have B7 := B6.trans (hb.mono B6.size)
  clear hb S6 X6 B6
  unfold headV hd3
  go_wp2_with fail
  go_ret
  exact ⟨rfl, B7⟩
end
section
open Go.RowKit
set_option linter.unusedVariables false
set_option maxRecDepth 100000

theorem eq_hdB (a b : Hd) (B : Bool) (hB : B = true ↔ a = b) (W : World) : (binOp .eql 23 (headV a) (headV b)).run Tryd.prog W = .ok (.bool B) W := by
  obtain ⟨k, i, t, d⟩ := a
  obtain ⟨k', i', t', d'⟩ := b
  have hF : ¬ ((⟨k, i, t, d⟩ : Hd) = ⟨k', i', t', d'⟩) → B = false := fun h => by rw [← Bool.not_eq_true, hB]; exact h
  unfold headV
  by_cases h1 : k = k'
  · by_cases h2 : i = i'
    · by_cases h3 : t = t'
      · by_cases h4 : d = d'
        · subst h1 h2 h3 h4
          rw [hB.2 rfl]
          simp [go_sem]
        · subst h1 h2 h3
          rw [hF (fun e => h4 (Hd.mk.inj e).2.2.2)]
          simp [go_sem, h4]
      · subst h1 h2
        rw [hF (fun e => h3 (Hd.mk.inj e).2.2.1)]
        simp [go_sem, h3]
    · subst h1
      rw [hF (fun e => h2 (Hd.mk.inj e).2.1)]
      simp [go_sem, h2]
  · rw [hF (fun e => h1 (Hd.mk.inj e).1)]
    simp [go_sem, h1]
theorem ne_hd (a : Hd) (W : World) : (binOp .neq 23 (.agg #[.int .i64 a.term, .int .i64 a.vote, .int .i64 a.first, .int .i64 a.base]) (.agg #[.int .i64 a.term, .int .i64 a.vote, .int .i64 a.first, .int .i64 a.base])).run Tryd.prog W = .ok (.bool false) W := by
  simp [go_sem]
theorem run_loadH (W : World) (b : Nat) (h : Hd) (hb : HdB W b h) : (Instr.loadAt 23 (.pointer (some ⟨b, 0, none⟩))).run Tryd.prog W = .ok (headV h) W := by
  obtain ⟨⟨c0, c1, c2, c3⟩, _⟩ := hb.cells
  unfold headV
  go_simp
theorem run_eqH (W : World) (a b : Hd) (B : Bool) (hB : B = true ↔ a = b) (s1 s2 : Operand) : (do eqGuard .eql 23 s1 s2 (headV a) (headV b); binOp .eql 23 (headV a) (headV b) : Sem Value).run Tryd.prog W = .ok (.bool B) W := by
  have hT : (a.term = b.term ∧ a.vote = b.vote ∧ a.first = b.first ∧ a.base = b.base) → B = true := fun h => hB.2 (Hd.ext' h.1 h.2.1 h.2.2.1 h.2.2.2)
  have hF : ¬ (a.term = b.term ∧ a.vote = b.vote ∧ a.first = b.first ∧ a.base = b.base) → B = false := fun h => by
    rw [← Bool.not_eq_true, hB]
    exact fun e => h (by rw [e]; exact ⟨rfl, rfl, rfl, rfl⟩)
  unfold headV
  go_simp
  by_cases h1 : a.term = b.term
  · by_cases h2 : a.vote = b.vote
    · by_cases h3 : a.first = b.first
      · by_cases h4 : a.base = b.base
        · rw [if_pos h1, if_pos h2, if_pos h3, if_pos h4, hT ⟨h1, h2, h3, h4⟩]
        · rw [if_pos h1, if_pos h2, if_pos h3, if_neg h4, hF (fun h => h4 h.2.2.2)]
      · rw [if_pos h1, if_pos h2, if_neg h3, hF (fun h => h3 h.2.2.1)]
    · rw [if_pos h1, if_neg h2, hF (fun h => h2 h.2.1)]
  · rw [if_neg h1, hF (fun h => h1 h.1)]
theorem run_eqE (W : World) (z : Int) (s1 s2 : Operand) : (do eqGuard .eql 29 s1 s2 (.int .i64 z) (.int .i64 z); binOp .eql 29 (.int .i64 z) (.int .i64 z) : Sem Value).run Tryd.prog W = .ok (.bool true) W := by
  go_simp
theorem call_head (W : World) (u : Value) : (callFunc 15 #[u]).run Tryd.prog W = .ok (.enter 15 #[u]) W := by go_simp
end
end Go.Proofs.YtigebaaldikeaaaDoor
