/- What head's functions do to a device beside blocks that it leaves alone, with what they answer reckoned ahead; law 5's helper begin. No conditions beyond those in each statement. -/
import Derived.Test.YtpjbkeheemhlnaaDoorHeadTwo
import Derived.Test.YtpjbkeheemhlnaaDoorHeadArgs
namespace Go.Proofs.YtpjbkeheemhlnaaDoor
open Go.RowKit
set_option linter.unusedVariables false
set_option maxRecDepth 100000

section
variable {n : Nat} {E : Nat → Prop} {w : World} {B : Nat} {D : Dv}
theorem hw_open (L : Rc) (h : DevW n E w B D) (ht : Tabs w) (hw : D.writes ≤ 1073741824) (hn : n ≤ w.heap.size) (ho : D.hopen = (L, 0)) :
    Calls Tryd.prog 18 #[.pointer (some ⟨B, 0, none⟩)] w fun e w' => ∃ sb, e = .returned (.tuple #[.pointer (some ⟨sb, 0, none⟩), .int .i64 0]) ∧ StB w' sb B L ∧ w.heap.size ≤ sb ∧ DevW n (fun k => E k ∨ k = sb) w' B D ∧ Below w.heap.size w w' := by
  refine (hopen_any h ht hw).mono ?_
  rintro e w' ⟨hv, hb⟩
  rw [ho] at hv
  rcases hv with ⟨_, sb, rfl, hs, hl⟩ | ⟨h0, _⟩
  · exact ⟨sb, rfl, hs, hl, h.grow hb hl hs.lt, hb⟩
  · exact absurd rfl h0
theorem hw_fail (L : Rc) (x : Int) (h : DevW n E w B D) (ht : Tabs w) (hw : D.writes ≤ 1073741824) (ho : D.hopen = (L, x)) (hx : x ≠ 0) :
    Calls Tryd.prog 18 #[.pointer (some ⟨B, 0, none⟩)] w fun e w' => e = .returned (.tuple #[.pointer none, .int .i64 x]) ∧ DevW n E w' B D ∧ Below w.heap.size w w' := by
  refine (hopen_any h ht hw).mono ?_
  rintro e w' ⟨hv, hb⟩
  rw [ho] at hv
  rcases hv with ⟨h0, _⟩ | ⟨_, rfl⟩
  · exact absurd h0 hx
  · exact ⟨rfl, h.below hb, hb⟩
theorem hw_put (b : Nat) (L : Rc) (h : Hd) (y : Int) (D' : Dv) (hW : DevW n E w B D) (hs : StB w b B L) (hE : E b) (hn : n ≤ w.heap.size) (hnb : n ≤ b)
    (hT : ∀ x, Below n w x → Tabs x) (hw : D.writes ≤ 1073741822) (hv : h.Ok) (hL : -1 ≤ L.index ∧ L.index ≤ 281474976710654) (ho : D.two 0 (copyR h (L.index + 1)) = (y, D')) :
    Calls Tryd.prog 19 #[.pointer (some ⟨b, 0, none⟩), headV h] w fun e w' => e = .returned (.int .i64 y) ∧ DevW n E w' B D' ∧ Below n w w' ∧
      StB w' b B (lastL y (copyR h (L.index + 1)) L) ∧ Kept (fun k => E k ∧ k ≠ b) w w' := by
  have := hPut_any b L h hW hs hE hn hnb hT hw hv hL
  rw [ho] at this
  exact this
theorem hw_scrub (b : Nat) (L : Rc) (y : Int) (D' : Dv) (r : Rc) (hW : DevW n E w B D) (hs : StB w b B L) (hE : E b) (hn : n ≤ w.heap.size) (hnb : n ≤ b)
    (hT : ∀ x, Below n w x → Tabs x) (hw : D.writes ≤ 1073741822) (hv : L = rc0 ∨ (headL L).Ok) (hL : -1 ≤ L.index ∧ L.index ≤ 281474976710654) (hls : L.data.size ≤ 140737488355328) (ho : D.scrub L = (y, D', r)) :
    Calls Tryd.prog 22 #[.pointer (some ⟨b, 0, none⟩)] w fun e w' => e = .returned (.int .i64 y) ∧ DevW n E w' B D' ∧ Below n w w' ∧
      StB w' b B r ∧ Kept (fun k => E k ∧ k ≠ b) w w' := by
  have := hscrub_any b L hW hs hE hn hnb hT hw hv hL hls
  rw [ho] at this
  exact this
end
theorem head_says (b B : Nat) (L : Rc) (h : Hd) (w : World) (hs : StB w b B L) (hl : headL L = h) (hd : L.data.size ≤ 140737488355328) :
    Calls Tryd.prog 21 #[.pointer (some ⟨b, 0, none⟩)] w fun e w' => e = .returned (headV h) ∧ Below w.heap.size w w' := by
  have := head_any b B L w hs hd
  rw [hl] at this
  exact this
def hd3 : Hd := ⟨3, 0, 1, 0⟩
theorem hd3_ok : hd3.Ok := ⟨by decide, by decide, by decide, by decide⟩
theorem hd1_ok : hd1.Ok := ⟨by decide, by decide, by decide, by decide⟩

theorem run_hdf0 (W : World) (a b c d : Int) : (Instr.field 23 (.agg #[.int .i64 a, .int .i64 b, .int .i64 c, .int .i64 d]) 0).run Tryd.prog W = .ok (.int .i64 a) W := by kernel_rfl
set_option maxHeartbeats 4000000 in
/-- The document's example holds. -/
theorem begin_any (w : World) (hT : Tabs w) : Calls Tryd.prog 15 #[] w fun e w' => e = .returned (.bool true) ∧ Below w.heap.size w w' := by
  have HT := Lib.hid hT
  have HTb := Lib.hid (fun (W x : World) (h : Below w.heap.size w W) (k : Below w.heap.size W x) => hT.below (h.trans k))
  have HR := Lib.hid (show (copyR hd3 1).Ok from copy_ok hd3_ok (by decide))
  have H2 := Lib.hid (show (P2 blk0 blk0 2).two 0 (copyR hd3 (rc0.index + 1)) = (0, P2 (good (copyR hd3 1)) (good (copyR hd3 1)) 2) from Dx_two0 HR.out)
  have H3 := Lib.hid (show (P2 (good (copyR hd3 1)) (good (copyR hd3 1)) 2).onB 0 Blk.lose = P2 (good (copyR hd3 1)).lose (good (copyR hd3 1)) 2 from Dx_on0 _)
  have H4 := Lib.hid (open_bad0 hd3_ok (i := 1) (by decide) (x := (good (copyR hd3 1)).lose) (by rw [rd_lost rfl]) 2)
  have hrf := run_hdf0
  clear hT
  go_enter Tryd.func15, Tryd.ntmps15
  go_wp2_with fail
  refine (new_any 4 w).mono ?_
  rintro e w1 ⟨B, rfl, hd, hb1⟩
  rw [show Dv.new 4 = P2 blk0 blk0 2 from P2_new 2 (by decide)] at hd
  have X1 : DevW w.heap.size (fun _ => False) w1 B (P2 blk0 blk0 2) := devw_new hd (Nat.le_refl _) (fun j hj => hj.elim) hb1.size
  clear hd
  go_wp2_with fail
  refine (hw_open rc0 X1 (HT.out.below hb1) (Nat.zero_le _) hb1.size (P2_fresh 2)).mono ?_
  rintro e w2 ⟨sb, rfl, S2, hsb, X2, hb⟩
  have B2 := hb1.trans (hb.mono hb1.size)
  have hnb := Nat.le_trans hb1.size hsb
  clear hb X1 hb1 hsb
  go_wp2_with fail
  refine (head_says sb B rc0 hd1 _ S2 headL_zero (by decide)).mono ?_
  rintro e w3 ⟨rfl, hb⟩
  have S3 := S2.below hb
  have X3 := X2.below hb
  have B3 := B2.trans (hb.mono B2.size)
  clear hb S2 X2 B2
  unfold headV hd1
  go_wp2_with fail
  refine (hw_put sb rc0 hd3 0 _ X3 S3 (.inr rfl) B3.size hnb (fun x k => HTb.out _ x B3 k) (by decide) hd3_ok (by decide) H2.out).mono ?_
  rintro e w4 ⟨rfl, X4, hb, S4, hk⟩
  rw [lastL_zero rfl] at S4
  have B4 := B3.trans hb
  clear hb hk S3 X3 B3
  go_wp2_with fail
  refine (devw_lose 0 B4.size X4).mono ?_
  rintro e w5 ⟨rfl, X5, hb, hk⟩
  rw [H3.out] at X5
  have S5 := S4.keep hk (.inr rfl)
  have B5 := B4.trans hb
  clear hb hk S4 X4 B4
  go_wp2_with fail
  refine (hw_open (copyR hd3 1) X5 (HT.out.below B5) (Nat.zero_le _) B5.size H4.out).mono ?_
  rintro e w6 ⟨tb, rfl, S6, htb, X6, hb⟩
  have B6 := B5.trans (hb.mono B5.size)
  clear hb X5 htb S5 B5
  go_wp2_with fail
  refine (head_says tb B (copyR hd3 1) hd3 _ S6 (headL_copy hd3_ok 1) (by rw [copy_size]; decide)).mono ?_
  rintro e w7 ⟨rfl, hb⟩
  have B7 := B6.trans (hb.mono B6.size)
  clear hb S6 X6 B6
  unfold headV hd3
  go_wp2_with fail
  go_ret
  exact ⟨rfl, B7⟩
end Go.Proofs.YtpjbkeheemhlnaaDoor
