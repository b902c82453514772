/- Whether an operation or a command is right: op's and the law's; Few. No conditions beyond those in each statement. -/
import Derived.Test.YtkdbkbfloiponaaOpBase
namespace Go.Proofs.Ytkdbkbfloiponaa
open Go.RowKit
set_option linter.unusedVariables false
set_option linter.unusedSimpArgs false
set_option maxRecDepth 100000

set_option maxHeartbeats 4000000 in
theorem lrightop_any (o : Opr) (w : World) (h1 : o.path.size ≤ maxLen) (h2 : o.data.size ≤ maxLen) :
    Calls Try.prog 30 #[opV o] w fun e w' => e = .returned (.bool (rightO o)) ∧ Below w.heap.size w w' := by
  obtain ⟨d, p, t, v, s, n⟩ := o
  unfold maxLen at h1 h2
  simp only at h1 h2
  show Calls _ _ #[.agg #[.int .i64 d, .string p, .string t, .int .i64 v, .bool s, .bool n]] w _
  have bA := (Below.refl w.heap.size w).alloc (Nat.le_refl _) (.cells #[.int .i64 d, .string p, .string t, .int .i64 v, .bool s, .bool n] 50)
  cases d1 : decide (1 ≤ d) with
  | false =>
    have HR := Lib.hid (show rightO ⟨d, p, t, v, s, n⟩ = false by simp only [rightO, d1, Bool.true_and, Bool.false_and])
    go_enter Try.func30, Try.ntmps30
    go_wp2_with fail
    go_ret
    exact ⟨by rw [HR.out]; rfl, bA⟩
  | true =>
  cases d2 : decide (d ≤ 4) with
  | false =>
    have HR := Lib.hid (show rightO ⟨d, p, t, v, s, n⟩ = false by simp only [rightO, d1, d2, Bool.true_and, Bool.false_and])
    go_enter Try.func30, Try.ntmps30
    go_wp2_with fail
    go_ret
    exact ⟨by rw [HR.out]; rfl, bA⟩
  | true =>
  cases d3 : decide ((p.size : Int) ≤ 60) with
  | false =>
    have HR := Lib.hid (show rightO ⟨d, p, t, v, s, n⟩ = false by simp only [rightO, d1, d2, d3, Bool.true_and, Bool.false_and])
    go_enter Try.func30, Try.ntmps30
    go_wp2_with fail
    go_ret
    exact ⟨by rw [HR.out]; rfl, bA⟩
  | true =>
  cases d4 : decide ((t.size : Int) ≤ 61) with
  | false =>
    have HR := Lib.hid (show rightO ⟨d, p, t, v, s, n⟩ = false by simp only [rightO, d1, d2, d3, d4, Bool.true_and, Bool.false_and])
    go_enter Try.func30, Try.ntmps30
    go_wp2_with fail
    go_ret
    exact ⟨by rw [HR.out]; rfl, bA⟩
  | true =>
  cases d5 : decide (-1 ≤ v) with
  | false =>
    have HR := Lib.hid (show rightO ⟨d, p, t, v, s, n⟩ = false by simp only [rightO, d1, d2, d3, d4, d5, Bool.true_and, Bool.false_and])
    go_enter Try.func30, Try.ntmps30
    go_wp2_with fail
    go_ret
    exact ⟨by rw [HR.out]; rfl, bA⟩
  | true =>
    have HR := Lib.hid (show rightO ⟨d, p, t, v, s, n⟩ = decide (v < 281474976710655) by simp only [rightO, d1, d2, d3, d4, d5, Bool.true_and])
    go_enter Try.func30, Try.ntmps30
    go_wp2_with fail
    go_ret
    exact ⟨by rw [HR.out]; rfl, bA⟩
/-- Is a number one that can be encoded? -/
def lowB (z : Int) : Bool := decide (z < 0)
def highB (z : Int) : Bool := decide (281474976710655 < z)
def rightN (z : Int) : Bool := !lowB z && !highB z
def rightT (c : Cm) : Bool := decide (0 ≤ c.kind) && decide (c.kind ≤ 5) && decide ((c.ops.length : Int) ≤ 4) && decide ((c.path.size : Int) ≤ 60)
/-- Is a command right? -/
def rightC (c : Cm) : Bool := rightN c.ses && rightN c.req && rightN c.noted && c.ops.all rightO && rightT c
theorem all_take {α : Type} {L : List α} {f : α → Bool} {d : α} {k : Nat} (h : k < L.length) (h1 : (L.take k).all f = true) (h2 : f (L.getD k d) = true) : (L.take (k + 1)).all f = true := by
  rw [take_snoc_getD L d k h, List.all_append, h1]; simp only [List.all_cons, List.all_nil, h2]; rfl
theorem all_not {α : Type} {L : List α} {f : α → Bool} {d : α} {k : Nat} (h : k < L.length) (h2 : f (L.getD k d) = false) : L.all f = false :=
  List.all_eq_false.2 ⟨_, getD_mem h, by rw [h2]; exact Bool.false_ne_true⟩
theorem cmB_new (w : World) (u : Value) (k s q n : Int) (p : ByteArray) (x y : Bool) : (w.alloc (.cells #[.int .i64 k, .int .i64 s, .int .i64 q, .int .i64 n, u, .string p, .bool x, .bool y] 26)).heap[w.heap.size]? = some (.cells #[.int .i64 k, .int .i64 s, .int .i64 q, .int .i64 n, u, .string p, .bool x, .bool y] 26 (0, 0)) := heap_alloc_new w _
theorem cmB_cells {w : World} {b : Nat} {u : Value} {k s q n : Int} {p : ByteArray} {x y : Bool} (h : w.heap[b]? = some (.cells #[.int .i64 k, .int .i64 s, .int .i64 q, .int .i64 n, u, .string p, .bool x, .bool y] 26 (0, 0))) :
    w.cell? ⟨b, 0, none⟩ = some (.int .i64 k) ∧ w.cell? ⟨b, 1, none⟩ = some (.int .i64 s) ∧ w.cell? ⟨b, 2, none⟩ = some (.int .i64 q) ∧ w.cell? ⟨b, 3, none⟩ = some (.int .i64 n) ∧ w.cell? ⟨b, 4, none⟩ = some u ∧ w.cell? ⟨b, 5, none⟩ = some (.string p) ∧ w.cell? ⟨b, 6, none⟩ = some (.bool x) ∧ w.cell? ⟨b, 7, none⟩ = some (.bool y) := by
  simp [World.cell?, h]

set_option maxHeartbeats 8000000 in
theorem rightcm_any (u : Value) (c : Cm) (w : World) (h : CmR w (cmV u c) c) :
    Calls Try.prog 20 #[cmV u c] w fun e w' => e = .returned (.bool (rightC c)) ∧ Below w.heap.size w w' := by
  obtain ⟨⟨k1, k2, k3, k4, k5⟩, u', hu, hO⟩ := h
  obtain ⟨k, s, q, n, L, p, x, y⟩ := c
  simp only at k1 k2 k3 k4 k5 hO
  obtain rfl : u = u' := by simpa [cmV] using hu
  clear hu
  obtain ⟨a, cap, rfl, hLm⟩ := (show ∃ a cap, u = .slice a L.length cap ∧ L.length ≤ maxLen by obtain ⟨a, cap, h1, h2, _⟩ := hO; exact ⟨a, cap, h1, h2⟩)
  unfold maxLen at hLm k5
  show Calls _ _ #[.agg #[.int .i64 k, .int .i64 s, .int .i64 q, .int .i64 n, .slice a L.length cap, .string p, .bool x, .bool y]] w _
  have bA := (Below.refl w.heap.size w).alloc (Nat.le_refl _) (.cells #[.int .i64 k, .int .i64 s, .int .i64 q, .int .i64 n, .slice a L.length cap, .string p, .bool x, .bool y] 26)
  have N1 := cmB_new w (.slice a L.length cap) k s q n p x y
  have HO := Lib.hid hO
  clear hO
  have i0 : ∀ w : World, (Instr.index 69 (.agg #[.int .i64 s, .int .i64 q, .int .i64 n]) (.int .i64 0)).run Try.prog w = .ok (.int .i64 s) w := fun _ => by kernel_rfl
  have i1 : ∀ w : World, (Instr.index 69 (.agg #[.int .i64 s, .int .i64 q, .int .i64 n]) (.int .i64 1)).run Try.prog w = .ok (.int .i64 q) w := fun _ => by kernel_rfl
  have i2 : ∀ w : World, (Instr.index 69 (.agg #[.int .i64 s, .int .i64 q, .int .i64 n]) (.int .i64 2)).run Try.prog w = .ok (.int .i64 n) w := fun _ => by kernel_rfl
  go_enter Try.func20, Try.ntmps20
  go_upto_region 1 with fail
  obtain ⟨w1, hw1⟩ : ∃ w1, w1 = w.alloc (.cells #[.int .i64 k, .int .i64 s, .int .i64 q, .int .i64 n, .slice a L.length cap, .string p, .bool x, .bool y] 26) := ⟨_, rfl⟩
  rw [← hw1] at bA N1 ⊢
  obtain ⟨c0, c1, c2, c3, c4, c5, c6, c7⟩ := cmB_cells N1
  have hbs : w.heap.size < w1.heap.size := (Array.getElem?_eq_some_iff.1 N1).1
  have HN1 := Lib.hid N1
  clear hw1 N1
  cases l1 : decide (s < 0) with
  | true =>
    have HX := Lib.hid (show rightC ⟨k, s, q, n, L, p, x, y⟩ = false by simp only [rightC, rightN, lowB, highB, l1, Bool.not_true, Bool.not_false, Bool.true_and, Bool.false_and])
    go_wp2_with fail
    refine wp_loop_rounds 4 ?_
    rw [rounds_succ]
    go_wp2_with fail
    go_ret
    exact ⟨by rw [HX.out]; rfl, bA⟩
  | false =>
  cases g1 : decide ((281474976710655 : Int) < s) with
  | true =>
    have HX := Lib.hid (show rightC ⟨k, s, q, n, L, p, x, y⟩ = false by simp only [rightC, rightN, lowB, highB, l1, g1, Bool.not_true, Bool.not_false, Bool.true_and, Bool.false_and, Bool.and_false])
    go_wp2_with fail
    refine wp_loop_rounds 4 ?_
    rw [rounds_succ]
    go_wp2_with fail
    go_ret
    exact ⟨by rw [HX.out]; rfl, bA⟩
  | false =>
  cases l2 : decide (q < 0) with
  | true =>
    have HX := Lib.hid (show rightC ⟨k, s, q, n, L, p, x, y⟩ = false by simp only [rightC, rightN, lowB, highB, l1, g1, l2, Bool.not_true, Bool.not_false, Bool.true_and, Bool.false_and])
    go_wp2_with fail
    refine wp_loop_rounds 4 ?_
    rw [rounds_succ]
    go_wp2_with fail
    rw [rounds_succ]
    go_wp2_with fail
    go_ret
    exact ⟨by rw [HX.out]; rfl, bA⟩
  | false =>
  cases g2 : decide ((281474976710655 : Int) < q) with
  | true =>
    have HX := Lib.hid (show rightC ⟨k, s, q, n, L, p, x, y⟩ = false by simp only [rightC, rightN, lowB, highB, l1, g1, l2, g2, Bool.not_true, Bool.not_false, Bool.true_and, Bool.false_and, Bool.and_false])
    go_wp2_with fail
    refine wp_loop_rounds 4 ?_
    rw [rounds_succ]
    go_wp2_with fail
    rw [rounds_succ]
    go_wp2_with fail
    go_ret
    exact ⟨by rw [HX.out]; rfl, bA⟩
  | false =>
  cases l3 : decide (n < 0) with
  | true =>
    have HX := Lib.hid (show rightC ⟨k, s, q, n, L, p, x, y⟩ = false by simp only [rightC, rightN, lowB, highB, l1, g1, l2, g2, l3, Bool.not_true, Bool.not_false, Bool.true_and, Bool.false_and])
    go_wp2_with fail
    refine wp_loop_rounds 4 ?_
    rw [rounds_succ]
    go_wp2_with fail
    rw [rounds_succ]
    go_wp2_with fail
    rw [rounds_succ]
    go_wp2_with fail
    go_ret
    exact ⟨by rw [HX.out]; rfl, bA⟩
  | false =>
  cases g3 : decide ((281474976710655 : Int) < n) with
  | true =>
    have HX := Lib.hid (show rightC ⟨k, s, q, n, L, p, x, y⟩ = false by simp only [rightC, rightN, lowB, highB, l1, g1, l2, g2, l3, g3, Bool.not_true, Bool.not_false, Bool.true_and, Bool.false_and, Bool.and_false])
    go_wp2_with fail
    refine wp_loop_rounds 4 ?_
    rw [rounds_succ]
    go_wp2_with fail
    rw [rounds_succ]
    go_wp2_with fail
    rw [rounds_succ]
    go_wp2_with fail
    go_ret
    exact ⟨by rw [HX.out]; rfl, bA⟩
  | false =>
  have HNN : Hid (∀ c : Cm, c.ses = s → c.req = q → c.noted = n → rightC c = (c.ops.all rightO && rightT c)) := Lib.hid (by intro c e1 e2 e3; subst e1 e2 e3; simp only [rightC, rightN, lowB, highB, l1, g1, l2, g2, l3, g3, Bool.not_false, Bool.true_and, Bool.and_true])
  go_wp2_with fail
  refine wp_loop_rounds 4 ?_
  rw [rounds_succ]
  go_wp2_with fail
  rw [rounds_succ]
  go_wp2_with fail
  rw [rounds_succ]
  go_wp2_with fail
  rw [rounds_succ]
  go_wp2_with fail
  clear l1 g1 l2 g2 l3 g3
  go_loopw [27] (fun i wr => ∃ j : Nat, j ≤ L.length ∧ i = .int .i64 j ∧ Hid ((L.take j).all rightO = true) ∧ Below w1.heap.size w1 wr) (fun i _ => L.length - (intOf i).toNat)
  case atStart => exact ⟨0, Nat.zero_le _, rfl, Lib.hid (by simp), Below.refl _ _⟩
  case round =>
    obtain ⟨j, hj, rfl, HALL, hb⟩ := hrel
    by_cases hlt : j < L.length
    · obtain ⟨hok, g, off, rfl, h0, h1, h2, h3, h4, h5⟩ := (HO.out.below bA).at hb hlt
      have HTK := Lib.hid (fun h => all_take (f := rightO) (d := Opr.zero) hlt HALL.out h)
      have HNT := Lib.hid (fun h => all_not (L := L) (f := rightO) (d := Opr.zero) hlt h)
      have t2 : IntKind.i64.wrap ((j : Int) + 1) = (j : Int) + 1 := IntWalk.i64_in _ (by omega)
      obtain ⟨z, hz⟩ : ∃ z, z = L.getD j Opr.zero := ⟨_, rfl⟩
      rw [← hz] at hok h0 h1 h2 h3 h4 h5 HTK HNT
      clear hz
      have hj0 : (0 : Int) ≤ (j : Int) := by omega
      have hji : (j : Int) < (L.length : Int) := by omega
      have bB := hb.alloc hb.size (.cells #[.int .i64 z.does, .string z.path, .string z.data, .int .i64 z.ver, .bool z.ser, .bool z.own] 50)
      obtain ⟨zk, zp, zt, zv, zs, zo⟩ := z
      simp only at h0 h1 h2 h3 h4 h5 bB
      have HC := Lib.hid (rightop_any ⟨zk, zp, zt, zv, zs, zo⟩ (wr.alloc (.cells #[.int .i64 zk, .string zp, .string zt, .int .i64 zv, .bool zs, .bool zo] 50)) hok.path hok.data)
      unfold opV at HC
      simp only at HC
      cases hr : rightO ⟨zk, zp, zt, zv, zs, zo⟩ with
      | true =>
        rw [hr] at HC
        clear hok HNT
        go_wp2_with fail
        refine HC.out.mono ?_
        rintro e w3 ⟨rfl, b3⟩
        have bC := bB.trans (b3.mono bB.size)
        go_wp2_with fail
        go_roundw
        case rel => exact ⟨j + 1, by omega, by go_num, Lib.hid (HTK.out hr), bC⟩
        case measure => simp [intOf]; omega
      | false =>
        rw [hr] at HC
        have HX := Lib.hid (show rightC ⟨k, s, q, n, L, p, x, y⟩ = false by rw [HNN.out _ rfl rfl rfl]; simp only [HNT.out hr, Bool.false_and])
        clear hok HTK
        go_wp2_with fail
        refine HC.out.mono ?_
        rintro e w3 ⟨rfl, b3⟩
        have bC := bB.trans (b3.mono bB.size)
        go_wp2_with fail
        go_ret
        exact ⟨by rw [HX.out]; rfl, bA.trans (bC.mono bA.size)⟩
    · obtain rfl : j = L.length := by omega
      have HA : Hid (L.all rightO = true) := Lib.hid (by have := HALL.out; rwa [List.take_length] at this)
      have bL := bA.trans (hb.mono bA.size)
      have hlt2 : decide ((L.length : Int) < (L.length : Int)) = false := by simp
      have N2 := (hb.block w.heap.size hbs).trans HN1.out
      obtain ⟨e0, e1, e2, e3, e4, e5, e6, e7⟩ := cmB_cells N2
      clear hlt HALL c0 c1 c2 c3 c4 c5 c6 c7
      have HT : Hid (rightC ⟨k, s, q, n, L, p, x, y⟩ = rightT ⟨k, s, q, n, L, p, x, y⟩) := Lib.hid (by rw [HNN.out _ rfl rfl rfl]; simp only [HA.out, Bool.true_and])
      cases t1 : decide (0 ≤ k) with
      | false =>
        have HX := Lib.hid (show rightT ⟨k, s, q, n, L, p, x, y⟩ = false by simp only [rightT, t1, Bool.true_and, Bool.false_and])
        go_wp2_with fail
        go_ret
        exact ⟨by rw [HT.out, HX.out]; rfl, bL⟩
      | true =>
      cases t2 : decide (k ≤ 5) with
      | false =>
        have HX := Lib.hid (show rightT ⟨k, s, q, n, L, p, x, y⟩ = false by simp only [rightT, t1, t2, Bool.true_and, Bool.false_and])
        go_wp2_with fail
        go_ret
        exact ⟨by rw [HT.out, HX.out]; rfl, bL⟩
      | true =>
      cases t3 : decide ((L.length : Int) ≤ 4) with
      | false =>
        have HX := Lib.hid (show rightT ⟨k, s, q, n, L, p, x, y⟩ = false by simp only [rightT, t1, t2, t3, Bool.true_and, Bool.false_and])
        go_wp2_with fail
        go_ret
        exact ⟨by rw [HT.out, HX.out]; rfl, bL⟩
      | true =>
        have HX := Lib.hid (show rightT ⟨k, s, q, n, L, p, x, y⟩ = decide ((p.size : Int) ≤ 60) by simp only [rightT, t1, t2, t3, Bool.true_and])
        go_wp2_with fail
        go_ret
        exact ⟨by rw [HT.out, HX.out]; rfl, bL⟩
set_option maxHeartbeats 8000000 in
theorem lright_any (u : Value) (c : Cm) (w : World) (h : CmR w (cmV u c) c) :
    Calls Try.prog 12 #[cmV u c] w fun e w' => e = .returned (.bool (rightC c)) ∧ Below w.heap.size w w' := by
  obtain ⟨⟨k1, k2, k3, k4, k5⟩, u', hu, hO⟩ := h
  obtain ⟨k, s, q, n, L, p, x, y⟩ := c
  simp only at k1 k2 k3 k4 k5 hO
  obtain rfl : u = u' := by simpa [cmV] using hu
  clear hu
  obtain ⟨a, cap, rfl, hLm⟩ := (show ∃ a cap, u = .slice a L.length cap ∧ L.length ≤ maxLen by obtain ⟨a, cap, h1, h2, _⟩ := hO; exact ⟨a, cap, h1, h2⟩)
  unfold maxLen at hLm k5
  show Calls _ _ #[.agg #[.int .i64 k, .int .i64 s, .int .i64 q, .int .i64 n, .slice a L.length cap, .string p, .bool x, .bool y]] w _
  have bA := (Below.refl w.heap.size w).alloc (Nat.le_refl _) (.cells #[.int .i64 k, .int .i64 s, .int .i64 q, .int .i64 n, .slice a L.length cap, .string p, .bool x, .bool y] 26)
  have N1 := cmB_new w (.slice a L.length cap) k s q n p x y
  have HO := Lib.hid hO
  clear hO
  go_enter Try.func12, Try.ntmps12
  go_upto_region 1 with fail
  obtain ⟨w1, hw1⟩ : ∃ w1, w1 = w.alloc (.cells #[.int .i64 k, .int .i64 s, .int .i64 q, .int .i64 n, .slice a L.length cap, .string p, .bool x, .bool y] 26) := ⟨_, rfl⟩
  rw [← hw1] at bA N1 ⊢
  obtain ⟨c0, c1, c2, c3, c4, c5, c6, c7⟩ := cmB_cells N1
  have hbs : w.heap.size < w1.heap.size := (Array.getElem?_eq_some_iff.1 N1).1
  have HN1 := Lib.hid N1
  clear hw1 N1
  go_wp2_with fail
  go_loopw [10] (fun i wr => ∃ j : Nat, j ≤ L.length ∧ i = .int .i64 j ∧ Hid ((L.take j).all rightO = true) ∧ Below w1.heap.size w1 wr) (fun i _ => L.length - (intOf i).toNat)
  case atStart => exact ⟨0, Nat.zero_le _, rfl, Lib.hid (by simp), Below.refl _ _⟩
  case round =>
    obtain ⟨j, hj, rfl, HALL, hb⟩ := hrel
    by_cases hlt : j < L.length
    · obtain ⟨hok, g, off, rfl, h0, h1, h2, h3, h4, h5⟩ := (HO.out.below bA).at hb hlt
      have HTK := Lib.hid (fun h => all_take (f := rightO) (d := Opr.zero) hlt HALL.out h)
      have HNT := Lib.hid (fun h => all_not (L := L) (f := rightO) (d := Opr.zero) hlt h)
      have t2 : IntKind.i64.wrap ((j : Int) + 1) = (j : Int) + 1 := IntWalk.i64_in _ (by omega)
      obtain ⟨z, hz⟩ : ∃ z, z = L.getD j Opr.zero := ⟨_, rfl⟩
      rw [← hz] at hok h0 h1 h2 h3 h4 h5 HTK HNT
      clear hz
      have hj0 : (0 : Int) ≤ (j : Int) := by omega
      have hji : (j : Int) < (L.length : Int) := by omega
      have bB := hb.alloc hb.size (.cells #[.int .i64 z.does, .string z.path, .string z.data, .int .i64 z.ver, .bool z.ser, .bool z.own] 50)
      obtain ⟨zk, zp, zt, zv, zs, zo⟩ := z
      simp only at h0 h1 h2 h3 h4 h5 bB
      have HC := Lib.hid (lrightop_any ⟨zk, zp, zt, zv, zs, zo⟩ (wr.alloc (.cells #[.int .i64 zk, .string zp, .string zt, .int .i64 zv, .bool zs, .bool zo] 50)) hok.path hok.data)
      unfold opV at HC
      simp only at HC
      cases hr : rightO ⟨zk, zp, zt, zv, zs, zo⟩ with
      | true =>
        rw [hr] at HC
        clear hok HNT
        go_wp2_with fail
        refine HC.out.mono ?_
        rintro e w3 ⟨rfl, b3⟩
        have bC := bB.trans (b3.mono bB.size)
        go_wp2_with fail
        go_roundw
        case rel => exact ⟨j + 1, by omega, by go_num, Lib.hid (HTK.out hr), bC⟩
        case measure => simp [intOf]; omega
      | false =>
        rw [hr] at HC
        have HX := Lib.hid (show rightC ⟨k, s, q, n, L, p, x, y⟩ = false by simp only [rightC, HNT.out hr, Bool.and_false, Bool.false_and])
        clear hok HTK
        go_wp2_with fail
        refine HC.out.mono ?_
        rintro e w3 ⟨rfl, b3⟩
        have bC := bB.trans (b3.mono bB.size)
        go_wp2_with fail
        go_ret
        exact ⟨by rw [HX.out]; rfl, bA.trans (bC.mono bA.size)⟩
    · obtain rfl : j = L.length := by omega
      have HA : Hid (L.all rightO = true) := Lib.hid (by have := HALL.out; rwa [List.take_length] at this)
      have bL := bA.trans (hb.mono bA.size)
      have hlt2 : decide ((L.length : Int) < (L.length : Int)) = false := by simp
      have N2 := (hb.block w.heap.size hbs).trans HN1.out
      obtain ⟨e0, e1, e2, e3, e4, e5, e6, e7⟩ := cmB_cells N2
      clear hlt HALL c0 c1 c2 c3 c4 c5 c6 c7
      have bM := bL.alloc bL.size (.cells #[.int .i64 s, .int .i64 q, .int .i64 n] 3)
      have HR0 : Hid (∀ c : Cm, c.ses = s → c.req = q → c.noted = n → c.ops = L → rightC c = (rightN s && rightN q && rightN n && rightT c)) := Lib.hid (by intro c e1 e2 e3 e4; unfold rightC; rw [e1, e2, e3, e4, HA.out]; simp only [Bool.and_true])
      cases l1 : decide (s < 0) with
      | true =>
        have HX := Lib.hid (show rightC ⟨k, s, q, n, L, p, x, y⟩ = false by rw [HR0.out _ rfl rfl rfl rfl]; simp only [rightN, lowB, highB, l1, Bool.not_true, Bool.not_false, Bool.true_and, Bool.false_and])
        go_wp2_with fail
        refine wp_loop_rounds 4 ?_
        rw [rounds_succ]
        go_wp2_with fail
        go_ret
        exact ⟨by rw [HX.out]; rfl, bM⟩
      | false =>
      cases g1 : decide ((281474976710655 : Int) < s) with
      | true =>
        have HX := Lib.hid (show rightC ⟨k, s, q, n, L, p, x, y⟩ = false by rw [HR0.out _ rfl rfl rfl rfl]; simp only [rightN, lowB, highB, l1, g1, Bool.not_true, Bool.not_false, Bool.true_and, Bool.false_and, Bool.and_false])
        go_wp2_with fail
        refine wp_loop_rounds 4 ?_
        rw [rounds_succ]
        go_wp2_with fail
        go_ret
        exact ⟨by rw [HX.out]; rfl, bM⟩
      | false =>
      cases l2 : decide (q < 0) with
      | true =>
        have HX := Lib.hid (show rightC ⟨k, s, q, n, L, p, x, y⟩ = false by rw [HR0.out _ rfl rfl rfl rfl]; simp only [rightN, lowB, highB, l1, g1, l2, Bool.not_true, Bool.not_false, Bool.true_and, Bool.false_and])
        go_wp2_with fail
        refine wp_loop_rounds 4 ?_
        rw [rounds_succ]
        go_wp2_with fail
        rw [rounds_succ]
        go_wp2_with fail
        go_ret
        exact ⟨by rw [HX.out]; rfl, bM⟩
      | false =>
      cases g2 : decide ((281474976710655 : Int) < q) with
      | true =>
        have HX := Lib.hid (show rightC ⟨k, s, q, n, L, p, x, y⟩ = false by rw [HR0.out _ rfl rfl rfl rfl]; simp only [rightN, lowB, highB, l1, g1, l2, g2, Bool.not_true, Bool.not_false, Bool.true_and, Bool.false_and, Bool.and_false])
        go_wp2_with fail
        refine wp_loop_rounds 4 ?_
        rw [rounds_succ]
        go_wp2_with fail
        rw [rounds_succ]
        go_wp2_with fail
        go_ret
        exact ⟨by rw [HX.out]; rfl, bM⟩
      | false =>
      cases l3 : decide (n < 0) with
      | true =>
        have HX := Lib.hid (show rightC ⟨k, s, q, n, L, p, x, y⟩ = false by rw [HR0.out _ rfl rfl rfl rfl]; simp only [rightN, lowB, highB, l1, g1, l2, g2, l3, Bool.not_true, Bool.not_false, Bool.true_and, Bool.false_and])
        go_wp2_with fail
        refine wp_loop_rounds 4 ?_
        rw [rounds_succ]
        go_wp2_with fail
        rw [rounds_succ]
        go_wp2_with fail
        rw [rounds_succ]
        go_wp2_with fail
        go_ret
        exact ⟨by rw [HX.out]; rfl, bM⟩
      | false =>
      cases g3 : decide ((281474976710655 : Int) < n) with
      | true =>
        have HX := Lib.hid (show rightC ⟨k, s, q, n, L, p, x, y⟩ = false by rw [HR0.out _ rfl rfl rfl rfl]; simp only [rightN, lowB, highB, l1, g1, l2, g2, l3, g3, Bool.not_true, Bool.not_false, Bool.true_and, Bool.false_and, Bool.and_false])
        go_wp2_with fail
        refine wp_loop_rounds 4 ?_
        rw [rounds_succ]
        go_wp2_with fail
        rw [rounds_succ]
        go_wp2_with fail
        rw [rounds_succ]
        go_wp2_with fail
        go_ret
        exact ⟨by rw [HX.out]; rfl, bM⟩
      | false =>
      have HT : Hid (rightC ⟨k, s, q, n, L, p, x, y⟩ = rightT ⟨k, s, q, n, L, p, x, y⟩) := Lib.hid (by rw [HR0.out _ rfl rfl rfl rfl]; simp only [rightN, lowB, highB, l1, g1, l2, g2, l3, g3, Bool.not_false, Bool.true_and])
      clear bL
      have bL := bM
      clear bM
      have N3 := (Below.heap_alloc wr (.cells #[.int .i64 s, .int .i64 q, .int .i64 n] 3) w.heap.size (Array.getElem?_eq_some_iff.1 N2).1).trans N2
      go_wp2_with fail
      refine wp_loop_rounds 4 ?_
      rw [rounds_succ]
      go_wp2_with fail
      rw [rounds_succ]
      go_wp2_with fail
      rw [rounds_succ]
      go_wp2_with fail
      rw [rounds_succ]
      go_upto_region 13 with fail
      obtain ⟨w5, hw5⟩ : ∃ w5, w5 = wr.alloc (.cells #[.int .i64 s, .int .i64 q, .int .i64 n] 3) := ⟨_, rfl⟩
      rw [← hw5] at bL N3 ⊢
      clear l1 g1 l2 g2 l3 g3 e0 e1 e2 e3 e4 e5 e6 e7 hw5
      obtain ⟨e0, e1, e2, e3, e4, e5, e6, e7⟩ := cmB_cells N3
      cases t1 : decide (0 ≤ k) with
      | false =>
        have HX := Lib.hid (show rightT ⟨k, s, q, n, L, p, x, y⟩ = false by simp only [rightT, t1, Bool.true_and, Bool.false_and])
        go_wp2_with fail
        go_ret
        exact ⟨by rw [HT.out, HX.out]; rfl, bL⟩
      | true =>
      cases t2 : decide (k ≤ 5) with
      | false =>
        have HX := Lib.hid (show rightT ⟨k, s, q, n, L, p, x, y⟩ = false by simp only [rightT, t1, t2, Bool.true_and, Bool.false_and])
        go_wp2_with fail
        go_ret
        exact ⟨by rw [HT.out, HX.out]; rfl, bL⟩
      | true =>
      cases t3 : decide ((L.length : Int) ≤ 4) with
      | false =>
        have HX := Lib.hid (show rightT ⟨k, s, q, n, L, p, x, y⟩ = false by simp only [rightT, t1, t2, t3, Bool.true_and, Bool.false_and])
        go_wp2_with fail
        go_ret
        exact ⟨by rw [HT.out, HX.out]; rfl, bL⟩
      | true =>
        have HX := Lib.hid (show rightT ⟨k, s, q, n, L, p, x, y⟩ = decide ((p.size : Int) ≤ 60) by simp only [rightT, t1, t2, t3, Bool.true_and])
        go_wp2_with fail
        go_ret
        exact ⟨by rw [HT.out, HX.out]; rfl, bL⟩

def fewO (o : Opr) : Bool := !decide ((200 : Int) < (o.path.size : Int)) && !decide ((200 : Int) < (o.data.size : Int))
def fewC (c : Cm) : Bool := c.ops.all fewO && (decide ((c.ops.length : Int) ≤ 10) && decide ((c.path.size : Int) ≤ 200))
set_option maxHeartbeats 8000000 in
theorem few_any (u : Value) (c : Cm) (w : World) (h : CmR w (cmV u c) c) :
    Calls Try.prog 18 #[cmV u c] w fun e w' => e = .returned (.bool (fewC c)) ∧ Below w.heap.size w w' := by
  obtain ⟨⟨k1, k2, k3, k4, k5⟩, u', hu, hO⟩ := h
  obtain ⟨k, s, q, n, L, p, x, y⟩ := c
  simp only at k1 k2 k3 k4 k5 hO
  obtain rfl : u = u' := by simpa [cmV] using hu
  clear hu
  obtain ⟨a, cap, rfl, hLm⟩ := (show ∃ a cap, u = .slice a L.length cap ∧ L.length ≤ maxLen by obtain ⟨a, cap, h1, h2, _⟩ := hO; exact ⟨a, cap, h1, h2⟩)
  unfold maxLen at hLm k5
  show Calls _ _ #[.agg #[.int .i64 k, .int .i64 s, .int .i64 q, .int .i64 n, .slice a L.length cap, .string p, .bool x, .bool y]] w _
  have bA := (Below.refl w.heap.size w).alloc (Nat.le_refl _) (.cells #[.int .i64 k, .int .i64 s, .int .i64 q, .int .i64 n, .slice a L.length cap, .string p, .bool x, .bool y] 26)
  have N1 := cmB_new w (.slice a L.length cap) k s q n p x y
  have HO := Lib.hid hO
  clear hO
  go_enter Try.func18, Try.ntmps18
  go_upto_region 1 with fail
  obtain ⟨w1, hw1⟩ : ∃ w1, w1 = w.alloc (.cells #[.int .i64 k, .int .i64 s, .int .i64 q, .int .i64 n, .slice a L.length cap, .string p, .bool x, .bool y] 26) := ⟨_, rfl⟩
  rw [← hw1] at bA N1 ⊢
  obtain ⟨c0, c1, c2, c3, c4, c5, c6, c7⟩ := cmB_cells N1
  have hbs : w.heap.size < w1.heap.size := (Array.getElem?_eq_some_iff.1 N1).1
  have HN1 := Lib.hid N1
  clear hw1 N1
  go_wp2_with fail
  go_loopw [8] (fun i wr => ∃ j : Nat, j ≤ L.length ∧ i = .int .i64 j ∧ Hid ((L.take j).all fewO = true) ∧ Below w1.heap.size w1 wr) (fun i _ => L.length - (intOf i).toNat)
  case atStart => exact ⟨0, Nat.zero_le _, rfl, Lib.hid (by simp), Below.refl _ _⟩
  case round =>
    obtain ⟨j, hj, rfl, HALL, hb⟩ := hrel
    by_cases hlt : j < L.length
    · obtain ⟨hok, g, off, rfl, h0, h1, h2, h3, h4, h5⟩ := (HO.out.below bA).at hb hlt
      have HTK := Lib.hid (fun h => all_take (f := fewO) (d := Opr.zero) hlt HALL.out h)
      have HNT := Lib.hid (fun h => all_not (L := L) (f := fewO) (d := Opr.zero) hlt h)
      have t2 : IntKind.i64.wrap ((j : Int) + 1) = (j : Int) + 1 := IntWalk.i64_in _ (by omega)
      obtain ⟨z, hz⟩ : ∃ z, z = L.getD j Opr.zero := ⟨_, rfl⟩
      rw [← hz] at hok h0 h1 h2 h3 h4 h5 HTK HNT
      clear hz
      have hj0 : (0 : Int) ≤ (j : Int) := by omega
      have hji : (j : Int) < (L.length : Int) := by omega
      have bB := hb.alloc hb.size (.cells #[.int .i64 z.does, .string z.path, .string z.data, .int .i64 z.ver, .bool z.ser, .bool z.own] 50)
      obtain ⟨zk, zp, zt, zv, zs, zo⟩ := z
      obtain ⟨_, q1, q2, _⟩ := hok
      unfold maxLen at q1 q2
      simp only at h0 h1 h2 h3 h4 h5 bB q1 q2
      cases d1 : decide ((200 : Int) < (zp.size : Int)) with
      | true =>
        have HX := Lib.hid (show fewC ⟨k, s, q, n, L, p, x, y⟩ = false by simp only [fewC, HNT.out (by simp only [fewO, d1, Bool.not_true, Bool.false_and]), Bool.false_and])
        clear HTK
        go_wp2_with fail
        go_ret
        exact ⟨by rw [HX.out]; rfl, bA.trans (bB.mono bA.size)⟩
      | false =>
      cases d2 : decide ((200 : Int) < (zt.size : Int)) with
      | true =>
        have HX := Lib.hid (show fewC ⟨k, s, q, n, L, p, x, y⟩ = false by simp only [fewC, HNT.out (by simp only [fewO, d1, d2, Bool.not_true, Bool.and_false]), Bool.false_and])
        clear HTK
        go_wp2_with fail
        go_ret
        exact ⟨by rw [HX.out]; rfl, bA.trans (bB.mono bA.size)⟩
      | false =>
        have HK := Lib.hid (HTK.out (by simp only [fewO, d1, d2, Bool.not_false, Bool.true_and]))
        clear HTK HNT
        go_wp2_with fail
        go_roundw
        case rel => exact ⟨j + 1, by omega, by go_num, HK, bB⟩
        case measure => simp [intOf]; omega
    · obtain rfl : j = L.length := by omega
      have HA : Hid (L.all fewO = true) := Lib.hid (by have := HALL.out; rwa [List.take_length] at this)
      have bL := bA.trans (hb.mono bA.size)
      have hlt2 : decide ((L.length : Int) < (L.length : Int)) = false := by simp
      have N2 := (hb.block w.heap.size hbs).trans HN1.out
      obtain ⟨e0, e1, e2, e3, e4, e5, e6, e7⟩ := cmB_cells N2
      clear hlt HALL N2 c0 c1 c2 c3 c4 c5 c6 c7
      cases t1 : decide ((L.length : Int) ≤ 10) with
      | false =>
        have HX := Lib.hid (show fewC ⟨k, s, q, n, L, p, x, y⟩ = false by simp only [fewC, t1, Bool.false_and, Bool.and_false])
        go_wp2_with fail
        go_ret
        exact ⟨by rw [HX.out]; rfl, bL⟩
      | true =>
        have HX := Lib.hid (show fewC ⟨k, s, q, n, L, p, x, y⟩ = decide ((p.size : Int) ≤ 200) by simp only [fewC, HA.out, t1, Bool.true_and])
        go_wp2_with fail
        go_ret
        exact ⟨by rw [HX.out]; rfl, bL⟩
end Go.Proofs.Ytkdbkbfloiponaa
