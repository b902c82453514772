/- Touches of a command; a start that fits a row which lists variables. No conditions beyond those in each statement. -/
import Derived.Test.YtkdbkbfloiponaaDoorOpArgs
import Derived.Test.YtkdbkbfloiponaaDoorPathCheck
namespace Go.Proofs.YtkdbkbfloiponaaDoor
open Go.ChangeShapes Go.WideShapes Go.ChangeAt Go.RowKit
set_option linter.unusedVariables false
set_option linter.unusedSimpArgs false
set_option maxRecDepth 100000

section
variable {H : Type} {enc : TypeId × Value → H}
theorem witness_zip {C : Checked} {os : Os} {f : FuncId} {fn : Func} {s : OpenSpec} {conds : List PathCond} {apart : Bool} {laid : List (String × DataW Unit)} (modest : Bool) (w0 : World) (args : Array Value) (hos : w0.os = os)
    (hsh : (w0.forCall (fun _ _ => 0) ⟨#[], args, []⟩).Shaped C.prog)
    (hok : Input.okWideB C.prog (w0.forCall (fun _ _ => 0) ⟨#[], args, []⟩) f ⟨#[], args, []⟩ = true)
    (hrow : s.preRow enc C.prog fn conds apart laid (w0.forCall (fun _ _ => 0) ⟨#[], args, []⟩).memory args) :
    ∃ (w : World) (tape : Tape) (i : Input), w.os = os ∧ (w.forCall tape i).Shaped C.prog ∧ i.vars = [] ∧ Input.okWide C.prog (w.forCall tape i) .any w.heap.size f i ∧
      s.preRow enc C.prog fn conds apart laid (w.forCall tape i).memory i.args ∧ ({ modest := modest } : Assume).holds C.prog (lone (Frame.enter C.prog f i.args .normal) [] (w.forCall tape i)) :=
  ⟨w0, fun _ _ => 0, ⟨#[], args, []⟩, hos, hsh, (Input.okWide_of_okWideB (base := 0) hok).1, (Input.okWide_of_okWideB hok).2, hrow, by
    simp only [Assume.holds]
    exact ⟨by simp, by simp, fun _ => Modest.zero, by simp, by simp⟩⟩
end
/-- Is an operation's Path a path? -/
def chkO (o : Opr) : Bool := checkL o.path.data.toList
theorem checkE_chk (o : Opr) : (checkE o.path.data.toList == 0) = chkO o := by
  unfold checkE chkO; cases checkL o.path.data.toList <;> rfl
set_option maxHeartbeats 4000000 in
theorem touches_any (u : Value) (c : Cm) (w : World) (h : CmR w (cmV u c) c) :
    Calls Tryd.prog 16 #[cmV u c] w fun e w' => e = .returned (.bool (c.ops.all chkO)) ∧ Below w.heap.size w w' := by
  obtain ⟨⟨k1, k2, k3, k4, k5⟩, u', hu, hO⟩ := h
  obtain ⟨k, s, q, n, L, p, x, y⟩ := c
  simp only at k1 k2 k3 k4 k5 hO
  obtain rfl : u = u' := by simpa [cmV] using hu
  clear hu
  obtain ⟨a, cap, rfl, hLm⟩ := (show ∃ a cap, u = .slice a L.length cap ∧ L.length ≤ maxLen by obtain ⟨a, cap, h1, h2, _⟩ := hO; exact ⟨a, cap, h1, h2⟩)
  unfold maxLen at hLm k5
  show Calls _ _ #[.agg #[.int .i64 k, .int .i64 s, .int .i64 q, .int .i64 n, .slice a L.length cap, .string p, .bool x, .bool y]] w _
  have bA := (Below.refl w.heap.size w).alloc (Nat.le_refl _) (.cells #[.int .i64 k, .int .i64 s, .int .i64 q, .int .i64 n, .slice a L.length cap, .string p, .bool x, .bool y] 25)
  have N1 := cmB_new w (.slice a L.length cap) k s q n p x y
  have HO := Lib.hid hO
  clear hO
  go_enter Tryd.func16, Tryd.ntmps16
  go_upto_region 1 with fail
  obtain ⟨w1, hw1⟩ : ∃ w1, w1 = w.alloc (.cells #[.int .i64 k, .int .i64 s, .int .i64 q, .int .i64 n, .slice a L.length cap, .string p, .bool x, .bool y] 25) := ⟨_, rfl⟩
  rw [← hw1] at bA N1 ⊢
  obtain ⟨c0, c1, c2, c3, c4, c5, c6, c7⟩ := cmB_cells N1
  clear hw1 N1
  go_wp2_with fail
  go_loopw [8] (fun i wr => ∃ j : Nat, j ≤ L.length ∧ i = .int .i64 j ∧ Hid ((L.take j).all chkO = true) ∧ Below w1.heap.size w1 wr) (fun i _ => L.length - (intOf i).toNat)
  case atStart => exact ⟨0, Nat.zero_le _, rfl, Lib.hid (by simp), Below.refl _ _⟩
  case round =>
    obtain ⟨j, hj, rfl, HALL, hb⟩ := hrel
    by_cases hlt : j < L.length
    · obtain ⟨hok, g, off, rfl, h0, h1, h2, h3, h4, h5⟩ := (HO.out.below bA).at hb hlt
      have HTK := Lib.hid (fun h => all_take (f := chkO) (d := Opr.zero) hlt HALL.out h)
      have HNT := Lib.hid (fun h => all_not (L := L) (f := chkO) (d := Opr.zero) hlt h)
      have t2 : IntKind.i64.wrap ((j : Int) + 1) = (j : Int) + 1 := IntWalk.i64_in _ (by omega)
      obtain ⟨z, hz⟩ : ∃ z, z = L.getD j Opr.zero := ⟨_, rfl⟩
      rw [← hz] at h0 h1 h2 h3 h4 h5 HTK HNT
      clear hz hok
      have hj0 : (0 : Int) ≤ (j : Int) := by omega
      have hji : (j : Int) < (L.length : Int) := by omega
      have bB := hb.alloc hb.size (.cells #[.int .i64 z.does, .string z.path, .string z.data, .int .i64 z.ver, .bool z.ser, .bool z.own] 35)
      have HCE := Lib.hid (checkE_chk z)
      obtain ⟨zk, zp, zt, zv, zs, zo⟩ := z
      simp only at h0 h1 h2 h3 h4 h5 bB HCE
      have HC := Lib.hid (check_any zp (wr.alloc (.cells #[.int .i64 zk, .string zp, .string zt, .int .i64 zv, .bool zs, .bool zo] 35)))
      obtain ⟨ce, hce⟩ : ∃ ce, ce = checkE zp.data.toList := ⟨_, rfl⟩
      rw [← hce] at HC HCE
      clear hce
      cases hr : chkO ⟨zk, zp, zt, zv, zs, zo⟩ with
      | true =>
        have hc0 : ce = 0 := by have := HCE.out; rw [hr] at this; simpa using this
        subst hc0
        have HT2 := Lib.hid (HTK.out hr)
        clear HNT HTK HCE
        go_wp2_with fail
        refine HC.out.mono ?_
        rintro e w3 ⟨rfl, b3⟩
        have bC := bB.trans (b3.mono bB.size)
        go_wp2_with fail
        go_roundw
        case rel => exact ⟨j + 1, by omega, by go_num, HT2, bC⟩
        case measure => simp [intOf]; omega
      | false =>
        have hc0 : (ce == 0) = false := by have := HCE.out; rw [hr] at this; exact this
        have HX := Lib.hid (HNT.out hr)
        clear HTK HNT HCE
        go_wp2_with fail
        refine HC.out.mono ?_
        rintro e w3 ⟨rfl, b3⟩
        have bC := bB.trans (b3.mono bB.size)
        go_wp2_with fail
        go_ret
        exact ⟨by rw [HX.out]; rfl, bA.trans (bC.mono bA.size)⟩
    · obtain rfl : j = L.length := by omega
      have HA : Hid (L.all chkO = true) := Lib.hid (by have := HALL.out; rwa [List.take_length] at this)
      have hlt2 : decide ((L.length : Int) < (L.length : Int)) = false := by simp
      go_wp2_with fail
      go_ret
      exact ⟨by rw [HA.out]; rfl, bA.trans (hb.mono bA.size)⟩
end Go.Proofs.YtkdbkbfloiponaaDoor
