/- PithOrders: the six bytes of two numbers have the order of the numbers, for all two integers; no condition on the input. -/
import Derived.Test.YtefofhejaafgnaaLaw1a
import Derived.Test.YtefofhejaafgnaaPithMath
import Derived.ProofKit
import Derived.OpenShut
import Derived.ShutString
import Derived.ChangeOld
namespace Go.Proofs.Ytefofhejaafgnaa.pithOrders
open Go.ChangeShapes Go.WideShapes Go.ChangeAt Go.RowKit
set_option linter.unusedVariables false

set_option maxHeartbeats 1000000 in
theorem walk_core (a0 a1 : Int) (n m : Nat) (x1 x2 x3 x4 : Bool) (w : World) (w0 : -9223372036854775808 ≤ a0 ∧ a0 ≤ 9223372036854775807) (w1 : -9223372036854775808 ≤ a1 ∧ a1 ≤ 9223372036854775807)
    (hn : min (max a0 0) 281474976710655 = (n : Int)) (hm : min (max a1 0) 281474976710655 = (m : Int))
    (h1 : Op.bytesLess (be 6 n) (be 6 m) = x1) (h2 : decide (n < m) = x1) (h3 : (be 6 n == be 6 m) = x2) (h4 : ((n : Int) == (m : Int)) = x2) :
    Calls Try.prog 6 #[.int .i64 a0, .int .i64 a1] w fun e w' => e = .returned (.bool true) ∧ Below w.heap.size w w' := by
  have e1 : numE a0 = be 6 n := by unfold numE; rw [hn]; rfl
  have e2 : numE a1 = be 6 m := by unfold numE; rw [hm]; rfl
  obtain ⟨s1, hs1⟩ : ∃ s1 : ByteArray, s1 = ⟨(be 6 n).toArray⟩ := ⟨_, rfl⟩
  obtain ⟨s2, hs2⟩ : ∃ s2 : ByteArray, s2 = ⟨(be 6 m).toArray⟩ := ⟨_, rfl⟩
  have H1 := Lib.hid (fun (W : World) => num_one (.slice none 0 0) [] a0 W (Src.nil W) (by simp) w0)
  have H2 := Lib.hid (fun (W : World) => num_one (.slice none 0 0) [] a1 W (Src.nil W) (by simp) w1)
  rw [e1, List.nil_append] at H1
  rw [e2, List.nil_append] at H2
  have hl : s1.size = 6 := by rw [hs1, size_mk, be_length]
  have t1 : s1.toList = be 6 n := by rw [hs1, ByteArray.toList_eq]
  have t2 : s2.toList = be 6 m := by rw [hs2, ByteArray.toList_eq]
  rw [← t1, ← t2] at h1 h3
  have HS1 := Lib.hid hs1
  have HS2 := Lib.hid hs2
  clear t1 t2 e1 e2 hs1 hs2
  go_enter Try.func6, Try.ntmps6
  go_wp2_with (go_at_call 10; refine (head_any _).mono ?_; rintro e w1 ⟨rfl, hb⟩)
  refine (H1.out _).mono ?_
  rintro e w2 ⟨v2, rfl, ho2, hb2⟩
  have c2 := run_str ho2.src
  rw [← HS1.out] at c2
  go_wp2_with fail
  refine (H2.out _).mono ?_
  rintro e w3 ⟨v3, rfl, ho3, hb3⟩
  have c3 := run_str ho3.src
  rw [← HS2.out] at c3
  have hbel := hb.trans ((hb2.trans (hb3.mono hb2.size)).mono hb.size)
  clear ho2 ho3 hb hb2 hb3
  cases x1 <;> cases x2 <;> (go_wp2_with fail; go_ret; exact ⟨rfl, hbel⟩)

theorem walk (a0 a1 : Int) (w : World) (w0' : (Lit.int .i64 a0).wf = true) (w1' : (Lit.int .i64 a1).wf = true) :
    Calls Try.prog 6 #[.int .i64 a0, .int .i64 a1] w fun e w' => e = .returned (.bool true) ∧ Below w.heap.size w w' := by
  have w0 := bounds_i64 w0'
  have w1 := bounds_i64 w1'
  obtain ⟨n, hn⟩ := Int.eq_ofNat_of_zero_le (show 0 ≤ min (max a0 0) 281474976710655 by omega)
  obtain ⟨m, hm⟩ := Int.eq_ofNat_of_zero_le (show 0 ≤ min (max a1 0) 281474976710655 by omega)
  refine walk_core a0 a1 n m (decide (n < m)) (decide (n = m)) true true w w0 w1 hn hm (be_less 6 n m (by omega) (by omega)) rfl (be_inj 6 n m (by omega) (by omega)) ?_
  rw [Bool.eq_iff_iff]
  simp only [beq_iff_eq, decide_eq_true_eq]
  omega
theorem own : ownKnob Try.prog.godebug = none := by kernel_rfl
theorem laidOut : laidOutB Try.prog = true := by kernel_rfl

set_option maxRecDepth 100000 in
theorem lifted (os : Os) (started : os.Started) (H : Type) (enc : TypeId × Value → H) :
    ReturnsInHanded {} Try.checked os 6 .any (Rows.pithOrdersSpec.pre6 enc Try.prog Try.f6 Rows.pithOrdersRow.domain false) (Rows.pithOrdersSpec.post enc Try.prog Try.f6 false true false false) := by
  refine returnsInHanded_of_change (C := Try.checked) own started (by kernel_rfl) Try.func6
    (ChangeSpec.witness6 (enc := enc) (C := Try.checked) false ⟨#[], #[.int .i64 0, .int .i64 0], []⟩ 8 (by kernel_rfl) (by kernel_rfl) (by kernel_rfl) (by kernel_rfl)) ?_
  intro W base args ds gs before hval0 hW hcnd _
  have hval : ∀ (j : Nat) t v, Try.f6.params[j]? = some t → args[j]? = some v → Value.okWide Try.prog W .any base t v := hval0
  have hW' := hW
  obtain ⟨p, q, hA0, hV, rfl, hfz, hnd⟩ := hW
  have hA : DataW.TrodAll enc Try.prog W 0 (fun _ => true) true Try.f6.params.toList args.toList ds p := hA0
  rw [Try.params6] at hA hval
  obtain ⟨v0, vs0, d0, ds0, p0, q0, hargs, rfl, rfl, h0, r0⟩ := trodAll_cons hA
  obtain ⟨v1, vs1, d1, ds1, p1, q1, rfl, rfl, rfl, h1, r1⟩ := trodAll_cons r0
  obtain ⟨rfl, rfl, rfl⟩ := trodAll_nil r1
  obtain rfl : args = #[v0, v1] := by cases args; simp_all
  obtain ⟨rfl, rfl⟩ := trodVars_none hV
  obtain ⟨a0, rfl, rfl, rfl, w0⟩ := open_int Try.underlying3 (hval 0 3 v0 rfl rfl) h0
  obtain ⟨a1, rfl, rfl, rfl, w1⟩ := open_int Try.underlying3 (hval 1 3 v1 rfl rfl) h1
  clear hA0 hval0
  refine (walk a0 a1 W w0 w1).mono fun e W' ⟨he, bel⟩ => ?_
  subst he
  exact ⟨_, rfl, _, _, _, [], _, [], hW', trodAll_mk1 (shut_bool Try.underlying4 _), (trodAll_cons_mk (shut_int Try.underlying3 w0) (trodAll_cons_mk (shut_int Try.underlying3 w1) trodAll_mk0)), rfl, bel.frame _, fun h => by cases h⟩

theorem over : Rows.pithOrdersRow.holds Try.pinned (OpenSpec.ofChange Rows.pithOrdersSpec) :=
  OpenClaim.holds_of_wide 6 Try.f6 rfl rfl rfl rfl rfl rfl rfl ⟨rfl, rfl, rfl, rfl, rfl⟩ rfl rfl rfl rfl rfl (by kernel_rfl) Try.func6 (by kernel_rfl)
    (of_decide_eq_true (by kernel_rfl)) (by unfold Func.isWrapper; first | (rw [if_pos (by decide +kernel)]; kernel_rfl) | (rw [if_neg (by decide +kernel)]; exact ⟨rfl, rfl⟩))
    (fun os started H enc _ => lifted os started H enc)

theorem proved : Rows.PithOrdersSaid := over
end Go.Proofs.Ytefofhejaafgnaa.pithOrders
