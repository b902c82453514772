/- SessReads: whatever bytes: a table whose bytes they are, or none; no condition on the input. -/
import Derived.Test.YtckengglamkaaaaSessRead
import Derived.Test.YtckengglamkaaaaRows
import Derived.ProofKit
import Derived.OpenShut
import Derived.ShutString
import Derived.ChangeOld
import Derived.Deep.DeepHandedRow
import Derived.Lib.LaidTab
import Derived.Stop.LaidErr
import Derived.Lay
namespace Go.Proofs.Ytckengglamkaaaa.sessReads
open Go.ChangeShapes Go.WideShapes Go.ChangeAt Go.RowKit
open Go.ChangeMaps (open_string shut_string)
set_option linter.unusedVariables false
set_option maxRecDepth 100000
theorem ids_eq {T : Int → Option Ss} {c : Nat} {zs ys : List Int} (h1 : IdsOf T c zs) (h2 : IdsOf T c ys) : zs = ys := by
  have n1 : zs.Nodup := h1.sorted.imp (by intro a b h; omega)
  have n2 : ys.Nodup := h2.sorted.imp (by intro a b h; omega)
  have hp : zs.Perm ys := (List.perm_ext_iff_of_nodup n1 n2).2 fun x => by rw [h1.mem, h2.mem]
  exact List.Perm.eq_of_pairwise (le := fun a b : Int => a < b) (fun a b _ _ h1 h2 => by omega) h1.sorted h2.sorted hp
set_option maxHeartbeats 4000000 in
theorem walk (a0 : ByteArray) (w : World) (w0 : a0.size ≤ maxLen) :
    Calls Try.prog 5 #[.string a0] w fun e w' => e = .returned (.bool true) ∧ Below w.heap.size w w' := by
  have HH := Lib.hid (head10_any w)
  unfold maxLen at w0
  by_cases hs : 2000 < a0.size
  · have d1 : decide ((2000 : Int) < (a0.size : Int)) = true := by simp; omega
    go_enter Try.func5, Try.ntmps5
    go_wp2_with fail
    refine HH.out.mono ?_
    rintro e w1 ⟨rfl, b1⟩
    go_wp2_with fail
    go_ret
    exact ⟨rfl, b1⟩
  have d1 : decide ((2000 : Int) < (a0.size : Int)) = false := by simp; omega
  have hs2 : a0.size ≤ 2000 := by omega
  clear hs w0
  go_enter Try.func5, Try.ntmps5
  go_wp2_with fail
  refine HH.out.mono ?_
  rintro e w1 ⟨rfl, b1⟩
  have HRD := Lib.hid (read_any a0 w1)
  clear HH
  go_wp2_with fail
  refine HRD.out.mono ?_
  rintro e w2 ⟨rfl, R2, b2, hsz2⟩
  have R2' : Rs w2 w1.heap.size (some a0.data.toList) := ⟨by rw [← mk_data]; exact R2, by rw [← Lib.size_eq]; omega⟩
  obtain ⟨rb, hrb⟩ : ∃ rb, rb = w1.heap.size := ⟨_, rfl⟩
  rw [← hrb] at R2' ⊢
  have hrw : w.heap.size ≤ rb := by rw [hrb]; exact b1.size
  have hbb := b1.trans (b2.mono b1.size)
  have HS := Lib.hid (sread_any rb a0.data.toList w2 R2')
  clear R2 R2' b2 HRD hrb hsz2 b1
  go_wp2_with fail
  refine HS.out.mono ?_
  rintro e w3 ⟨tb, mb, k, c, T, st, rfl, HR3, g3⟩
  have b3 : Below w.heap.size w w3 := hbb.grown g3 hbb.size (fun q hq => by cases hq; exact hrw)
  have HOK := Lib.hid (ok_rs rb st w3 HR3.reader)
  have HDN := Lib.hid (done_rs rb st w3 HR3.reader)
  have HR := Lib.hid HR3
  clear hbb HR3 g3 HS
  cases st with
  | none =>
    have hc0 := HR.out.bad rfl
    subst hc0
    have HAL := Lib.hid (all_any tb mb k 0 T w3 HR.out.table (by omega))
    go_wp2_with fail
    refine HOK.out.mono ?_
    rintro e w4 ⟨rfl, rfl⟩
    go_wp2_with fail
    refine HAL.out.mono ?_
    rintro e w5 ⟨v, zs, rfl, hI, hrow, b5⟩
    have hz0 := hI.len
    obtain ⟨va, vc, rfl, _⟩ := row_form hrow
    rw [hz0]
    clear hrow
    go_wp2_with fail
    go_ret
    exact ⟨rfl, b3.trans (b5.mono b3.size)⟩
  | some lr =>
    cases lr with
    | cons ch lr =>
      go_wp2_with fail
      refine HOK.out.mono ?_
      rintro e w4 ⟨rfl, rfl⟩
      go_wp2_with fail
      refine HDN.out.mono ?_
      rintro e w5 ⟨rfl, rfl⟩
      have hd : doneF (some (ch :: lr)) = 2 := rfl
      rw [hd]
      go_wp2_with fail
      go_ret
      exact ⟨rfl, b3⟩
    | nil =>
      have HLY := Lib.hid (lay_any tb mb k c T w3 HR.out.table (by have := HR.out.few; omega) (fun x s h => ⟨(HR.out.small x s h).1, by have := (HR.out.small x s h).2; omega⟩))
      go_wp2_with fail
      refine HOK.out.mono ?_
      rintro e w4 ⟨rfl, rfl⟩
      go_wp2_with fail
      refine HDN.out.mono ?_
      rintro e w5 ⟨rfl, rfl⟩
      have hd : doneF (some []) = 0 := rfl
      rw [hd]
      go_wp2_with fail
      refine HLY.out.mono ?_
      rintro e w6 ⟨v, zs, rfl, hI, hB, b6⟩
      obtain ⟨ys, hY, hE⟩ := HR.out.good [] rfl
      have hyz := ids_eq hY hI
      rw [hyz, List.append_nil] at hE
      have hstr := run_str hB.src
      obtain ⟨g, cv, rfl, _⟩ := hB.cut (by unfold layE; rw [List.length_append, numE_length]; omega)
      rw [← hE] at hstr
      have hsb : (⟨a0.data.toList.toArray⟩ : ByteArray) = a0 := (mk_data a0).symm
      rw [hsb] at hstr
      have hll : (layE T zs).length = a0.size := by rw [← hE, ← Lib.size_eq]
      rw [hll]
      rw [← Lib.size_eq] at hstr
      have ee : (a0.toList == a0.toList) = true := by simp
      clear hB hE hyz
      go_wp2_with fail
      go_ret
      exact ⟨by simp, b3.trans (b6.mono b3.size)⟩

theorem own : ownKnob Try.prog.godebug = none := by kernel_rfl
theorem laidOut : laidOutB Try.prog = true := by kernel_rfl

set_option maxRecDepth 100000 in
theorem lifted (os : Os) (started : os.Started) (H : Type) (enc : TypeId × Value → H) :
    ReturnsInHanded {} Try.checked os 5 .any (Rows.sessReadsSpec.pre6 enc Try.prog Try.f5 Rows.sessReadsRow.domain false) (Rows.sessReadsSpec.post enc Try.prog Try.f5 false true false false) := by
  refine returnsInHanded_of_change (C := Try.checked) own started (by kernel_rfl) Try.func5
    (ChangeSpec.witness6 (enc := enc) (C := Try.checked) false ⟨#[], #[.string ByteArray.empty], []⟩ 8 (by kernel_rfl) (by kernel_rfl) (by kernel_rfl) (by kernel_rfl)) ?_
  intro W base args ds gs before hval0 hW hcnd _
  have hval : ∀ (j : Nat) t v, Try.f5.params[j]? = some t → args[j]? = some v → Value.okWide Try.prog W .any base t v := hval0
  have hW' := hW
  obtain ⟨p, q, hA0, hV, rfl, hfz, hnd⟩ := hW
  have hA : DataW.TrodAll enc Try.prog W 0 (fun _ => true) true Try.f5.params.toList args.toList ds p := hA0
  rw [Try.params5] at hA hval
  obtain ⟨v0, vs0, d0, ds0, p0, q0, hargs, rfl, rfl, h0, r0⟩ := trodAll_cons hA
  obtain ⟨rfl, rfl, rfl⟩ := trodAll_nil r0
  obtain rfl : args = #[v0] := by cases args; simp_all
  obtain ⟨rfl, rfl⟩ := trodVars_none hV
  obtain ⟨a0, rfl, rfl, rfl, w0⟩ := open_string Try.underlying9 (hval 0 9 v0 rfl rfl) h0
  clear hA0 hval0
  refine (walk a0 W w0).mono fun e W' ⟨he, bel⟩ => ?_
  subst he
  exact ⟨_, rfl, _, _, _, [], _, [], hW', trodAll_mk1 (shut_bool Try.underlying4 _), (trodAll_cons_mk (shut_string Try.underlying9 w0) trodAll_mk0), rfl, bel.frame _, fun h => by cases h⟩

theorem over : Rows.sessReadsRow.holds Try.pinned (OpenSpec.ofChange Rows.sessReadsSpec) :=
  OpenClaim.holds_of_wide 5 Try.f5 rfl rfl rfl rfl rfl rfl rfl ⟨rfl, rfl, rfl, rfl, rfl⟩ rfl rfl rfl rfl rfl (by kernel_rfl) Try.func5 (by kernel_rfl)
    (of_decide_eq_true (by kernel_rfl)) (by unfold Func.isWrapper; first | (rw [if_pos (by decide +kernel)]; kernel_rfl) | (rw [if_neg (by decide +kernel)]; exact ⟨rfl, rfl⟩))
    (fun os started H enc _ => lifted os started H enc)

theorem proved : Rows.SessReadsSaid := over
end Go.Proofs.Ytckengglamkaaaa.sessReads
