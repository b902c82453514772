/- OpLong: commands as long as may be, and longer; no condition on the input. -/
import Derived.Test.YtkdbkbfloiponaaOpHead
import Derived.Test.YtkdbkbfloiponaaRows
import Derived.ProofKit
import Derived.OpenShut
import Derived.ShutString
import Derived.ChangeOld
import Derived.Deep.DeepHandedRow
import Derived.Lib.LaidTab
import Derived.Stop.LaidErr
import Derived.Lay
namespace Go.Proofs.Ytkdbkbfloiponaa.opLong
open Go.ChangeShapes Go.WideShapes Go.ChangeAt Go.RowKit
open Go.ChangeMaps (open_string shut_string)
set_option linter.unusedVariables false
set_option maxRecDepth 100000
theorem i64_and63 (n : Int) : bits .and .i64 n 63 = n % 64 := by
  have h127 : (BitVec.ofInt 64 63).toNat = 2 ^ 6 - 1 := by decide
  have key : (BitVec.ofInt 64 n &&& BitVec.ofInt 64 63).toNat = (n % ((2 ^ 64 : Nat) : Int)).toNat % 2 ^ 6 := by
    rw [BitVec.toNat_and, BitVec.toNat_ofInt, h127, Nat.and_two_pow_sub_one_eq_mod]
  show IntKind.i64.wrap ((BitVec.ofInt 64 n &&& BitVec.ofInt 64 63).toNat : Nat) = n % 64
  rw [key, IntKind.wrap_i64]
  omega
theorem flat_rep (o : Opr) (m : Nat) (h : (encO o).length = m) : ∀ j, ((List.replicate j o).flatMap encO).length = j * m
  | 0 => by simp
  | j + 1 => by rw [List.replicate_succ, List.flatMap_cons, List.length_append, flat_rep o m h j, h, Nat.succ_mul, Nat.add_comm]
theorem row_some {w : World} {base j : Nat} {v : Value} {xs : List Value} (h : w.ownsRow base 50 6 v (j + 1) xs) : ∃ g c, v = .slice (some ⟨g, 0, none⟩) (j + 1) c := by
  rcases h.2 with ⟨_, h2⟩ | ⟨g, c, cur, h1, _⟩
  · omega
  · exact ⟨g, c, h1⟩
theorem rep_snoc (o : Opr) (j : Nat) : List.replicate (j + 1) o = List.replicate j o ++ [o] := by
  rw [List.replicate_succ']
set_option maxHeartbeats 8000000 in
theorem walk (a0 a1 : Int) (w : World) (w0 : (Lit.int .i64 a0).wf = true) (w1 : (Lit.int .i64 a1).wf = true) :
    Calls Try.prog 6 #[.int .i64 a0, .int .i64 a1] w fun e w' => e = .returned (.bool true) ∧ Below w.heap.size w w' := by
  have HH := Lib.hid (head_any w)
  obtain ⟨i1, hi1, hz1, hz2, hz3⟩ := info_parts info_op
  obtain ⟨n, hn, hn1, hn2⟩ : ∃ n : Int, bits .and .i64 a0 63 = n ∧ 0 ≤ n ∧ n ≤ 63 := ⟨_, rfl, by rw [i64_and63]; omega, by rw [i64_and63]; omega⟩
  obtain ⟨m, hm, hm1, hm2⟩ : ∃ m : Int, bits .and .i64 a1 63 = m ∧ 0 ≤ m ∧ m ≤ 63 := ⟨_, rfl, by rw [i64_and63]; omega, by rw [i64_and63]; omega⟩
  clear w0 w1
  go_enter Try.func6, Try.ntmps6
  go_wp2_with fail
  refine HH.out.mono ?_
  rintro e w1 ⟨rfl, b1⟩
  clear HH
  go_wp2_with fail
  clear hn hm
  go_loopw [5] (fun pv wr => ∃ p : ByteArray, p.size ≤ 60 ∧ pv = .string p ∧ Below w.heap.size w wr) (fun pv _ => (min n 60).toNat - (match pv with | .string p => p.size | _ => 0))
  case atStart => exact ⟨_, by decide, rfl, b1⟩
  case round =>
    obtain ⟨p, hp, rfl, bk⟩ := hrel
    clear b1
    by_cases hlt : (p.size : Int) < min n 60
    · have d1 : decide ((p.size : Int) < min n 60) = true := by simpa using hlt
      have hm60 : min n 60 ≤ 60 := by omega
      go_wp2_with fail
      go_roundw
      case rel => exact ⟨_, by simp only [ByteArray.size_append]; show p.size + 1 ≤ 60; omega, rfl, bk⟩
      case measure => simp only [ByteArray.size_append]; show _ - (p.size + 1) < _ - p.size; omega
    · have d1 : decide ((p.size : Int) < min n 60) = false := by simpa using hlt
      go_wp2_with fail
      clear d1 hlt
      go_loopw [6] (fun pv wr => ∃ t : ByteArray, t.size ≤ 61 ∧ pv = .string t ∧ Below w.heap.size w wr) (fun pv _ => (min m 61).toNat - (match pv with | .string p => p.size | _ => 0))
      case atStart => exact ⟨_, by show 0 ≤ 61; decide, rfl, bk⟩
      case round =>
        obtain ⟨t, ht, rfl, bm⟩ := hrel
        clear bk
        by_cases hlt : (t.size : Int) < min m 61
        · have d1 : decide ((t.size : Int) < min m 61) = true := by simpa using hlt
          have hm60 : min m 61 ≤ 61 := by omega
          go_wp2_with fail
          go_roundw
          case rel => exact ⟨_, by simp only [ByteArray.size_append]; show t.size + 1 ≤ 61; omega, rfl, bm⟩
          case measure => simp only [ByteArray.size_append]; show _ - (t.size + 1) < _ - t.size; omega
        · have d1 : decide ((t.size : Int) < min m 61) = false := by simpa using hlt
          obtain ⟨o, ho⟩ : ∃ o : Opr, o = ⟨2, p, t, 0, false, false⟩ := ⟨_, rfl⟩
          have hoO : o.Ok := by rw [ho]; exact ⟨by unfold InR; simp only; omega, by show p.size ≤ maxLen; unfold maxLen; omega, by show t.size ≤ maxLen; unfold maxLen; omega, by unfold InR; simp only; omega⟩
          have hro : rightO o = true := by rw [ho]; unfold rightO; simp; omega
          have HOL : Hid ((encO o).length = 18 + p.size + t.size) := Lib.hid (by rw [encO_len2 o (by rw [ho]; show p.size ≤ _; omega) (by rw [ho]; show t.size ≤ _; omega), ho])
          have HOA : Hid (opA o = #[.int .i64 2, .string p, .string t, .int .i64 0, .bool false, .bool false]) := Lib.hid (by rw [ho]; rfl)
          have HOO := Lib.hid hoO
          have HRO := Lib.hid hro
          have HMD := Lib.hid (made_nil 1 1 wr)
          have HCM : Hid (∀ v L, cmA v (madeC 1 1 L) = #[.int .i64 3, .int .i64 1, .int .i64 1, .int .i64 0, v, .string ⟨#[]⟩, .bool false, .bool false]) := Lib.hid (fun v L => rfl)
          have HCV : Hid (∀ v L, cmV v (madeC 1 1 L) = .agg #[.int .i64 3, .int .i64 1, .int .i64 1, .int .i64 0, v, .string ⟨#[]⟩, .bool false, .bool false]) := Lib.hid (fun v L => rfl)
          clear ho hoO hro hlt
          go_wp2_with fail
          refine HMD.out.mono ?_
          rintro e w2 ⟨rfl, b2⟩
          have bn := bm.trans (b2.mono bm.size)
          have bB := (Below.refl _ w2).alloc (Nat.le_refl _) (.cells (cmA (.slice none 0 0) (madeC 1 1 [])) 26)
          have K3 := CmB.new w2 (.slice none 0 0) (madeC 1 1 [])
          have bC := bn.trans (bB.mono bn.size)
          rw [HCV.out]
          have hbn := bn.size
          clear HMD b2 bB bn bm d1
          go_upto_region 12 with fail
          obtain ⟨w3, hw3⟩ : ∃ w3, w3 = w2.alloc (.cells (cmA (.slice none 0 0) (madeC 1 1 [])) 26) := ⟨_, rfl⟩
          have hw3' := hw3
          rw [HCM.out] at hw3'
          rw [← hw3] at K3 bC
          rw [← hw3']
          obtain ⟨cb, hcb⟩ : ∃ cb, cb = w2.heap.size := ⟨_, rfl⟩
          rw [← hcb] at K3 ⊢
          have hcbw : w.heap.size ≤ cb := by rw [hcb]; exact hbn
          have hcb3 : cb < w3.heap.size := K3.lt
          clear hw3 hw3' hcb hbn
          go_wp2_with fail
          go_loopw [8] (fun iv wr => ∃ (j : Nat) (a : Option Addr) (c : Nat), j ≤ 4 ∧ iv = .int .i64 j ∧ CmB wr cb (.slice a j c) (madeC 1 1 (List.replicate j o)) ∧ ORow wr (cb + 1) (.slice a j c) (List.replicate j o) ∧ Below w.heap.size w wr ∧ cb + 1 ≤ wr.heap.size) (fun iv _ => 4 - (intOf iv).toNat)
          case atStart => exact ⟨0, none, 0, by decide, rfl, K3, ORow.nil _ _, bC, hcb3⟩
          case round =>
            obtain ⟨j, a, cap, hj, rfl, hK, hO, hb, hlo⟩ := hrel
            clear K3 bC
            by_cases hlt : j < 4
            · have t2 : IntKind.i64.wrap ((j : Int) + 1) = (j : Int) + 1 := IntWalk.i64_in _ (by omega)
              have hlt2 : decide ((j : Int) < 4) = true := by simp; omega
              obtain ⟨⟨c0, c1, c2, c3, c4, c5, c6, c7⟩, _⟩ := hK.cells
              have bN := (Below.refl _ wr).alloc (Nat.le_refl _) (.cells (opA o) 50)
              have N1 := OpB.new wr o
              have K1 := hK.below bN
              have O1 := hO.below bN
              have bD := hb.trans (bN.mono hb.size)
              have hl1 : cb + 1 ≤ (wr.alloc (.cells (opA o) 50)).heap.size := Nat.le_trans hlo bN.size
              obtain ⟨w4, hw4⟩ : ∃ w4, w4 = wr.alloc (.cells (opA o) 50) := ⟨_, rfl⟩
              have hw4' := hw4
              rw [HOA.out] at hw4'
              rw [← hw4] at N1 K1 O1 bD hl1
              have HO1 : Hid (w4.ownsRow (cb + 1) 50 6 (.slice a j cap) j (cellsK opOne (List.replicate j o))) := Lib.hid (by unfold ORow at O1; rw [List.length_replicate] at O1; exact O1)
              have HN1 : Hid (∀ q u, (cellsK opOne [o])[q]? = some u → w4.cell? ((⟨wr.heap.size, 0, none⟩ : Addr).add q) = some u) := Lib.hid (fun q u hq => by
                obtain ⟨z0, z1, z2, z3, z4, z5⟩ := N1.cells.1
                match q, hq with
                | 0, hq => cases hq; exact z0
                | 1, hq => cases hq; exact z1
                | 2, hq => cases hq; exact z2
                | 3, hq => cases hq; exact z3
                | 4, hq => cases hq; exact z4
                | 5, hq => cases hq; exact z5)
              have HK1 := Lib.hid K1
              have HB1 := Lib.hid bD
              have HW4 := Lib.hid hw4'
              have HON : Hid (∀ g, Value.ownBlock (.slice a j cap) = some g → cb + 1 ≤ g) := Lib.hid (fun g hg => (hO.own hg).1)
              clear hK hO hb hlo bN N1 K1 O1 bD hw4 hw4'
              go_upto_region 15 with fail
              go_wp2_with (at_builtin; rw [← HW4.out]; refine wpList_append_own _ rfl _ _ _ rfl (cb + 1) 50 i1 _ 6 56 und_ops hi1 hz1 hz2 hz3 rfl (by decide) (.slice a j cap) j (cellsK opOne (List.replicate j o)) rfl HO1.out ⟨wr.heap.size, 0, none⟩ 1 1 (cellsK opOne [o]) rfl rfl HN1.out (cellsK_one opOne_one _) (by unfold maxLen; omega) (by omega) hl1 ?_; intro v8 w8 hown8 hgrow8 hiff8; obtain ⟨g8, c8, hv8⟩ := row_some hown8; subst hv8; have K8 := HK1.out.kept hgrow8 (fun e => by have := HON.out _ e.symm; omega); have hc8 := K8.cells.1.2.2.2.2.1; have hf8 := K8.cells.2.2.2.2.2.1; go_frame)
              have HOW : Hid (ORow w8 (cb + 1) (.slice (some ⟨g8, 0, none⟩) (j + 1) c8) (List.replicate (j + 1) o)) := Lib.hid (by unfold ORow; rw [List.length_replicate, rep_snoc, cellsK_append]; exact hown8)
              have B8 := HB1.out.grown hgrow8 HB1.out.size (fun q hq => by have := HON.out q hq; omega)
              have HK9 : Hid (CmB (w8.setCell ⟨cb, 4, none⟩ (.slice (some ⟨g8, 0, none⟩) (j + 1) c8)) cb (.slice (some ⟨g8, 0, none⟩) (j + 1) c8) (madeC 1 1 (List.replicate (j + 1) o))) := Lib.hid (K8.put4 _)
              have HO9 : Hid (ORow (w8.setCell ⟨cb, 4, none⟩ (.slice (some ⟨g8, 0, none⟩) (j + 1) c8)) (cb + 1) (.slice (some ⟨g8, 0, none⟩) (j + 1) c8) (List.replicate (j + 1) o)) := Lib.hid (HOW.out.set (by omega))
              have HB9 := Lib.hid (B8.setCell (p := ⟨cb, 4, none⟩) hcbw (.slice (some ⟨g8, 0, none⟩) (j + 1) c8))
              have HL9 : Hid (cb + 1 ≤ (w8.setCell ⟨cb, 4, none⟩ (.slice (some ⟨g8, 0, none⟩) (j + 1) c8)).heap.size) := Lib.hid (by have := Nat.le_trans hl1 hgrow8.size; simpa [World.setCell] using this)
              go_roundw
              case rel => exact ⟨j + 1, _, c8, by omega, by go_num, HK9.out, HO9.out, HB9.out, HL9.out⟩
              case measure => simp [intOf]; omega
            · obtain rfl : j = 4 := by omega
              have hlt2 : decide ((4 : Int) < 4) = false := by decide
              have hrc : rightC (madeC 1 1 (List.replicate 4 o)) = true := by
                have h1 : (List.replicate 4 o).all rightO = true := List.all_eq_true.2 fun x hx => by rw [List.eq_of_mem_replicate hx]; exact HRO.out
                unfold rightC rightN lowB highB rightT madeC
                simp only [h1, List.length_replicate]
                rfl
              have hel : (encC (madeC 1 1 (List.replicate 4 o))).length = 34 + 4 * (18 + p.size + t.size) := by
                have e1 := textsE_len3 (madeC 1 1 (List.replicate 4 o)).path (by show 0 ≤ 65535; decide)
                have e2 := flat_rep o _ HOL.out 4
                have e3 : (madeC 1 1 (List.replicate 4 o)).path.size = 0 := rfl
                have e4 : (madeC 1 1 (List.replicate 4 o)).ops = List.replicate 4 o := rfl
                unfold encC headE
                rw [List.length_append, List.length_append, List.length_append, flagsE_length, e1, numsE_length, e4, e2]
                simp only [List.length_cons, List.length_nil]; omega
              have R4 : OpsR wr (.slice a 4 cap) (List.replicate 4 o) := hO.opsR (by rw [List.length_replicate]; decide) (fun x hx => by rw [List.eq_of_mem_replicate hx]; exact HOO.out)
              have hcO : (madeC 1 1 (List.replicate 4 o)).Ok := (rightC_ok hrc).1
              have HBY := Lib.hid (bytes_any (.slice a 4 cap) (madeC 1 1 (List.replicate 4 o)) wr ⟨hcO, _, rfl, R4⟩)
              rw [HCV.out] at HBY
              obtain ⟨⟨c0, c1, c2, c3, c4, c5, c6, c7⟩, _⟩ := hK.cells
              simp only [madeC] at c0 c1 c2 c3 c5 c6 c7
              have q1 : IntKind.i64.wrap (14 + (p.size : Int)) = 14 + (p.size : Int) := IntWalk.i64_in _ (by omega)
              have q2 : IntKind.i64.wrap (14 + (p.size : Int) + 2) = 14 + (p.size : Int) + 2 := IntWalk.i64_in _ (by omega)
              have q3 : IntKind.i64.wrap (14 + (p.size : Int) + 2 + (t.size : Int)) = 14 + (p.size : Int) + 2 + (t.size : Int) := IntWalk.i64_in _ (by omega)
              have q4 : IntKind.i64.wrap (14 + (p.size : Int) + 2 + (t.size : Int) + 2) = 14 + (p.size : Int) + 2 + (t.size : Int) + 2 := IntWalk.i64_in _ (by omega)
              have q5 : IntKind.i64.wrap (4 * (14 + (p.size : Int) + 2 + (t.size : Int) + 2)) = 4 * (14 + (p.size : Int) + 2 + (t.size : Int) + 2) := IntWalk.i64_in _ (by omega)
              have q6 : IntKind.i64.wrap (30 + 4 * (14 + (p.size : Int) + 2 + (t.size : Int) + 2)) = 30 + 4 * (14 + (p.size : Int) + 2 + (t.size : Int) + 2) := IntWalk.i64_in _ (by omega)
              have q7 : IntKind.i64.wrap (30 + 4 * (14 + (p.size : Int) + 2 + (t.size : Int) + 2) + 2) = 30 + 4 * (14 + (p.size : Int) + 2 + (t.size : Int) + 2) + 2 := IntWalk.i64_in _ (by omega)
              have q8 : IntKind.i64.wrap (30 + 4 * (14 + (p.size : Int) + 2 + (t.size : Int) + 2) + 2 + 2) = 30 + 4 * (14 + (p.size : Int) + 2 + (t.size : Int) + 2) + 2 + 2 := IntWalk.i64_in _ (by omega)
              by_cases h488 : 488 < (encC (madeC 1 1 (List.replicate 4 o))).length
              · have hby : bytesC (madeC 1 1 (List.replicate 4 o)) = (⟨#[]⟩, 3) := by unfold bytesC; rw [if_pos hrc, if_pos h488]
                rw [hby] at HBY
                simp only at HBY
                have g1 : decide ((488 : Int) < 30 + 4 * (14 + (p.size : Int) + 2 + (t.size : Int) + 2) + 2 + 2) = true := by simp; omega
                clear hK hO hlo hrc hel R4 hcO hby h488
                go_wp2_with fail
                refine HBY.out.mono ?_
                rintro e w4 ⟨rfl, b4⟩
                go_wp2_with fail
                go_ret
                exact ⟨rfl, hb.trans (b4.mono hb.size)⟩
              · obtain ⟨S, hS⟩ : ∃ S : ByteArray, S = ⟨(encC (madeC 1 1 (List.replicate 4 o))).toArray⟩ := ⟨_, rfl⟩
                have hby : bytesC (madeC 1 1 (List.replicate 4 o)) = (S, 0) := by unfold bytesC; rw [if_pos hrc, if_neg h488, hS]
                have hSs : (S.size : Int) = 30 + 4 * (14 + (p.size : Int) + 2 + (t.size : Int) + 2) + 2 + 2 := by rw [hS, size_arr, hel]; omega
                have HSS := Lib.hid hSs
                have hSb : S.size ≤ 488 := by rw [hS, size_arr]; omega
                rw [hby] at HBY
                simp only at HBY
                have g1 : decide ((488 : Int) < 30 + 4 * (14 + (p.size : Int) + 2 + (t.size : Int) + 2) + 2 + 2) = false := by simp; omega
                have g2 : ((S.size : Int) == 30 + 4 * (14 + (p.size : Int) + 2 + (t.size : Int) + 2) + 2 + 2) = true := by simpa using hSs
                clear hK hO hlo hrc hel R4 hcO hby h488 hSs hS
                go_wp2_with fail
                refine HBY.out.mono ?_
                rintro e w4 ⟨rfl, b4⟩
                go_wp2_with fail
                go_ret
                exact ⟨rfl, hb.trans (b4.mono hb.size)⟩

theorem own : ownKnob Try.prog.godebug = none := by kernel_rfl
theorem laidOut : laidOutB Try.prog = true := by kernel_rfl

set_option maxRecDepth 100000 in
theorem lifted (os : Os) (started : os.Started) (H : Type) (enc : TypeId × Value → H) :
    ReturnsInHanded {} Try.checked os 6 .any (Rows.opLongSpec.pre6 enc Try.prog Try.f6 Rows.opLongRow.domain false) (Rows.opLongSpec.post enc Try.prog Try.f6 false true false false) := by
  refine returnsInHanded_of_change (C := Try.checked) own started (by kernel_rfl) Try.func6
    (ChangeSpec.witness6 (enc := enc) (C := Try.checked) false ⟨#[], #[.int .i64 0, .int .i64 0], []⟩ 8 (by kernel_rfl) (by kernel_rfl) (by kernel_rfl) (by kernel_rfl)) ?_
  intro W base args ds gs before hval0 hW hcnd _
  have hval : ∀ (j : Nat) t v, Try.f6.params[j]? = some t → args[j]? = some v → Value.okWide Try.prog W .any base t v := hval0
  have hW' := hW
  obtain ⟨p, q, hA0, hV, rfl, hfz, hnd⟩ := hW
  have hA : DataW.TrodAll enc Try.prog W 0 (fun _ => true) true Try.f6.params.toList args.toList ds p := hA0
  rw [Try.params6] at hA hval
  obtain ⟨v0, vs0, d0, ds0, p0, q0, hargs, rfl, rfl, h0, r0⟩ := trodAll_cons hA
  obtain ⟨v1, vs1, d1, ds1, p1, q1, rfl, rfl, rfl, h1, r1⟩ := trodAll_cons r0
  obtain ⟨rfl, rfl, rfl⟩ := trodAll_nil r1
  obtain rfl : args = #[v0, v1] := by cases args; simp_all
  obtain ⟨rfl, rfl⟩ := trodVars_none hV
  obtain ⟨a0, rfl, rfl, rfl, w0⟩ := open_int Try.underlying3 (hval 0 3 v0 rfl rfl) h0
  obtain ⟨a1, rfl, rfl, rfl, w1⟩ := open_int Try.underlying3 (hval 1 3 v1 rfl rfl) h1
  clear hA0 hval0
  refine (walk a0 a1 W w0 w1).mono fun e W' ⟨he, bel⟩ => ?_
  subst he
  exact ⟨_, rfl, _, _, _, [], _, [], hW', trodAll_mk1 (shut_bool Try.underlying4 _), (trodAll_cons_mk (shut_int Try.underlying3 w0) (trodAll_cons_mk (shut_int Try.underlying3 w1) trodAll_mk0)), rfl, bel.frame _, fun h => by cases h⟩

theorem over : Rows.opLongRow.holds Try.pinned (OpenSpec.ofChange Rows.opLongSpec) :=
  OpenClaim.holds_of_wide 6 Try.f6 rfl rfl rfl rfl rfl rfl rfl ⟨rfl, rfl, rfl, rfl, rfl⟩ rfl rfl rfl rfl rfl (by kernel_rfl) Try.func6 (by kernel_rfl)
    (of_decide_eq_true (by kernel_rfl)) (by unfold Func.isWrapper; first | (rw [if_pos (by decide +kernel)]; kernel_rfl) | (rw [if_neg (by decide +kernel)]; exact ⟨rfl, rfl⟩))
    (fun os started H enc _ => lifted os started H enc)

theorem proved : Rows.OpLongSaid := over
end Go.Proofs.Ytkdbkbfloiponaa.opLong
