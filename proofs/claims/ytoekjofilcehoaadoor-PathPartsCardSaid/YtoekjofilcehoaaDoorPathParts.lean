/- PathParts: which byte may stand in a part, and how long a part may be; no condition on the input (the listed tables lie as the program's text lays them). -/
import Derived.Test.YtoekjofilcehoaaDoorPathMath2
import Derived.Test.YtoekjofilcehoaaDoorCards
import Derived.Test.YtoekjofilcehoaaDoorTie
import Derived.ProofKit
import Derived.OpenShut
import Derived.ShutString
import Derived.ChangeOld
import Derived.Deep.DeepHandedRow
import Derived.Lib.LaidTab
import Derived.Stop.LaidErr
import Derived.Lay
namespace Go.Proofs.YtoekjofilcehoaaDoor.pathParts
open Go.ChangeShapes Go.WideShapes Go.ChangeAt Go.RowKit
open Go.ChangeMaps (open_string shut_string)
set_option linter.unusedVariables false
set_option maxRecDepth 100000
theorem i64_and31 (n : Int) : bits .and .i64 n 31 = n % 32 := by
  have h127 : (BitVec.ofInt 64 31).toNat = 2 ^ 5 - 1 := by decide
  have key : (BitVec.ofInt 64 n &&& BitVec.ofInt 64 31).toNat = (n % ((2 ^ 64 : Nat) : Int)).toNat % 2 ^ 5 := by
    rw [BitVec.toNat_and, BitVec.toNat_ofInt, h127, Nat.and_two_pow_sub_one_eq_mod]
  show IntKind.i64.wrap ((BitVec.ofInt 64 n &&& BitVec.ofInt 64 31).toNat : Nat) = n % 32
  rw [key, IntKind.wrap_i64]
  omega
theorem part_rep (m : Nat) : partL (List.replicate m 98) = (decide (1 ≤ m) && decide (m ≤ 20)) := by
  unfold partL
  have h : (List.replicate m (98 : UInt8)).all okU = true := by
    rw [List.all_eq_true]; intro x hx; rw [List.eq_of_mem_replicate hx]; decide
  rw [h, List.length_replicate]; simp
theorem part_one (c : UInt8) : partL [c] = okU c := by unfold partL; simp
theorem parts_one (c : UInt8) : partsE [c] = if okU c then 0 else 10 := by
  unfold partsE
  by_cases h : c = 47
  · subst h; decide
  · rw [pieces_none [c] (by simpa using Ne.symm h)]; simp [part_one]
theorem parts_x (l : List UInt8) (h : (47 : UInt8) ∉ l) : partsE (120 :: 47 :: l) = if partL l then 0 else 10 := by
  unfold partsE
  have := pieces_app [120] l (by decide)
  simp at this
  rw [this, pieces_none l h]
  have e : partL [120] = true := by decide
  simp [e]
theorem checkE_slash (l : List UInt8) (h1 : l ≠ []) (h2 : l.length ≤ 59) : checkE (47 :: l) = partsE l := by
  unfold checkE partsE; rw [checkL_on (by simpa using h1) (by simpa using h2)]
set_option maxHeartbeats 4000000 in
theorem walk (a0 : Int) (a1 : Int) (w : World) (w0 : (Lit.int .u8 a0).wf = true) (w1 : (Lit.int .i64 a1).wf = true) :
    Calls Tryd.prog 7 #[.int .u8 a0, .int .i64 a1] w fun e w' => e = .returned (.bool true) ∧ Below w.heap.size w w' := by
  have HH := Lib.hid (head8_any w)
  have hc0 : 0 ≤ a0 ∧ a0 ≤ 255 := by simp [Lit.wf, IntKind.min, IntKind.max, IntKind.signed, IntKind.bits] at w0; omega
  clear w0 w1
  obtain ⟨c, hc⟩ : ∃ c : UInt8, a0 = (c.toNat : Int) := ⟨UInt8.ofNat a0.toNat, by simp; omega⟩
  obtain ⟨m, hm32, hm⟩ : ∃ m : Nat, m < 32 ∧ bits .and .i64 a1 31 = (m : Int) := ⟨(a1 % 32).toNat, by omega, by rw [i64_and31]; omega⟩
  subst hc
  obtain ⟨B, hB⟩ : ∃ B, B = okI (c.toNat : Int) := ⟨_, rfl⟩
  have HB := Lib.hid hB
  obtain ⟨M, hM⟩ : ∃ M, M = (decide (1 ≤ m) && decide (m ≤ 20)) := ⟨_, rfl⟩
  have HM := Lib.hid hM
  have M1 : (decide ((1 : Int) ≤ (m : Int)) && decide ((m : Int) ≤ 20)) = M := by rw [hM, Bool.eq_iff_iff]; simp; omega
  have HP1 : Hid (partL [c] = B) := Lib.hid (by rw [part_one, hB]; rfl)
  have HP2 : Hid (checkE [47, c] = if B then 0 else 10) := Lib.hid (by rw [checkE_slash [c] (by simp) (by simp), parts_one, hB]; rfl)
  have hno : (47 : UInt8) ∉ List.replicate m (98 : UInt8) := by intro h; have := List.eq_of_mem_replicate h; exact absurd this (by decide)
  have HP3 : Hid (partL (List.replicate m 98) = M) := Lib.hid (by rw [part_rep, hM])
  have HP4 : Hid (checkE (47 :: 120 :: 47 :: List.replicate m 98) = if M then 0 else 10) := Lib.hid (by rw [checkE_slash _ (by simp) (by simp; omega), parts_x _ hno, part_rep, hM])
  clear hB hM hno
  go_enter Tryd.func7, Tryd.ntmps7
  go_wp2_with fail
  refine HH.out.mono ?_
  rintro e w1 ⟨rfl, b1⟩
  have hcv : (convert 40 9 (.slice (some ⟨w1.heap.size, 0, none⟩) 1 1)).run Tryd.prog (w1.alloc (.cells #[.int .u8 (c.toNat : Int)] 5)) = _ := run_convert_bytes_back (P := Tryd.prog) (w1.alloc (.cells #[.int .u8 (c.toNat : Int)] 5)) 40 9 5 ⟨w1.heap.size, 0, none⟩ 1 [c] (by kernel_rfl) (by kernel_rfl) (by kernel_rfl) (fun j hj => by
    obtain rfl : j = 0 := by simpa using hj
    simp [Addr.add])
  go_upto_region 4 with fail
  have b2 := b1.alloc b1.size (.cells #[.int .u8 (c.toNat : Int)] 5)
  clear hcv
  obtain ⟨w2, hw2⟩ : ∃ w2, w2 = w1.alloc (.cells #[.int .u8 (c.toNat : Int)] 5) := ⟨_, rfl⟩
  rw [← hw2] at b2 ⊢
  clear hw2 b1
  go_cut [6] (fun q wx => q = .bool B ∧ wx = w2)
  case first =>
    go_wp2_with fail
    all_goals
      go_meet
      exact ⟨by rw [HB.out]; congr 1; rw [Bool.eq_iff_iff]; unfold okI; simp; try omega, rfl⟩
  case rest =>
    obtain ⟨rfl, rfl⟩ := hcut
    clear HB HM
    have sz1 : (⟨#[c]⟩ : ByteArray).size = 1 := rfl
    go_wp2_with fail
    go_loop [7, 8] (fun lv iv => ∃ k : Nat, k ≤ m ∧ iv = .int .i64 k ∧ lv = .string (bs (List.replicate k 98))) (fun _ iv => m - (intOf iv).toNat)
    case atStart => exact ⟨0, Nat.zero_le _, rfl, rfl⟩
    case round =>
      obtain ⟨k, hk, rfl, rfl⟩ := hrel
      have hsz : (bs (List.replicate k 98)).size = k := by rw [bs_size]; simp
      by_cases hlt : k < m
      · have hlt2 : decide ((k : Int) < (m : Int)) = true := by simp; omega
        go_wp2_with fail
        go_round
        case rel => exact ⟨k + 1, by omega, by go_num, by rw [app_bs, bs_list]; simp [List.replicate_succ']⟩
        case measure => simp [intOf]; omega
      · obtain rfl : k = m := by omega
        have hlt2 : decide ((k : Int) < (k : Int)) = false := by simp
        obtain ⟨x, hx⟩ : ∃ x, x = bs (List.replicate k 98) := ⟨_, rfl⟩
        have HX := Lib.hid hx
        rw [← hx] at hsz ⊢
        clear hx hlt
        have E2 : Hid ((⟨#[47]⟩ : ByteArray) ++ ⟨#[c]⟩ = bs [47, c]) := Lib.hid rfl
        have E4 : Hid ((⟨#[47, 120, 47]⟩ : ByteArray) ++ x = bs (47 :: 120 :: 47 :: List.replicate k 98)) := Lib.hid (by rw [HX.out, app_bs, bs_list]; rfl)
        have P1 : Hid (∀ W : World, Calls Tryd.prog 12 #[.string ⟨#[c]⟩] W fun e w' => e = .returned (.bool B) ∧ w' = W) := Lib.hid (fun W => by have := part_any ⟨#[c]⟩ W; rw [show (⟨#[c]⟩ : ByteArray).data.toList = [c] from rfl, HP1.out] at this; exact this)
        have P3 : Hid (∀ W : World, Calls Tryd.prog 12 #[.string x] W fun e w' => e = .returned (.bool M) ∧ w' = W) := Lib.hid (fun W => by have := part_any x W; rw [HX.out, bs_list, HP3.out] at this; rw [HX.out]; exact this)
        have P2 := Lib.hid (fun W : World => check_any (bs [47, c]) W)
        have P4 := Lib.hid (fun W : World => check_any (bs (47 :: 120 :: 47 :: List.replicate k 98)) W)
        clear hsz
        have hsz : x.size ≤ 31 := by rw [HX.out, bs_size]; simp; omega
        go_wp2_with fail
        refine (P1.out _).mono ?_
        rintro e w3 ⟨rfl, rfl⟩
        go_wp2_with fail
        rw [E2.out]
        refine (P2.out _).mono ?_
        rintro e w4 ⟨rfl, b4⟩
        rw [bs_list, HP2.out]
        replace b4 := b2.trans (b4.mono b2.size)
        have hcase : (decide ((1 : Int) ≤ (k : Int)) = false ∧ M = false) ∨ (decide ((1 : Int) ≤ (k : Int)) = true ∧ decide ((k : Int) ≤ 20) = true ∧ M = true) ∨ (decide ((1 : Int) ≤ (k : Int)) = true ∧ decide ((k : Int) ≤ 20) = false ∧ M = false) := by
          rw [← M1]
          by_cases q1 : (1 : Int) ≤ (k : Int)
          · by_cases q2 : (k : Int) ≤ 20
            · exact .inr (.inl ⟨by simpa using q1, by simpa using q2, by simp [q2]; omega⟩)
            · exact .inr (.inr ⟨by simpa using q1, by simpa using q2, by simp [q2]⟩)
          · exact .inl ⟨by simpa using q1, by simp; omega⟩
        clear M1
        rcases hcase with ⟨k1, rfl⟩ | ⟨k1, k2, rfl⟩ | ⟨k1, k2, rfl⟩
        all_goals
          cases B
          all_goals
            simp only [Bool.false_eq_true, ↓reduceIte]
            go_wp2_with fail
            refine (P3.out _).mono ?_
            rintro e w5 ⟨rfl, rfl⟩
            go_wp2_with fail
            rw [E4.out]
            refine (P4.out _).mono ?_
            rintro e w6 ⟨rfl, b6⟩
            rw [bs_list, HP4.out]
            simp only [Bool.false_eq_true, ↓reduceIte]
            go_wp2_with fail
            go_ret
            exact ⟨rfl, b4.trans (b6.mono b4.size)⟩

theorem own : ownKnob Tryd.prog.godebug = none := by kernel_rfl
theorem laidOut : laidOutB Tryd.prog = true := by kernel_rfl

theorem contract (H : Type) (enc : TypeId × Value → H) (W : World) (base : Nat) (args : Array Value) (ds gs : List (DataW H)) (before : List MemPlace)
    (hval : ∀ (j : Nat) t v, Tryd.f7.params[j]? = some t → args[j]? = some v → Value.okWide Tryd.prog W .any base t v)
    (hW : DataW.Whole enc Tryd.prog Tryd.f7.params.toList Rows.pathPartsSpec.vars false W args.toList ds gs before) (hL : laidMetH Tryd.prog Rows.pathPartsRow.laid W) :
    Calls Tryd.prog 7 args W fun e W' => ∃ v, e = .returned v ∧ Rows.pathPartsSpec.post enc Tryd.prog Tryd.f7 false true false false W args v W' := by
  have hW' := hW
  obtain ⟨p, q, hA0, hV, rfl, hfz, hnd⟩ := hW
  have hA : DataW.TrodAll enc Tryd.prog W 0 (fun _ => true) true Tryd.f7.params.toList args.toList ds p := hA0
  rw [Tryd.params7] at hA hval
  obtain ⟨v0, vs0, d0, ds0, p0, q0, hargs, rfl, rfl, h0, r0⟩ := trodAll_cons hA
  obtain ⟨v1, vs1, d1, ds1, p1, q1, rfl, rfl, rfl, h1, r1⟩ := trodAll_cons r0
  obtain ⟨rfl, rfl, rfl⟩ := trodAll_nil r1
  obtain rfl : args = #[v0, v1] := by cases args; simp_all
  obtain ⟨rfl, rfl⟩ := trodVars_none hV
  obtain ⟨a0, rfl, rfl, rfl, w0⟩ := open_int Tryd.underlying5 (hval 0 5 v0 rfl rfl) h0
  obtain ⟨a1, rfl, rfl, rfl, w1⟩ := open_int Tryd.underlying3 (hval 1 3 v1 rfl rfl) h1
  clear hA0
  refine (walk a0 a1 W w0 w1).mono fun e W' ⟨he, bel⟩ => ?_
  subst he
  exact ⟨_, rfl, _, _, _, [], _, [], hW', trodAll_mk1 (shut_bool Tryd.underlying4 _), (trodAll_cons_mk (shut_int Tryd.underlying5 w0) (trodAll_cons_mk (shut_int Tryd.underlying3 w1) trodAll_mk0)), rfl, bel.frame _, fun h => by cases h⟩

theorem laid_met (os : Os) : laidMet Tryd.prog Rows.pathPartsRow.laid ((World.laidAll Tryd.prog os Rows.pathPartsRow.laid).forCall (fun _ _ => 0) ⟨#[], #[.int .u8 0, .int .i64 0], []⟩).memory :=
  laidMet_laidAll _ (by kernel_rfl) (by kernel_rfl)
theorem reads (os : Os) {H : Type} (enc : TypeId × Value → H) : ∃ places, DataW.whole enc Tryd.prog ((World.laidAll Tryd.prog os Rows.pathPartsRow.laid).forCall (fun _ _ => 0) ⟨#[], #[.int .u8 0, .int .i64 0], []⟩).memory Tryd.f7.params.toList Rows.pathPartsSpec.vars false #[Value.int .u8 0, Value.int .i64 0].toList 8 = some ([.lit (.int .u8 0), .lit (.int .i64 0)], [], places) :=
  ⟨[], by kernel_rfl⟩

set_option maxRecDepth 100000 in
theorem lifted (os : Os) (started : os.Started) (H : Type) (enc : TypeId × Value → H) (F : Stop.Interp) :
    ReturnsInHanded {} Tryd.checked os 7 .any ((OpenSpec.ofChange Rows.pathPartsSpec).preRow enc Tryd.prog Tryd.f7 Rows.pathPartsRow.domain false Rows.pathPartsRow.laid) (((OpenSpec.ofChange Rows.pathPartsSpec).at F).post enc Tryd.prog Tryd.f7 false true false false) := by
  obtain ⟨places, hx⟩ := reads os enc
  refine returnsInHanded_of_row (C := Tryd.checked) (s := OpenSpec.ofChange Rows.pathPartsSpec) own started (by kernel_rfl) Tryd.func7
    (witness_zip (enc := enc) (C := Tryd.checked) false (World.laidAll Tryd.prog os Rows.pathPartsRow.laid) #[.int .u8 0, .int .i64 0] (World.laidAll_os _ _ _) (World.shaped_of_ZipB (by kernel_rfl) (by kernel_rfl)) (by kernel_rfl)
      (OpenSpec.preRow_of_cond 8 hx (by kernel_rfl) (fun k hk => by cases hk) (by kernel_rfl) (laid_met os))) ?_
  intro W base args ds gs before hval hW _ _ _ hL _ _
  exact contract H enc W base args ds gs before hval hW hL

theorem said : Rows.PathPartsSaid :=
  OpenClaim.holds_of_cond 7 Tryd.f7 rfl rfl rfl rfl rfl rfl rfl ⟨rfl, rfl, rfl, rfl, rfl⟩ rfl rfl rfl rfl rfl (by kernel_rfl) Tryd.func7 (by kernel_rfl)
    (of_decide_eq_true (by kernel_rfl)) (by unfold Func.isWrapper; first | (rw [if_pos (by decide +kernel)]; kernel_rfl) | (rw [if_neg (by decide +kernel)]; exact ⟨rfl, rfl⟩))
    (fun os started H enc _ F => by rw [OpenClaim.pre_eq_preRow]; exact lifted os started H enc F)

theorem plain (f : FuncId) (fn : Func) (hf : Tryd.pinned.checked.prog.funcNamed "orchard/orchardlaw08.PathParts" = some f) (hfn : Tryd.pinned.checked.prog.funcs[f]? = some fn) :
    true = Tryd.pinned.checked.prog.looks [] ∧ ∀ (j : Nat) t, fn.params[j]? = some t → Tryd.pinned.checked.prog.wantsStandIn t = false := by
  obtain rfl : f = 7 := Option.some.inj ((show Tryd.prog.funcNamed "orchard/orchardlaw08.PathParts" = some 7 by kernel_rfl).symm.trans hf) |>.symm
  obtain rfl : fn = Tryd.f7 := (Option.some.inj (Tryd.func7.symm.trans hfn)).symm
  refine ⟨by kernel_rfl, fun j t ht => ?_⟩
  rw [Tryd.params7] at ht
  have hm := Array.mem_of_getElem? ht
  simp at hm
  rcases hm with rfl | rfl
  · exact (show Tryd.prog.wantsStandIn 5 = false by kernel_rfl)
  · exact (show Tryd.prog.wantsStandIn 3 = false by kernel_rfl)

theorem card : Rows.PathPartsCardSaid :=
  Claim7.holds_tied_plain_at .later [] _ _ _ _ said (fun _ h => by cases h) (by kernel_rfl) (fun _ h => by cases h) pathParts_row_tie rfl ⟨rfl, rfl⟩ (by kernel_rfl) rfl plain (by kernel_rfl)
end Go.Proofs.YtoekjofilcehoaaDoor.pathParts
