/- MsgBytes: any message as bytes, and back; what cannot be is told; cut off it is none; no condition on the input. -/
import Derived.Test.YtddkbninkncbeaaMHead
import Derived.Test.YtddkbninkncbeaaMArgs
import Derived.Test.YtddkbninkncbeaaRows
import Derived.ProofKit
import Derived.OpenShut
import Derived.ShutString
import Derived.ChangeOld
import Derived.Deep.DeepHandedRow
import Derived.Lib.LaidTab
import Derived.Stop.LaidErr
import Derived.Lay
namespace Go.Proofs.Ytddkbninkncbeaa.msgBytes
open Go.ChangeShapes Go.WideShapes Go.ChangeAt Go.RowKit
open Go.ChangeMaps (open_string shut_string)
set_option linter.unusedVariables false
set_option maxRecDepth 100000
theorem i64_and16 (n : Int) : bits .and .i64 n 65535 = n % 65536 := by
  have h127 : (BitVec.ofInt 64 65535).toNat = 2 ^ 16 - 1 := by decide
  have key : (BitVec.ofInt 64 n &&& BitVec.ofInt 64 65535).toNat = (n % ((2 ^ 64 : Nat) : Int)).toNat % 2 ^ 16 := by
    rw [BitVec.toNat_and, BitVec.toNat_ofInt, h127, Nat.and_two_pow_sub_one_eq_mod]
  show IntKind.i64.wrap ((BitVec.ofInt 64 n &&& BitVec.ofInt 64 65535).toNat : Nat) = n % 65536
  rw [key, IntKind.wrap_i64]
  omega
/-- Cut off it is none. -/
theorem readM_cut (m : Mg) (N : Nat) (h : rightM m = true) (hs : ∀ z ∈ m.ss, 0 ≤ z ∧ z ≤ 4294967295) (hN : N < (encM m).length) : readM ((encM m).take N) = (Mg.zero, 2) := by
  refine readM_two fun he => ?_
  obtain ⟨h1, h2⟩ := readM_some he
  have h3 := (readM_oks ((encM m).take N)).2.2.2.2
  obtain ⟨c', hc'⟩ : ∃ c', c' = (readM ((encM m).take N)).1 := ⟨_, rfl⟩
  rw [← hc'] at h1 h2 h3
  have e1 := rdM_good m (rightM_parts h) hs []
  rw [List.append_nil] at e1
  have e2 := rdM_good c' (rightM_parts h2) h3 ((encM m).drop N)
  rw [h1, List.take_append_drop, e1] at e2
  injection e2 with e3 e4
  injection e4 with e5
  have := congrArg List.length e5
  rw [List.length_drop, List.length_nil] at this
  omega
theorem call_r1 (W : World) (v : Value) : (callFunc 11 #[v]).run Try.prog W = .ok (.enter 11 #[v]) W := by kernel_rfl
theorem call_r2 (W : World) (v : Value) : (callFunc 12 #[v]).run Try.prog W = .ok (.enter 12 #[v]) W := by kernel_rfl
theorem call_n2 (W : World) (v u : Value) : (callFunc 13 #[v, u]).run Try.prog W = .ok (.enter 13 #[v, u]) W := by kernel_rfl
theorem call_t2 (W : World) (v u : Value) : (callFunc 14 #[v, u]).run Try.prog W = .ok (.enter 14 #[v, u]) W := by kernel_rfl
theorem run_neB (W : World) (r : Bool) (s1 s2 : Operand) : (do eqGuard .neq 4 s1 s2 (.bool r) (.bool r); binOp .neq 4 (.bool r) (.bool r) : Sem Value).run Try.prog W = .ok (.bool false) W := by go_simp
theorem run_fE0 (W : World) (b : Nat) : (Instr.fieldAt 39 (.pointer (some ⟨b, 0, none⟩)) 0).run Try.prog W = .ok (.pointer (some ⟨b, 0, none⟩)) W := by go_simp
theorem run_fE1 (W : World) (b : Nat) : (Instr.fieldAt 39 (.pointer (some ⟨b, 0, none⟩)) 1).run Try.prog W = .ok (.pointer (some ⟨b, 1, none⟩)) W := by go_simp
theorem run_fE2 (W : World) (b : Nat) : (Instr.fieldAt 39 (.pointer (some ⟨b, 0, none⟩)) 2).run Try.prog W = .ok (.pointer (some ⟨b, 2, none⟩)) W := by go_simp
theorem run_fM12 (W : World) (b : Nat) : (Instr.fieldAt 29 (.pointer (some ⟨b, 0, none⟩)) 12).run Try.prog W = .ok (.pointer (some ⟨b, 15, none⟩)) W := by go_simp
theorem run_fM13 (W : World) (b : Nat) : (Instr.fieldAt 29 (.pointer (some ⟨b, 0, none⟩)) 13).run Try.prog W = .ok (.pointer (some ⟨b, 16, none⟩)) W := by go_simp
theorem run_ldI (W : World) (p : Addr) (z : Int) (h : W.cell? p = some (.int .i64 z)) : (Instr.loadAt 3 (.pointer (some p))).run Try.prog W = .ok (.int .i64 z) W := by go_simp
theorem run_ldS (W : World) (p : Addr) (z : ByteArray) (h : W.cell? p = some (.string z)) : (Instr.loadAt 9 (.pointer (some p))).run Try.prog W = .ok (.string z) W := by go_simp
theorem run_row1I (W : World) (z : Int) : (Instr.buildSlice 36 1 #[(0, .int .i64 z)]).run Try.prog W = .ok (.slice (some ⟨W.heap.size, 0, none⟩) 1 1) (W.alloc (.cells #[.int .i64 z] 3)) := by go_simp
theorem run_row1S (W : World) (z : ByteArray) : (Instr.buildSlice 56 1 #[(0, .string z)]).run Try.prog W = .ok (.slice (some ⟨W.heap.size, 0, none⟩) 1 1) (W.alloc (.cells #[.string z] 9)) := by go_simp
def F6 (v : Value) (r : Bool) : Nat → Value → World → Prop
  | 0, u, _ => u = v
  | 1, u, _ => u = .bool r
  | 2, u, _ => u = v
  | 3, u, _ => u = .bool r
  | _, _, _ => True
theorem F6_keep {v : Value} {r : Bool} (i : Nat) {u : Value} {w w' : World} (h : F6 v r i u w) : F6 v r i u w' := by
  match i, h with
  | 0, h => exact h
  | 1, h => exact h
  | 2, h => exact h
  | 3, h => exact h
  | n + 4, _ => trivial
def RI (u : Value) (w : World) (x : Value) : Prop := ∃ g, u = .slice (some ⟨g, 0, none⟩) 1 1 ∧ g < w.heap.size ∧ w.cell? ⟨g, 0, none⟩ = some x
theorem RI.below {u x : Value} {w w' : World} (h : RI u w x) (hb : Below w.heap.size w w') : RI u w' x := by
  obtain ⟨g, h1, h2, h3⟩ := h; exact ⟨g, h1, Nat.lt_of_lt_of_le h2 hb.size, (hb.cell (p := ⟨g, 0, none⟩) h2).trans h3⟩
/-- The region that encodes an entry: what each operation leaves. -/
def F19 (vb : Value) (B eb : Nat) (l : List UInt8) (z : Ent) : Nat → Value → World → Prop
  | 0, u, _ => u = vb
  | 1, u, _ => u = .pointer (some ⟨eb, 0, none⟩)
  | 2, u, _ => u = .int .i64 z.ix
  | 3, u, w => RI u w (.int .i64 z.ix)
  | 4, u, w => Bs w B u (l ++ numsE [z.ix])
  | 5, u, _ => u = .pointer (some ⟨eb, 1, none⟩)
  | 6, u, _ => u = .int .i64 z.tm
  | 7, u, w => RI u w (.int .i64 z.tm)
  | 8, u, w => Bs w B u ((l ++ numsE [z.ix]) ++ numsE [z.tm])
  | 9, u, _ => u = .pointer (some ⟨eb, 2, none⟩)
  | 10, u, _ => u = .string z.da
  | 11, u, w => RI u w (.string z.da)
  | 12, u, w => Bs w B u (((l ++ numsE [z.ix]) ++ numsE [z.tm]) ++ textsE [z.da])
  | _, _, _ => True
theorem F19_keep {vb : Value} {B eb : Nat} {l : List UInt8} {z : Ent} (i : Nat) {u : Value} {w w' : World} (h : F19 vb B eb l z i u w) (hb : Below w.heap.size w w') : F19 vb B eb l z i u w' := by
  match i, h with
  | 0, h => exact h
  | 1, h => exact h
  | 2, h => exact h
  | 3, h => exact RI.below h hb
  | 4, h => exact Bs.below h hb
  | 5, h => exact h
  | 6, h => exact h
  | 7, h => exact RI.below h hb
  | 8, h => exact Bs.below h hb
  | 9, h => exact h
  | 10, h => exact h
  | 11, h => exact RI.below h hb
  | 12, h => exact Bs.below h hb
  | n + 13, _ => trivial
def F32 (vb : Value) (B cb : Nat) (l : List UInt8) (p : Int) (d : ByteArray) : Nat → Value → World → Prop
  | 0, u, _ => u = vb
  | 1, u, _ => u = .pointer (some ⟨cb, 15, none⟩)
  | 2, u, _ => u = .int .i64 p
  | 3, u, w => RI u w (.int .i64 p)
  | 4, u, w => Bs w B u (l ++ numsE [p])
  | 5, u, _ => u = .pointer (some ⟨cb, 16, none⟩)
  | 6, u, _ => u = .string d
  | 7, u, w => RI u w (.string d)
  | 8, u, w => Bs w B u ((l ++ numsE [p]) ++ textsE [d])
  | _, _, _ => True
theorem F32_keep {vb : Value} {B cb : Nat} {l : List UInt8} {p : Int} {d : ByteArray} (i : Nat) {u : Value} {w w' : World} (h : F32 vb B cb l p d i u w) (hb : Below w.heap.size w w') : F32 vb B cb l p d i u w' := by
  match i, h with
  | 0, h => exact h
  | 1, h => exact h
  | 2, h => exact h
  | 3, h => exact RI.below h hb
  | 4, h => exact Bs.below h hb
  | 5, h => exact h
  | 6, h => exact h
  | 7, h => exact RI.below h hb
  | 8, h => exact Bs.below h hb
  | n + 9, _ => trivial
theorem numsE_snoc (L : List Int) (k : Nat) (h : k < L.length) : numsE (L.take (k + 1)) = numsE (L.take k) ++ numsE [L.getD k 0] := by
  rw [take_snoc_getD L (0 : Int) k h]; unfold numsE; rw [List.flatMap_append]
theorem encM_alt (m : Mg) : encM m = (((((numsE [m.kd, m.fr, m.dt, m.tm, m.ix, m.lg, m.la, m.co, (m.es.length : Int)] ++ m.es.flatMap encE) ++ flagsE [m.ok]) ++ numsE [m.st, m.li, m.lt, m.lb, (m.ss.length : Int)]) ++ numsE m.ss) ++ numsE [m.pa]) ++ textsE [m.da] := by
  unfold encM headE lnS
  simp only [numsE, List.flatMap_cons, List.flatMap_nil, List.flatMap_append, List.append_nil, List.append_assoc]
theorem num_w (v : Value) (l : List UInt8) (B g : Nat) (z : Int) (W : World) (h : Src W v l) (hg : g < W.heap.size) (hc : W.cell? ⟨g, 0, none⟩ = some (.int .i64 z)) (hl : l.length ≤ 10000000) (hz : InR z) (hB : B ≤ W.heap.size) :
    Calls Try.prog 13 #[v, .slice (some ⟨g, 0, none⟩) 1 1] W fun e w' => ∃ v', e = .returned v' ∧ Bs w' B v' (l ++ numsE [z]) ∧ Below W.heap.size W w' := by
  refine (num_list v l g 0 1 [z] W h hg (by simp only [List.length_cons, List.length_nil]; omega) (fun j hj => by match j, hj with
    | 0, _ => exact hz) (fun j hj => by match j, hj with
    | 0, _ => exact hc)).mono ?_
  rintro e w' ⟨v', he, ho, hb⟩
  exact ⟨v', he, ho.mono hB, hb⟩
theorem text_w (v : Value) (l : List UInt8) (B g : Nat) (z : ByteArray) (W : World) (h : Src W v l) (hg : g < W.heap.size) (hc : W.cell? ⟨g, 0, none⟩ = some (.string z)) (hl : l.length ≤ 10000000) (hz : z.size ≤ 1000000) (hB : B ≤ W.heap.size) :
    Calls Try.prog 14 #[v, .slice (some ⟨g, 0, none⟩) 1 1] W fun e w' => ∃ v', e = .returned v' ∧ Bs w' B v' (l ++ textsE [z]) ∧ Below W.heap.size W w' := by
  refine (text_list v l g 0 1 [z] W h hg (by simp only [List.length_cons, List.length_nil]; omega) (fun j hj => by match j, hj with
    | 0, _ => simp [maxLen]; omega) (fun j hj => by match j, hj with
    | 0, _ => exact hc)).mono ?_
  rintro e w' ⟨v', he, ho, hb⟩
  exact ⟨v', he, ho.mono hB, hb⟩
set_option maxHeartbeats 16000000 in
theorem walk (v0 z0 : Value) (a1 : Int) (w : World) (w0 : ∃ s m, v0 = mgV z0 s m ∧ m.Ok ∧ EnsR w z0 m.es ∧ SmsR w s m.ss) (w1 : (Lit.int .i64 a1).wf = true) :
    Calls Try.prog 3 #[v0, .int .i64 a1] w fun e w' => e = .returned (.bool true) ∧ Below w.heap.size w w' := by
  obtain ⟨s, m, rfl, hm, hE, hS⟩ := w0
  obtain ⟨a, cap, rfl, _⟩ := hE.form
  obtain ⟨sa, scap, rfl, _⟩ := hS.form
  have bA := (Below.refl w.heap.size w).alloc (Nat.le_refl _) (.cells (mgA (.slice a m.es.length cap) (.slice sa m.ss.length scap) m) 29)
  have N1 := MgB.new w (.slice a m.es.length cap) (.slice sa m.ss.length scap) m
  have HE := Lib.hid hE
  have HS := Lib.hid hS
  have HM := Lib.hid hm
  obtain ⟨w1', hw1⟩ : ∃ w1, w1 = w.alloc (.cells (mgA (.slice a m.es.length cap) (.slice sa m.ss.length scap) m) 29) := ⟨_, rfl⟩
  have hw1' := hw1
  rw [← hw1] at bA N1
  unfold mgA at hw1'
  have HH := Lib.hid (head_any w1')
  obtain ⟨b, hb⟩ : ∃ b, b = w.heap.size := ⟨_, rfl⟩
  have hbw : w.heap.size ≤ b := by omega
  rw [← hb] at N1
  have HN1 := Lib.hid N1
  unfold mgV
  clear hE hS hm N1 hw1
  go_enter Try.func3, Try.ntmps3
  go_upto_region 1 with fail
  rw [← hw1', ← hb]
  clear hw1' hb
  go_wp2_with fail
  refine HH.out.mono ?_
  rintro e w2 ⟨rfl, b2⟩
  have N2 := HN1.out.below b2
  have bB := bA.trans (b2.mono bA.size)
  have hld := run_loadM N2
  have HF := Lib.hid (few_any _ _ m w2 HM.out (HE.out.below bB) (HS.out.below bB))
  unfold mgV at hld HF
  have HLD := Lib.hid hld
  have HN2 := Lib.hid N2
  clear hld N2 HN1 HH bA b2
  go_wp2_with (refine wpList_load_run HLD.out rfl rfl rfl ?_)
  refine HF.out.mono ?_
  rintro e w3 ⟨rfl, b3⟩
  have N3 := HN2.out.below b3
  have bC := bB.trans (b3.mono bB.size)
  have hld := run_loadM N3
  have HBY := Lib.hid (mbytes_any _ _ m w3 HM.out (HE.out.below bC) (HS.out.below bC))
  unfold mgV at hld HBY
  have HLD3 := Lib.hid hld
  have HN3 := Lib.hid N3
  clear hld N3 HN2 HLD HF bB b3
  cases fewM m with
  | false =>
    go_wp2_with fail
    go_ret
    exact ⟨rfl, bC⟩
  | true =>
  go_wp2_with (refine wpList_load_run HLD3.out rfl rfl rfl ?_)
  refine HBY.out.mono ?_
  rintro e w5 ⟨rfl, b5⟩
  have bD := bC.trans (b5.mono bC.size)
  have HN5 := Lib.hid (HN3.out.below b5)
  have HBE := Lib.hid (show bytesM m = if rightM m = true then (⟨(encM m).toArray⟩, 0) else (⟨#[]⟩, 1) from rfl)
  have HP := Lib.hid (rightM_parts (m := m))
  have HRG := Lib.hid (fun h : rightM m = true => readM_good m h (SmsR.oks HS.out))
  have HRC := Lib.hid (fun (N : Nat) (h : rightM m = true) => readM_cut m N h (SmsR.oks HS.out))
  have HR1 := Lib.hid (fun (W : World) (h : Below w.heap.size w W) => mright_any _ _ m W HM.out (HE.out.below h) (HS.out.below h))
  have HR2 := Lib.hid (fun (W : World) (h : Below w.heap.size w W) => lright_any _ _ m W HM.out (HE.out.below h) (HS.out.below h))
  obtain ⟨S, hS⟩ : ∃ S, S = (bytesM m).1 := ⟨_, rfl⟩
  obtain ⟨E, hE⟩ : ∃ E, E = (bytesM m).2 := ⟨_, rfl⟩
  rw [← hS, ← hE]
  have HSS := Lib.hid hS
  have HEE := Lib.hid hE
  obtain ⟨R, hR⟩ : ∃ R, R = rightM m := ⟨_, rfl⟩
  rw [← hR] at HR1 HR2 HBE HP HRG HRC
  clear hS hE hR HBY HLD3 HN3 bC b5
  go_upto_region 6 with fail
  have HDW : Hid (∀ W : World, Below w5.drew.heap.size w5.drew W → Below w.heap.size w W ∧ MgB W b (.slice a m.es.length cap) (.slice sa m.ss.length scap) m) := Lib.hid fun W hW => by
    have hW' : Below w5.heap.size w5 W := (Below.refl _ w5).drew.trans (hW.mono (Nat.le_refl _))
    exact ⟨bD.trans (hW'.mono bD.size), HN5.out.below hW'⟩
  refine wp_region_steps_last 4 (F6 (mgV (.slice a m.es.length cap) (.slice sa m.ss.length scap) m) R) (fun x y => Below x.heap.size x y) (by kernel_rfl) (by kernel_rfl) (by kernel_rfl) (by kernel_rfl) (by kernel_rfl) (Below.refl _ _) (fun i v x y _ h _ => F6_keep i h) (fun x y z h1 h2 => h1.trans (h2.mono h1.size)) ?_ ?_
  · intro i o hi ho x W hR hF
    match i, ho with
    | 0, ho =>
      obtain rfl := Option.some.inj ho
      exact gstep_load rfl (wanted0 rfl) _ _ rfl _ (eval_of 2 _ (by kernel_rfl) rfl) _ (run_loadM (HDW.out W hR).2) ⟨_, rfl, rfl, Below.refl _ _⟩
    | 1, ho =>
      obtain rfl := Option.some.inj ho
      refine gstep_call rfl (wanted0 rfl) _ _ _ rfl _ (eval_at 30 0 _ (by kernel_rfl) (show 30 < 197 by decide) (hF 0 (by kernel_rfl))) (call_r1 W _) ?_
      refine (HR1.out W (HDW.out W hR).1).mono ?_
      rintro e W2 ⟨rfl, b⟩
      exact ⟨_, rfl, _, rfl, rfl, b⟩
    | 2, ho =>
      obtain rfl := Option.some.inj ho
      exact gstep_load rfl (wanted0 rfl) _ _ rfl _ (eval_of 2 _ (by kernel_rfl) rfl) _ (run_loadM (HDW.out W hR).2) ⟨_, rfl, rfl, Below.refl _ _⟩
    | 3, ho =>
      obtain rfl := Option.some.inj ho
      refine gstep_call rfl (wanted0 rfl) _ _ _ rfl _ (eval_at 32 2 _ (by kernel_rfl) (show 32 < 197 by decide) (hF 2 (by kernel_rfl))) (call_r2 W _) ?_
      refine (HR2.out W (HDW.out W hR).1).mono ?_
      rintro e W2 ⟨rfl, b⟩
      exact ⟨_, rfl, _, rfl, rfl, b⟩
    | n + 4, ho => omega
  · intro o ho x W hR hF
    obtain rfl := Option.some.inj ho
    refine gstep_bin rfl (wanted0 rfl) _ _ _ _ _ rfl _ _ (eval_at 31 1 _ (by kernel_rfl) (show 31 < 197 by decide) (hF 1 (by decide))) (eval_at 33 3 _ (by kernel_rfl) (show 33 < 197 by decide) (hF 3 (by decide))) _ (run_neB W R _ _) ?_
    simp only [putAll, Act.put, List.setIfInBounds_toArray, List.set_cons_succ, List.set_cons_zero]
    obtain ⟨bE, N6⟩ := HDW.out W hR
    have hld := run_loadM N6
    have HR3 := Lib.hid (HR2.out W bE)
    unfold mgV at hld HR3
    have HLD6 := Lib.hid hld
    have HN6 := Lib.hid N6
    clear hF hR HDW HN5 bD HR1 HR2 N6 hld
    cases R with
    | false =>
      have hSE : S = ⟨#[]⟩ ∧ E = 1 := by rw [HSS.out, HEE.out, HBE.out]; exact ⟨rfl, rfl⟩
      obtain ⟨rfl, rfl⟩ := hSE
      clear HSS HEE HBE
      go_wp2_with (refine wpList_load_run HLD6.out rfl rfl rfl ?_)
      refine HR3.out.mono ?_
      rintro e w7 ⟨rfl, b7⟩
      go_wp2_with fail
      go_ret
      exact ⟨rfl, bE.trans (b7.mono bE.size)⟩
    | true =>
      have HPR := Lib.hid (HP.out rfl)
      have hSE : S = ⟨(encM m).toArray⟩ ∧ E = 0 := by rw [HSS.out, HEE.out, HBE.out]; exact ⟨rfl, rfl⟩
      obtain ⟨hSS, rfl⟩ := hSE
      have HSQ := Lib.hid hSS
      clear HP HSS HEE HBE hSS
      go_wp2_with (refine wpList_load_run HLD6.out rfl rfl rfl ?_)
      refine HR3.out.mono ?_
      rintro e w7 ⟨rfl, b7⟩
      have bF := bE.trans (b7.mono bE.size)
      have N7 := HN6.out.below b7
      clear HR3 b7 bE HN6 HLD6
      have hbl : b < w7.heap.size := N7.lt
      have bN0 := (Below.refl _ w7).alloc (Nat.le_refl _) (.cells #[] 5)
      have B0 : Bs (w7.alloc (.cells #[] 5)) (b + 1) (.slice (some ⟨w7.heap.size, 0, none⟩) 0 0) [] :=
        World.ownsRow_made (base := b + 1) (e := 5) (size := 1) w7 #[] 0 hbl (Nat.zero_le _) rfl
      have N8 := N7.below bN0
      have bG := bF.trans (bN0.mono bF.size)
      go_upto_region 11 with fail
      obtain ⟨w8, hw8⟩ : ∃ w8, w8 = w7.alloc (.cells #[] 5) := ⟨_, rfl⟩
      rw [← hw8] at B0 N8 bG ⊢
      generalize hv0 : Value.slice (some ⟨w7.heap.size, 0, none⟩) 0 0 = bv0 at B0 ⊢
      obtain ⟨⟨c0, c1, c2, c3, c4, c5, c6, c7, c8, c9, c10, c11, c12, c13, c14, c15, c16⟩, _⟩ := MgB.cells N8
      have bN := (Below.refl _ w8).alloc (Nat.le_refl _) (.cells #[.int .i64 m.kd, .int .i64 m.fr, .int .i64 m.dt, .int .i64 m.tm, .int .i64 m.ix, .int .i64 m.lg, .int .i64 m.la, .int .i64 m.co, .int .i64 (m.es.length : Int)] 3)
      have HCN := Lib.hid (show ∀ j, j < 9 → (w8.alloc (.cells #[.int .i64 m.kd, .int .i64 m.fr, .int .i64 m.dt, .int .i64 m.tm, .int .i64 m.ix, .int .i64 m.lg, .int .i64 m.la, .int .i64 m.co, .int .i64 (m.es.length : Int)] 3)).cell? ⟨w8.heap.size, 0 + j, none⟩ = some (.int .i64 ([m.kd, m.fr, m.dt, m.tm, m.ix, m.lg, m.la, m.co, (m.es.length : Int)].getD j 0)) from fun j hj => cells_new (by match j, hj with
      | 0, _ => rfl
      | 1, _ => rfl
      | 2, _ => rfl
      | 3, _ => rfl
      | 4, _ => rfl
      | 5, _ => rfl
      | 6, _ => rfl
      | 7, _ => rfl
      | 8, _ => rfl))
      have N9 := N8.below bN
      have B9 := B0.below bN
      have bH := bG.trans (bN.mono bG.size)
      have HN9 := Lib.hid N9
      have HB9 := Lib.hid B9
      have HBH := Lib.hid bH
      clear hw8 hv0 bN0 N7 N8 B0 bG bN N9 B9 bH bF
      go_upto_region 12 with fail
      obtain ⟨w9, hw9⟩ : ∃ w9, w9 = w8.alloc (.cells #[.int .i64 m.kd, .int .i64 m.fr, .int .i64 m.dt, .int .i64 m.tm, .int .i64 m.ix, .int .i64 m.lg, .int .i64 m.la, .int .i64 m.co, .int .i64 (m.es.length : Int)] 3) := ⟨_, rfl⟩
      obtain ⟨nb, hnb⟩ : ∃ nb, nb = w8.heap.size := ⟨_, rfl⟩
      rw [← hw9] at HCN HN9 HB9 HBH ⊢
      rw [← hnb] at HCN ⊢
      have hnbs : nb < w9.heap.size := World.block_lt_of_cell? w9 _ (HCN.out 0 (by decide))
      have HNZ : Hid (∀ j, j < 9 → InR ([m.kd, m.fr, m.dt, m.tm, m.ix, m.lg, m.la, m.co, (m.es.length : Int)].getD j 0)) := Lib.hid (fun j hj => by match j, hj with
      | 0, _ => exact HM.out.kd
      | 1, _ => exact HM.out.fr
      | 2, _ => exact HM.out.dt
      | 3, _ => exact HM.out.tm
      | 4, _ => exact HM.out.ix
      | 5, _ => exact HM.out.lg
      | 6, _ => exact HM.out.la
      | 7, _ => exact HM.out.co
      | 8, _ => exact (show -9223372036854775808 ≤ (m.es.length : Int) ∧ (m.es.length : Int) ≤ 9223372036854775807 by have := HPR.out.es; omega))
      obtain ⟨nine, hnine⟩ : ∃ n, n = [m.kd, m.fr, m.dt, m.tm, m.ix, m.lg, m.la, m.co, (m.es.length : Int)] := ⟨_, rfl⟩
      have HNL : Hid (nine.length = 9) := Lib.hid (by rw [hnine]; rfl)
      rw [← hnine] at HCN HNZ
      have HEN := Lib.hid (encM_alt m)
      rw [← hnine] at HEN
      clear hw9 hnb hnine c0 c1 c2 c3 c4 c5 c6 c7 c8 c9 c10 c11 c12 c13 c14 c15 c16
      have hB9 : Bs w9 (b + 1) bv0 (numsE (nine.take 0)) := by simpa [numsE] using HB9.out
      go_wp2_with fail
      go_loopw [7, 66] (fun bv iv wr => ∃ j : Nat, j ≤ 9 ∧ iv = .int .i64 j ∧ Bs wr (b + 1) bv (numsE (nine.take j)) ∧ Below w9.heap.size w9 wr) (fun _ iv _ => 9 - (intOf iv).toNat)
      case atStart => exact ⟨0, Nat.zero_le _, rfl, hB9, Below.refl _ _⟩
      case round =>
        obtain ⟨j, hj, rfl, HBS, hb⟩ := hrel
        clear hB9
        by_cases hlt : j < 9
        · have hcell := (hb.cell (p := ⟨nb, 0 + j, none⟩) hnbs).trans (HCN.out j hlt)
          rw [Nat.zero_add] at hcell
          have hz := HNZ.out j hlt
          have hj0 : (0 : Int) ≤ (j : Int) := by omega
          have hji : (j : Int) < (9 : Int) := by omega
          have t2 : IntKind.i64.wrap ((j : Int) + 1) = (j : Int) + 1 := IntWalk.i64_in _ (by omega)
          have HSN := Lib.hid (numsE_snoc nine j (by rw [HNL.out]; exact hlt))
          have hMl : (numsE (nine.take j)).length ≤ 54 := by rw [numsE_length, List.length_take]; omega
          generalize nine.getD j 0 = z at *
          have bN := (Below.refl _ wr).alloc (Nat.le_refl _) (.cells #[.int .i64 z] 3)
          have HNM := Lib.hid (num_w u7 (numsE (nine.take j)) (b + 1) wr.heap.size z (wr.alloc (.cells #[.int .i64 z] 3)) (HBS.below bN).src (by simp) (cells_new (j := 0) rfl) (by omega) hz (by have := hb.size; have := bN.size; have := HN9.out.lt; omega))
          have HBb := Lib.hid hb
          clear HBS hb hMl hz
          go_wp2_with fail
          refine HNM.out.mono ?_
          rintro e w10 ⟨v10, rfl, B10, b10⟩
          have HR := Lib.hid (B10.mk HSN.out.symm)
          have bb := HBb.out.trans ((bN.trans (b10.mono bN.size)).mono HBb.out.size)
          clear HNM B10 b10 bN HBb hcell
          go_wp2_with fail
          go_roundw
          case rel => exact ⟨j + 1, by omega, by go_num, HR.out, bb⟩
          case measure => simp [intOf]; omega
        · obtain rfl : j = 9 := by omega
          have hlt2 : decide ((9 : Int) < (9 : Int)) = false := by simp
          rw [List.take_of_length_le (by rw [HNL.out]; omega)] at HBS
          obtain ⟨w10, rfl⟩ : ∃ w10, w10 = wr := ⟨_, rfl⟩
          have N10 := HN9.out.below hb
          have bI := HBH.out.trans (hb.mono HBH.out.size)
          obtain ⟨M1, hM1⟩ : ∃ M, M = numsE nine := ⟨_, rfl⟩
          have hM1l : M1.length = 54 := by rw [hM1, numsE_length, HNL.out]
          rw [← hM1] at HBS HEN
          obtain ⟨⟨c0, c1, c2, c3, c4, c5, c6, c7, c8, c9, c10, c11, c12, c13, c14, c15, c16⟩, _⟩ := MgB.cells N10
          have HN10 := Lib.hid N10
          have HOB := Lib.hid (HE.out.below bI)
          have HBI := Lib.hid bI
          have hB10 : Bs w10 (b + 1) u7 (M1 ++ (m.es.take 0).flatMap encE) := by simpa using HBS
          have hbw2 : b < w10.heap.size := N10.lt
          clear hM1 HBS N10 hb HN9 HB9 HBH HCN HNZ HNL hnbs bI
          go_wp2_with fail
          go_loopw [7, 78] (fun bv iv wr => ∃ j : Nat, j ≤ m.es.length ∧ iv = .int .i64 j ∧ Bs wr (b + 1) bv (M1 ++ (m.es.take j).flatMap encE) ∧ Below w10.heap.size w10 wr) (fun _ iv _ => m.es.length - (intOf iv).toNat)
          case atStart => exact ⟨0, Nat.zero_le _, rfl, hB10, Below.refl _ _⟩
          case round =>
            obtain ⟨j, hj, rfl, HBS, hb⟩ := hrel
            clear hB10 c0 c1 c2 c3 c4 c5 c6 c7 c8 c9 c10 c11 c12 c13 c14 c15 c16
            by_cases hlt : j < m.es.length
            · obtain ⟨hok, g, off, rfl, h0, h1, h2⟩ := HOB.out.at hb hlt
              have hzr := HPR.out.ess _ (getD_mem (d := Ent.zero) hlt)
              have HSN := Lib.hid (encEs_snoc m.es j hlt)
              have hEL := encEs_len (m.es.take j)
              rw [List.length_take] at hEL
              have hes4 := HPR.out.es
              have t2 : IntKind.i64.wrap ((j : Int) + 1) = (j : Int) + 1 := IntWalk.i64_in _ (by omega)
              have hj0 : (0 : Int) ≤ (j : Int) := by omega
              have hji : (j : Int) < (m.es.length : Int) := by omega
              generalize m.es.getD j Ent.zero = z at *
              obtain ⟨r1, r2, r3⟩ := rightE_parts hzr
              have HEO := Lib.hid (show encE z = numsE [z.ix, z.tm] ++ textsE [z.da] from rfl)
              obtain ⟨M, hM⟩ : ∃ M, M = M1 ++ (m.es.take j).flatMap encE := ⟨_, rfl⟩
              have hMl : M.length ≤ 54 + 65549 * 4 := by rw [hM, List.length_append]; omega
              rw [← hM] at HBS
              have HM2 := Lib.hid hM
              have HML := Lib.hid hMl
              have HOK := Lib.hid hok
              have HR3 := Lib.hid r3
              clear hM hzr hEL hok hMl
              have bD := hb.alloc hb.size (.cells (entA z) 39)
              have bE := (Below.refl _ wr).alloc (Nat.le_refl _) (.cells (entA z) 39)
              have N6 := EnB.new wr z
              have S6 := HBS.below bE
              have hws := hb.size
              go_upto_region 19 with fail
              obtain ⟨w6, hw6⟩ : ∃ w6, w6 = wr.alloc (.cells #[.int .i64 z.ix, .int .i64 z.tm, .string z.da] 39) := ⟨_, rfl⟩
              have hw6' : w6 = wr.alloc (.cells (entA z) 39) := hw6
              obtain ⟨ob, hob⟩ : ∃ ob, ob = wr.heap.size := ⟨_, rfl⟩
              rw [← hw6'] at bD N6 S6
              rw [← hw6]
              rw [← hob] at N6 hws ⊢
              clear hw6 hw6' bE h0 h1 h2 hob HBS
              have hos : ob < w6.heap.size := N6.lt
              have HDW : Hid (∀ W : World, Below w6.drew.heap.size w6.drew W → Below w10.heap.size w10 W ∧ EnB W ob z ∧ b + 1 ≤ W.heap.size ∧ Bs W (b + 1) u7 M) := Lib.hid fun W hW => by
                have hW' : Below w6.heap.size w6 W := (Below.refl _ w6).drew.trans (hW.mono (Nat.le_refl _))
                exact ⟨bD.trans (hW'.mono bD.size), N6.below hW', by have := hW'.size; have := bD.size; omega, S6.below hW'⟩
              clear S6 N6 bD hws hos
              refine wp_region_steps_tail 13 0 (F19 u7 (b + 1) ob M z) (fun x y => Below x.heap.size x y) (by kernel_rfl) (by kernel_rfl) (by kernel_rfl) (by kernel_rfl) (by kernel_rfl) (by kernel_rfl) (Below.refl _ _) (fun i v x y _ h hb => F19_keep i h hb) (fun x y z h1 h2 => h1.trans (h2.mono h1.size)) ?_ ?_
              · intro i o hi ho x W hR hF hX
                obtain ⟨c0, c1, c2⟩ := (HDW.out W hR).2.1.cells
                have hml := HML.out
                match i, ho with
                | 0, ho =>
                  obtain rfl := Option.some.inj ho
                  exact gstep_move rfl (wanted0 rfl) _ rfl _ (eval_at 7 13 _ (by kernel_rfl) (show 7 < 197 by decide) ((hX 13 _ (by decide) rfl).trans rfl)) ⟨_, rfl, rfl, Below.refl _ _⟩
                | 1, ho =>
                  obtain rfl := Option.some.inj ho
                  exact gstep_field rfl (wanted0 rfl) _ _ _ rfl _ (eval_of 11 _ (by kernel_rfl) rfl) _ (run_fE0 W _) ⟨_, rfl, rfl, Below.refl _ _⟩
                | 2, ho =>
                  obtain rfl := Option.some.inj ho
                  exact gstep_load rfl (wanted0 rfl) _ _ rfl _ (eval_at 83 1 _ (by kernel_rfl) (show 83 < 197 by decide) (hF 1 (by kernel_rfl))) _ (run_ldI W _ _ c0) ⟨_, rfl, rfl, Below.refl _ _⟩
                | 3, ho =>
                  obtain rfl := Option.some.inj ho
                  exact gstep_row1 rfl (wanted0 rfl) _ _ rfl _ (eval_at 84 2 _ (by kernel_rfl) (show 84 < 197 by decide) (hF 2 (by kernel_rfl))) _ _ (run_row1I W _) ⟨_, rfl, ⟨W.heap.size, rfl, by simp, cells_new (j := 0) rfl⟩, (Below.refl _ W).alloc (Nat.le_refl _) _⟩
                | 4, ho =>
                  obtain rfl := Option.some.inj ho
                  obtain ⟨g, hg1, hg2, hg3⟩ := hF 3 (by kernel_rfl)
                  refine gstep_call2 rfl (wanted0 rfl) _ _ _ _ rfl _ _ (eval_at 82 0 _ (by kernel_rfl) (show 82 < 197 by decide) (hF 0 (by kernel_rfl))) (eval_at 85 3 _ (by kernel_rfl) (show 85 < 197 by decide) hg1) (call_n2 W _ _) ?_
                  refine (num_w u7 M (b + 1) g z.ix W (HDW.out W hR).2.2.2.src hg2 hg3 (by omega) HOK.out.ix (HDW.out W hR).2.2.1).mono ?_
                  rintro e W2 ⟨v, rfl, hB, hb⟩
                  exact ⟨_, rfl, _, rfl, hB, hb⟩
                | 5, ho =>
                  obtain rfl := Option.some.inj ho
                  exact gstep_field rfl (wanted0 rfl) _ _ _ rfl _ (eval_of 11 _ (by kernel_rfl) rfl) _ (run_fE1 W _) ⟨_, rfl, rfl, Below.refl _ _⟩
                | 6, ho =>
                  obtain rfl := Option.some.inj ho
                  exact gstep_load rfl (wanted0 rfl) _ _ rfl _ (eval_at 87 5 _ (by kernel_rfl) (show 87 < 197 by decide) (hF 5 (by kernel_rfl))) _ (run_ldI W _ _ c1) ⟨_, rfl, rfl, Below.refl _ _⟩
                | 7, ho =>
                  obtain rfl := Option.some.inj ho
                  exact gstep_row1 rfl (wanted0 rfl) _ _ rfl _ (eval_at 88 6 _ (by kernel_rfl) (show 88 < 197 by decide) (hF 6 (by kernel_rfl))) _ _ (run_row1I W _) ⟨_, rfl, ⟨W.heap.size, rfl, by simp, cells_new (j := 0) rfl⟩, (Below.refl _ W).alloc (Nat.le_refl _) _⟩
                | 8, ho =>
                  obtain rfl := Option.some.inj ho
                  obtain ⟨g, hg1, hg2, hg3⟩ := hF 7 (by kernel_rfl)
                  have h4 : Bs W (b + 1) (x 4) (M ++ numsE [z.ix]) := hF 4 (by kernel_rfl)
                  refine gstep_call2 rfl (wanted0 rfl) _ _ _ _ rfl _ _ (eval_at 86 4 _ (by kernel_rfl) (show 86 < 197 by decide) rfl) (eval_at 89 7 _ (by kernel_rfl) (show 89 < 197 by decide) hg1) (call_n2 W _ _) ?_
                  refine (num_w (x 4) (M ++ numsE [z.ix]) (b + 1) g z.tm W h4.src hg2 hg3 (by rw [List.length_append, numsE_length]; simp only [List.length_cons, List.length_nil]; omega) HOK.out.tm (HDW.out W hR).2.2.1).mono ?_
                  rintro e W2 ⟨v, rfl, hB, hb⟩
                  exact ⟨_, rfl, _, rfl, hB, hb⟩
                | 9, ho =>
                  obtain rfl := Option.some.inj ho
                  exact gstep_field rfl (wanted0 rfl) _ _ _ rfl _ (eval_of 11 _ (by kernel_rfl) rfl) _ (run_fE2 W _) ⟨_, rfl, rfl, Below.refl _ _⟩
                | 10, ho =>
                  obtain rfl := Option.some.inj ho
                  exact gstep_load rfl (wanted0 rfl) _ _ rfl _ (eval_at 91 9 _ (by kernel_rfl) (show 91 < 197 by decide) (hF 9 (by kernel_rfl))) _ (run_ldS W _ _ c2) ⟨_, rfl, rfl, Below.refl _ _⟩
                | 11, ho =>
                  obtain rfl := Option.some.inj ho
                  exact gstep_row1 rfl (wanted0 rfl) _ _ rfl _ (eval_at 92 10 _ (by kernel_rfl) (show 92 < 197 by decide) (hF 10 (by kernel_rfl))) _ _ (run_row1S W _) ⟨_, rfl, ⟨W.heap.size, rfl, by simp, cells_new (j := 0) rfl⟩, (Below.refl _ W).alloc (Nat.le_refl _) _⟩
                | 12, ho =>
                  obtain rfl := Option.some.inj ho
                  obtain ⟨g, hg1, hg2, hg3⟩ := hF 11 (by kernel_rfl)
                  have h4 : Bs W (b + 1) (x 8) ((M ++ numsE [z.ix]) ++ numsE [z.tm]) := hF 8 (by kernel_rfl)
                  refine gstep_call2 rfl (wanted0 rfl) _ _ _ _ rfl _ _ (eval_at 90 8 _ (by kernel_rfl) (show 90 < 197 by decide) rfl) (eval_at 93 11 _ (by kernel_rfl) (show 93 < 197 by decide) hg1) (call_t2 W _ _) ?_
                  refine (text_w (x 8) ((M ++ numsE [z.ix]) ++ numsE [z.tm]) (b + 1) g z.da W h4.src hg2 hg3 (by rw [List.length_append, List.length_append, numsE_length, numsE_length]; simp only [List.length_cons, List.length_nil]; omega) (by have := HR3.out; omega) (HDW.out W hR).2.2.1).mono ?_
                  rintro e W2 ⟨v, rfl, hB, hb⟩
                  exact ⟨_, rfl, _, rfl, hB, hb⟩
                | n + 13, ho => omega
              · intro x W hR hF
                have h12 : Bs W (b + 1) (x 12) (((M ++ numsE [z.ix]) ++ numsE [z.tm]) ++ textsE [z.da]) := hF 12 (by decide)
                have bQ := (HDW.out W hR).1
                refine gstep_assign rfl (wanted0 rfl) _ rfl _ (eval_at 94 12 _ (by kernel_rfl) (show 94 < 197 by decide) rfl) ?_
                unfold tailK
                simp only [putAll, Act.put, List.setIfInBounds_toArray, List.set_cons_succ, List.set_cons_zero]
                have HR9 : Hid (Bs W (b + 1) (x 12) (M1 ++ (m.es.take (j + 1)).flatMap encE)) := Lib.hid (h12.mk (by rw [HSN.out, HEO.out, numsE_two, ← List.append_assoc M1, ← HM2.out]; simp only [numsE, List.flatMap_cons, List.flatMap_nil, List.append_nil, List.append_assoc]))
                have HBQ := Lib.hid bQ
                clear hF hR HDW h12 bQ
                generalize x 12 = xv at *
                go_wp2_with fail
                go_roundw
                case rel => exact ⟨j + 1, by omega, by go_num, HR9.out, HBQ.out⟩
                case measure => simp [intOf]; omega
            · obtain rfl : j = m.es.length := by omega
              have hlt2 : decide ((m.es.length : Int) < (m.es.length : Int)) = false := by simp
              rw [List.take_length] at HBS
              obtain ⟨w11, rfl⟩ : ∃ w11, w11 = wr := ⟨_, rfl⟩
              have N11 := HN10.out.below hb
              have bJ := HBI.out.trans (hb.mono HBI.out.size)
              have hEL := encEs_len m.es
              have hes4 := HPR.out.es
              obtain ⟨M2, hM2⟩ : ∃ M, M = M1 ++ m.es.flatMap encE := ⟨_, rfl⟩
              have hM2l : M2.length ≤ 54 + 65549 * 4 := by rw [hM2, List.length_append]; omega
              rw [← hM2] at HBS HEN
              obtain ⟨⟨c0, c1, c2, c3, c4, c5, c6, c7, c8, c9, c10, c11, c12, c13, c14, c15, c16⟩, _⟩ := MgB.cells N11
              have HN11 := Lib.hid N11
              have HSB := Lib.hid (HS.out.below bJ)
              have HBJ := Lib.hid bJ
              have hbw3 : b < w11.heap.size := N11.lt
              have hbl11 : b + 1 ≤ w11.heap.size := N11.lt
              clear hM2 hb HN10 HBI HOB hEL hlt
              -- the flag
              have bN := (Below.refl _ w11).alloc (Nat.le_refl _) (.cells #[.bool m.ok] 4)
              have HNM := Lib.hid (flag_list u7 M2 w11.heap.size 0 1 [m.ok] (w11.alloc (.cells #[.bool m.ok] 4)) (HBS.below bN).src (by simp) (by simp only [List.length_cons, List.length_nil]; omega)
                (fun j hj => cells_new (by match j, hj with
                  | 0, _ => rfl)))
              clear HBS N11 bJ
              go_wp2_with fail
              refine HNM.out.mono ?_
              rintro e w12 ⟨v12, rfl, B12, b12⟩
              have bq := bN.trans (b12.mono bN.size)
              have N12 := HN11.out.below bq
              have bK := HBJ.out.trans (bq.mono HBJ.out.size)
              have B12' := B12.mono (C := b + 1) (by have := bN.size; simp; omega)
              obtain ⟨M3, hM3⟩ : ∃ M, M = M2 ++ flagsE [m.ok] := ⟨_, rfl⟩
              have hM3l : M3.length ≤ 54 + 65549 * 4 + 1 := by rw [hM3, List.length_append, flagsE_length]; simp only [List.length_cons, List.length_nil]; omega
              rw [← hM3] at B12' HEN
              clear HNM B12 b12 bN HBJ hM3 c0 c1 c2 c3 c4 c5 c6 c7 c8 c9 c10 c11 c12 c13 c14 c15 c16
              obtain ⟨⟨c0, c1, c2, c3, c4, c5, c6, c7, c8, c9, c10, c11, c12, c13, c14, c15, c16⟩, _⟩ := MgB.cells N12
              have HN12 := Lib.hid N12
              have HB12 := Lib.hid B12'
              have HBK := Lib.hid bK
              have HSC := Lib.hid (HSB.out.below bq)
              clear N12 B12' bK bq HN11 HSB
              have bN := (Below.refl _ w12).alloc (Nat.le_refl _) (.cells #[.int .i64 m.st, .int .i64 m.li, .int .i64 m.lt, .int .i64 m.lb, .int .i64 (m.ss.length : Int)] 3)
              have HCN := Lib.hid (show ∀ j, j < 5 → (w12.alloc (.cells #[.int .i64 m.st, .int .i64 m.li, .int .i64 m.lt, .int .i64 m.lb, .int .i64 (m.ss.length : Int)] 3)).cell? ⟨w12.heap.size, 0 + j, none⟩ = some (.int .i64 ([m.st, m.li, m.lt, m.lb, (m.ss.length : Int)].getD j 0)) from fun j hj => cells_new (by match j, hj with
              | 0, _ => rfl
              | 1, _ => rfl
              | 2, _ => rfl
              | 3, _ => rfl
              | 4, _ => rfl))
              have N13 := HN12.out.below bN
              have B13 := HB12.out.below bN
              have bL := HBK.out.trans (bN.mono HBK.out.size)
              have HSD := Lib.hid (HSC.out.below bN)
              have HN13 := Lib.hid N13
              have HB13 := Lib.hid B13
              have HBL := Lib.hid bL
              clear N13 B13 bL bN HB12 HBK HN12 HSC
              go_upto_region 23 with fail
              obtain ⟨w13, hw13⟩ : ∃ w13, w13 = w12.alloc (.cells #[.int .i64 m.st, .int .i64 m.li, .int .i64 m.lt, .int .i64 m.lb, .int .i64 (m.ss.length : Int)] 3) := ⟨_, rfl⟩
              obtain ⟨nb, hnb⟩ : ∃ nb, nb = w12.heap.size := ⟨_, rfl⟩
              rw [← hw13] at HCN HN13 HB13 HBL HSD ⊢
              rw [← hnb] at HCN ⊢
              have hnbs : nb < w13.heap.size := World.block_lt_of_cell? w13 _ (HCN.out 0 (by decide))
              have HNZ : Hid (∀ j, j < 5 → InR ([m.st, m.li, m.lt, m.lb, (m.ss.length : Int)].getD j 0)) := Lib.hid (fun j hj => by match j, hj with
              | 0, _ => exact HM.out.st
              | 1, _ => exact HM.out.li
              | 2, _ => exact HM.out.lt
              | 3, _ => exact HM.out.lb
              | 4, _ => exact (show -9223372036854775808 ≤ (m.ss.length : Int) ∧ (m.ss.length : Int) ≤ 9223372036854775807 by have := HPR.out.ss; omega))
              obtain ⟨five, hfive⟩ : ∃ n, n = [m.st, m.li, m.lt, m.lb, (m.ss.length : Int)] := ⟨_, rfl⟩
              have HNL : Hid (five.length = 5) := Lib.hid (by rw [hfive]; rfl)
              rw [← hfive] at HCN HNZ HEN
              clear hw13 hnb hfive c0 c1 c2 c3 c4 c5 c6 c7 c8 c9 c10 c11 c12 c13 c14 c15 c16
              have hB13 : Bs w13 (b + 1) v12 (M3 ++ numsE (five.take 0)) := by simpa [numsE] using HB13.out
              go_wp2_with fail
              go_loopw [7, 118] (fun bv iv wr => ∃ j : Nat, j ≤ 5 ∧ iv = .int .i64 j ∧ Bs wr (b + 1) bv (M3 ++ numsE (five.take j)) ∧ Below w13.heap.size w13 wr) (fun _ iv _ => 5 - (intOf iv).toNat)
              case atStart => exact ⟨0, Nat.zero_le _, rfl, hB13, Below.refl _ _⟩
              case round =>
                obtain ⟨j, hj, rfl, HBS, hb⟩ := hrel
                clear hB13
                by_cases hlt : j < 5
                · have hcell := (hb.cell (p := ⟨nb, 0 + j, none⟩) hnbs).trans (HCN.out j hlt)
                  rw [Nat.zero_add] at hcell
                  have hz := HNZ.out j hlt
                  have hj0 : (0 : Int) ≤ (j : Int) := by omega
                  have hji : (j : Int) < (5 : Int) := by omega
                  have t2 : IntKind.i64.wrap ((j : Int) + 1) = (j : Int) + 1 := IntWalk.i64_in _ (by omega)
                  have HSN := Lib.hid (numsE_snoc five j (by rw [HNL.out]; exact hlt))
                  have hMl : (M3 ++ numsE (five.take j)).length ≤ 54 + 65549 * 4 + 1 + 30 := by rw [List.length_append, numsE_length, List.length_take]; omega
                  generalize five.getD j 0 = z at *
                  have bN := (Below.refl _ wr).alloc (Nat.le_refl _) (.cells #[.int .i64 z] 3)
                  have HNM := Lib.hid (num_w u7 (M3 ++ numsE (five.take j)) (b + 1) wr.heap.size z (wr.alloc (.cells #[.int .i64 z] 3)) (HBS.below bN).src (by simp) (cells_new (j := 0) rfl) (by omega) hz (by have := hb.size; have := bN.size; have := HN13.out.lt; omega))
                  have HBb := Lib.hid hb
                  clear HBS hb hMl hz
                  go_wp2_with fail
                  refine HNM.out.mono ?_
                  rintro e w14 ⟨v14, rfl, B14, b14⟩
                  have HR := Lib.hid (B14.mk (show _ = M3 ++ numsE (five.take (j + 1)) by rw [HSN.out, List.append_assoc]))
                  have bb := HBb.out.trans ((bN.trans (b14.mono bN.size)).mono HBb.out.size)
                  clear HNM B14 b14 bN HBb hcell
                  go_wp2_with fail
                  go_roundw
                  case rel => exact ⟨j + 1, by omega, by go_num, HR.out, bb⟩
                  case measure => simp [intOf]; omega
                · obtain rfl : j = 5 := by omega
                  try rw [show ((5 : Nat) : Int) = 5 from rfl]
                  have hlt2 : decide ((5 : Int) < (5 : Int)) = false := by simp
                  rw [List.take_of_length_le (by rw [HNL.out]; omega)] at HBS
                  obtain ⟨w14, rfl⟩ : ∃ w14, w14 = wr := ⟨_, rfl⟩
                  have N14 := HN13.out.below hb
                  have bO := HBL.out.trans (hb.mono HBL.out.size)
                  obtain ⟨M4, hM4⟩ : ∃ M, M = M3 ++ numsE five := ⟨_, rfl⟩
                  have hM4l : M4.length ≤ 54 + 65549 * 4 + 1 + 30 := by rw [hM4, List.length_append, numsE_length, HNL.out]; omega
                  rw [← hM4] at HBS HEN
                  obtain ⟨⟨c0, c1, c2, c3, c4, c5, c6, c7, c8, c9, c10, c11, c12, c13, c14, c15, c16⟩, _⟩ := MgB.cells N14
                  have HN14 := Lib.hid N14
                  have HSE := Lib.hid (HSD.out.below hb)
                  have HBO := Lib.hid bO
                  have hB14 : Bs w14 (b + 1) u7 (M4 ++ numsE (m.ss.take 0)) := by simpa [numsE] using HBS
                  have hbl14 : b + 1 ≤ w14.heap.size := N14.lt
                  have hss64 := HPR.out.ss
                  clear hM4 HBS N14 hb HN13 HB13 HBL HCN HNZ HNL hnbs bO HSD
                  go_wp2_with fail
                  go_loopw [7, 131] (fun bv iv wr => ∃ j : Nat, j ≤ m.ss.length ∧ iv = .int .i64 j ∧ Bs wr (b + 1) bv (M4 ++ numsE (m.ss.take j)) ∧ Below w14.heap.size w14 wr) (fun _ iv _ => m.ss.length - (intOf iv).toNat)
                  case atStart => exact ⟨0, Nat.zero_le _, rfl, hB14, Below.refl _ _⟩
                  case round =>
                    obtain ⟨j, hj, rfl, HBS, hb⟩ := hrel
                    clear hB14 c0 c1 c2 c3 c4 c5 c6 c7 c8 c9 c10 c11 c12 c13 c14 c15 c16
                    by_cases hlt : j < m.ss.length
                    · obtain ⟨hzb, g, off, rfl, hcell⟩ := HSE.out.at hb hlt
                      have hj0 : (0 : Int) ≤ (j : Int) := by omega
                      have hji : (j : Int) < (m.ss.length : Int) := by omega
                      have t2 : IntKind.i64.wrap ((j : Int) + 1) = (j : Int) + 1 := IntWalk.i64_in _ (by omega)
                      have HSN := Lib.hid (numsE_snoc m.ss j hlt)
                      have hMl : (M4 ++ numsE (m.ss.take j)).length ≤ 54 + 65549 * 4 + 1 + 30 + 384 := by rw [List.length_append, numsE_length, List.length_take]; omega
                      generalize m.ss.getD j 0 = z at *
                      have ez : IntKind.i64.wrap z = z := IntWalk.i64_in _ (by omega)
                      have bN := (Below.refl _ wr).alloc (Nat.le_refl _) (.cells #[.int .i64 z] 3)
                      have HNM := Lib.hid (num_w u7 (M4 ++ numsE (m.ss.take j)) (b + 1) wr.heap.size z (wr.alloc (.cells #[.int .i64 z] 3)) (HBS.below bN).src (by simp) (cells_new (j := 0) rfl) (by omega) (by unfold InR; omega) (by have := hb.size; have := bN.size; omega))
                      have HBb := Lib.hid hb
                      clear HBS hb hMl hzb
                      go_wp2_with fail
                      refine HNM.out.mono ?_
                      rintro e w15 ⟨v15, rfl, B15, b15⟩
                      have HR := Lib.hid (B15.mk (show _ = M4 ++ numsE (m.ss.take (j + 1)) by rw [HSN.out, List.append_assoc]))
                      have bb := HBb.out.trans ((bN.trans (b15.mono bN.size)).mono HBb.out.size)
                      clear HNM B15 b15 bN HBb hcell ez
                      go_wp2_with fail
                      go_roundw
                      case rel => exact ⟨j + 1, by omega, by go_num, HR.out, bb⟩
                      case measure => simp [intOf]; omega
                    · obtain rfl : j = m.ss.length := by omega
                      have hlt2 : decide ((m.ss.length : Int) < (m.ss.length : Int)) = false := by simp
                      rw [List.take_length] at HBS
                      obtain ⟨w15, rfl⟩ : ∃ w15, w15 = wr := ⟨_, rfl⟩
                      have N15 := HN14.out.below hb
                      have bP := HBO.out.trans (hb.mono HBO.out.size)
                      obtain ⟨M5, hM5⟩ : ∃ M, M = M4 ++ numsE m.ss := ⟨_, rfl⟩
                      have hM5l : M5.length ≤ 54 + 65549 * 4 + 1 + 30 + 384 := by rw [hM5, List.length_append, numsE_length]; omega
                      rw [← hM5] at HBS HEN
                      have HML := Lib.hid hM5l
                      have HDA := Lib.hid HPR.out.da
                      have hbl15 : b + 1 ≤ w15.heap.size := N15.lt
                      have HDW : Hid (∀ W : World, Below w15.drew.heap.size w15.drew W → Below w.heap.size w W ∧ MgB W b (.slice a m.es.length cap) (.slice sa m.ss.length scap) m ∧ b + 1 ≤ W.heap.size ∧ Bs W (b + 1) u7 M5) := Lib.hid fun W hW => by
                        have hW' : Below w15.heap.size w15 W := (Below.refl _ w15).drew.trans (hW.mono (Nat.le_refl _))
                        exact ⟨bP.trans (hW'.mono bP.size), N15.below hW', Nat.le_trans hbl15 hW'.size, HBS.below hW'⟩
                      clear hM5 hM5l HBS N15 hb HN14 HBO bP HSE hlt
                      go_upto_region 32 with fail
                      refine wp_region_steps_tail 9 0 (F32 u7 (b + 1) b M5 m.pa m.da) (fun x y => Below x.heap.size x y) (by kernel_rfl) (by kernel_rfl) (by kernel_rfl) (by kernel_rfl) (by kernel_rfl) (by kernel_rfl) (Below.refl _ _) (fun i v x y _ h hb => F32_keep i h hb) (fun x y z h1 h2 => h1.trans (h2.mono h1.size)) ?_ ?_
                      · intro i o hi ho x W hR hF hX
                        obtain ⟨⟨c0, c1, c2, c3, c4, c5, c6, c7, c8, c9, c10, c11, c12, c13, c14, c15, c16⟩, _⟩ := MgB.cells (HDW.out W hR).2.1
                        have hml := HML.out
                        match i, ho with
                        | 0, ho =>
                          obtain rfl := Option.some.inj ho
                          exact gstep_move rfl (wanted0 rfl) _ rfl _ (eval_at 7 9 _ (by kernel_rfl) (show 7 < 197 by decide) ((hX 9 _ (by decide) rfl).trans rfl)) ⟨_, rfl, rfl, Below.refl _ _⟩
                        | 1, ho =>
                          obtain rfl := Option.some.inj ho
                          exact gstep_field rfl (wanted0 rfl) _ _ _ rfl _ (eval_of 2 _ (by kernel_rfl) rfl) _ (run_fM12 W _) ⟨_, rfl, rfl, Below.refl _ _⟩
                        | 2, ho =>
                          obtain rfl := Option.some.inj ho
                          exact gstep_load rfl (wanted0 rfl) _ _ rfl _ (eval_at 142 1 _ (by kernel_rfl) (show 142 < 197 by decide) (hF 1 (by kernel_rfl))) _ (run_ldI W _ _ c15) ⟨_, rfl, rfl, Below.refl _ _⟩
                        | 3, ho =>
                          obtain rfl := Option.some.inj ho
                          exact gstep_row1 rfl (wanted0 rfl) _ _ rfl _ (eval_at 143 2 _ (by kernel_rfl) (show 143 < 197 by decide) (hF 2 (by kernel_rfl))) _ _ (run_row1I W _) ⟨_, rfl, ⟨W.heap.size, rfl, by simp, cells_new (j := 0) rfl⟩, (Below.refl _ W).alloc (Nat.le_refl _) _⟩
                        | 4, ho =>
                          obtain rfl := Option.some.inj ho
                          obtain ⟨g, hg1, hg2, hg3⟩ := hF 3 (by kernel_rfl)
                          refine gstep_call2 rfl (wanted0 rfl) _ _ _ _ rfl _ _ (eval_at 141 0 _ (by kernel_rfl) (show 141 < 197 by decide) (hF 0 (by kernel_rfl))) (eval_at 144 3 _ (by kernel_rfl) (show 144 < 197 by decide) hg1) (call_n2 W _ _) ?_
                          refine (num_w u7 M5 (b + 1) g m.pa W (HDW.out W hR).2.2.2.src hg2 hg3 (by omega) HM.out.pa (HDW.out W hR).2.2.1).mono ?_
                          rintro e W2 ⟨v, rfl, hB, hb⟩
                          exact ⟨_, rfl, _, rfl, hB, hb⟩
                        | 5, ho =>
                          obtain rfl := Option.some.inj ho
                          exact gstep_field rfl (wanted0 rfl) _ _ _ rfl _ (eval_of 2 _ (by kernel_rfl) rfl) _ (run_fM13 W _) ⟨_, rfl, rfl, Below.refl _ _⟩
                        | 6, ho =>
                          obtain rfl := Option.some.inj ho
                          exact gstep_load rfl (wanted0 rfl) _ _ rfl _ (eval_at 146 5 _ (by kernel_rfl) (show 146 < 197 by decide) (hF 5 (by kernel_rfl))) _ (run_ldS W _ _ c16) ⟨_, rfl, rfl, Below.refl _ _⟩
                        | 7, ho =>
                          obtain rfl := Option.some.inj ho
                          exact gstep_row1 rfl (wanted0 rfl) _ _ rfl _ (eval_at 147 6 _ (by kernel_rfl) (show 147 < 197 by decide) (hF 6 (by kernel_rfl))) _ _ (run_row1S W _) ⟨_, rfl, ⟨W.heap.size, rfl, by simp, cells_new (j := 0) rfl⟩, (Below.refl _ W).alloc (Nat.le_refl _) _⟩
                        | 8, ho =>
                          obtain rfl := Option.some.inj ho
                          obtain ⟨g, hg1, hg2, hg3⟩ := hF 7 (by kernel_rfl)
                          have h4 : Bs W (b + 1) (x 4) (M5 ++ numsE [m.pa]) := hF 4 (by kernel_rfl)
                          refine gstep_call2 rfl (wanted0 rfl) _ _ _ _ rfl _ _ (eval_at 145 4 _ (by kernel_rfl) (show 145 < 197 by decide) rfl) (eval_at 148 7 _ (by kernel_rfl) (show 148 < 197 by decide) hg1) (call_t2 W _ _) ?_
                          refine (text_w (x 4) (M5 ++ numsE [m.pa]) (b + 1) g m.da W h4.src hg2 hg3 (by rw [List.length_append, numsE_length]; simp only [List.length_cons, List.length_nil]; omega) (by have := HDA.out; omega) (HDW.out W hR).2.2.1).mono ?_
                          rintro e W2 ⟨v, rfl, hB, hb⟩
                          exact ⟨_, rfl, _, rfl, hB, hb⟩
                        | n + 9, ho => omega
                      · intro x W hR hF
                        have h8 : Bs W (b + 1) (x 8) ((M5 ++ numsE [m.pa]) ++ textsE [m.da]) := hF 8 (by decide)
                        rw [← HEN.out] at h8
                        obtain ⟨bQ, N16, _⟩ := HDW.out W hR
                        have hel := encM_length m
                        have hef := encEs_len m.es
                        have hxt := textE_length m.da.data.toList
                        have hes4 := HPR.out.es
                        have hE0 : 0 < (encM m).length := by omega
                        have hE1 : (encM m).length ≤ 1000000 := by omega
                        obtain ⟨g6, cp6, hx8, _⟩ := h8.cut hE0
                        rw [hx8] at h8
                        refine gstep_assign rfl (wanted0 rfl) _ rfl _ (eval_at 149 8 _ (by kernel_rfl) (show 149 < 197 by decide) hx8) ?_
                        unfold tailK
                        simp only [putAll, Act.put, List.setIfInBounds_toArray, List.set_cons_succ, List.set_cons_zero]
                        have hSd : S.data.toList = encM m := by rw [HSQ.out]
                        have hSz : S.size = (encM m).length := by rw [HSQ.out, size_arr]
                        have HSQ2 := HSQ.out
                        have HST : Hid (∀ W2 : World, Below W.heap.size W W2 → (convert 35 9 (.slice (some ⟨g6, 0, none⟩) (encM m).length cp6)).run Try.prog W2 = .ok (.string S) W2) := Lib.hid fun W2 hW2 => by
                          have h := run_str (h8.below hW2).src
                          rw [← HSQ2] at h; exact h
                        have HRD := Lib.hid (fun W2 : World => mread_any S W2 (by omega))
                        rw [hSd, HRG.out trivial] at HRD
                        obtain ⟨nl, hnl⟩ : ∃ nl, nl = (encM m).length := ⟨_, rfl⟩
                        have HNL := Lib.hid hnl
                        rw [← hnl] at HST hSz hE0 hE1 ⊢
                        have HSd := Lib.hid hSd
                        have HN16 := Lib.hid N16
                        have HOE := Lib.hid (EnsR.oks HE.out)
                        have HOS := Lib.hid (SmsR.oks HS.out)
                        have HES := Lib.hid hes4
                        have HSS := Lib.hid HPR.out.ss
                        clear hF hR HDW h8 hx8 hel hef hxt hes4 HSQ2 hSd hnl N16 HEN HML HDA hss64
                        generalize x 0 = q0
                        generalize x 1 = q1
                        generalize x 2 = q2
                        generalize x 3 = q3
                        generalize x 4 = q4
                        generalize x 5 = q5
                        generalize x 6 = q6
                        generalize x 7 = q7
                        go_wp2_with fail
                        refine (HRD.out _).mono ?_
                        rintro e W1 ⟨u1, v1, rfl, O1, S1, b1⟩
                        obtain ⟨a1', c1', rfl, _⟩ := RowG.form O1
                        obtain ⟨s1', d1', rfl, _⟩ := RowG.form S1
                        have R1 := ERow.ensR O1 (Nat.le_trans HES.out (show 4 ≤ maxLen by decide)) HOE.out
                        have T1 := SRow.smsR S1 (Nat.le_trans HSS.out (show 64 ≤ maxLen by decide)) HOS.out
                        obtain ⟨W2, hst2, X2, b2⟩ := newM W1 m.es.length c1' m.ss.length d1' a1' s1' m
                        have b12 := b1.trans (b2.mono b1.size)
                        have bR := bQ.trans (b12.mono bQ.size)
                        have HX2 := Lib.hid X2
                        have HR2' := Lib.hid (R1.below b2)
                        have HT2' := Lib.hid (T1.below b2)
                        have HB12 := Lib.hid b12
                        unfold mgV at hst2 ⊢
                        have HST2 := Lib.hid hst2
                        obtain ⟨uu, hu, hu16⟩ : ∃ u : Nat, bits .and .i64 a1 65535 = (u : Int) ∧ u < 65536 := ⟨(a1 % 65536).toNat, by rw [i64_and16]; omega, by omega⟩
                        have hnz : ¬ (nl : Int) = 0 := by omega
                        have hb0 : (0 : Int) ≤ (uu : Int) % (nl : Int) := Int.emod_nonneg _ hnz
                        have hb1 : (uu : Int) % (nl : Int) ≤ (nl : Int) := Int.le_of_lt (Int.emod_lt_of_pos _ (by omega))
                        have HNlt : Hid (uu % nl < nl) := Lib.hid (Nat.mod_lt _ (by omega))
                        clear HRD O1 S1 b1 b2 b12 X2 R1 T1 hst2 bQ
                        go_wp2_with (refine wpList_store_run HST2.out rfl rfl rfl rfl ?_)
                        obtain ⟨N, hN⟩ : ∃ N, N = uu % nl := ⟨_, rfl⟩
                        rw [← hN] at HNlt ⊢
                        obtain ⟨S2, hS2⟩ : ∃ S2, S2 = S.extract 0 N := ⟨_, rfl⟩
                        have hcut : S2.data.toList = (encM m).take N := by rw [hS2, Lib.extract_data, HSd.out, List.drop_zero, Nat.sub_zero]
                        have hS2z : S2.size ≤ 1000000 := by rw [Lib.size_eq, hcut, List.length_take, ← HNL.out]; omega
                        rw [← hS2]
                        have HRD2 := Lib.hid (mread_any S2 W2 (by omega))
                        rw [hcut, HRC.out N trivial (by rw [← HNL.out]; exact HNlt.out)] at HRD2
                        clear hN hb0 hb1 hS2 hcut hS2z HNlt HST2 hnz hu
                        refine HRD2.out.mono ?_
                        rintro e W3 ⟨un, vn, rfl, O3, S3, b3⟩
                        obtain ⟨an, cn, rfl, _⟩ := RowG.form O3
                        obtain ⟨sn, dn, rfl, _⟩ := RowG.form S3
                        obtain ⟨W4, hst4, Z4, b4⟩ := newM W3 0 cn 0 dn an sn Mg.zero
                        have b34 := b3.trans (b4.mono b3.size)
                        have bS := bR.trans (b34.mono bR.size)
                        have bW4 := HB12.out.trans (b34.mono HB12.out.size)
                        have N4 := HN16.out.below bW4
                        have X4 := HX2.out.below b34
                        have hcv := HST.out W4 bW4
                        have hee : (S.toList == S.toList) = true := by simp
                        have HSM := Lib.hid (msame_any _ _ _ _ m m W4 (HR2'.out.below b34) (HT2'.out.below b34) (HE.out.below bS) (HS.out.below bS))
                        rw [eqB_self] at HSM
                        have hl1 := run_loadM N4
                        have hl2 := run_loadM X4
                        rw [show Mg.zero.es.length = 0 from rfl, show Mg.zero.ss.length = 0 from rfl]
                        simp only [mgV, Mg.zero] at hst4 ⊢
                        unfold mgV at HSM hl1 hl2
                        have HST4 := Lib.hid hst4
                        have HL1 := Lib.hid hl1
                        have HL2 := Lib.hid hl2
                        have HN4 := Lib.hid N4
                        have HX4 := Lib.hid X4
                        have HZ4 := Lib.hid Z4
                        have HB34 := Lib.hid b34
                        clear HRD2 O3 S3 b3 b4 b34 N4 X4 Z4 hst4 hl1 hl2 bR bW4 HX2 HST HN16
                        go_wp2_with (first | (refine wpList_store_run HST4.out rfl rfl rfl rfl ?_) | (refine wpList_load_g HL1.out rfl rfl (by rfl) ?_) | (refine wpList_load_g HL2.out rfl rfl (by rfl) ?_))
                        refine HSM.out.mono ?_
                        rintro e W5 ⟨rfl, b5⟩
                        have N5 := HN4.out.below b5
                        have X5 := HX4.out.below b5
                        have Z5 := HZ4.out.below b5
                        have bT := bS.trans (b5.mono bS.size)
                        have b35 := HB34.out.trans (b5.mono HB34.out.size)
                        have HSM2 := Lib.hid (msame_any _ _ _ _ m m W5 (HE.out.below bT) (HS.out.below bT) (HR2'.out.below b35) (HT2'.out.below b35))
                        rw [eqB_self] at HSM2
                        have hl1 := run_loadM N5
                        have hl2 := run_loadM X5
                        unfold mgV at HSM2 hl1 hl2
                        have HL3 := Lib.hid hl1
                        have HL4 := Lib.hid hl2
                        have HZ5 := Lib.hid Z5
                        clear HSM HST4 HL1 HL2 HN4 HX4 HZ4 N5 X5 Z5 bS b35 b5 hl1 hl2 hcv hee
                        go_wp2_with (first | (refine wpList_load_g HL3.out rfl rfl (by rfl) ?_) | (refine wpList_load_g HL4.out rfl rfl (by rfl) ?_))
                        refine HSM2.out.mono ?_
                        rintro e W6 ⟨rfl, b6⟩
                        have Z6 := HZ5.out.below b6
                        obtain ⟨⟨z0, _⟩, _⟩ := MgB.cells Z6
                        simp only [Mg.zero] at z0
                        clear Z6 HZ5
                        go_wp2_with fail
                        go_ret
                        exact ⟨rfl, bT.trans (b6.mono bT.size)⟩

theorem own : ownKnob Try.prog.godebug = none := by kernel_rfl
theorem laidOut : laidOutB Try.prog = true := by kernel_rfl

set_option maxRecDepth 100000 in
theorem lifted (os : Os) (started : os.Started) (H : Type) (enc : TypeId × Value → H) :
    ReturnsInHanded {} Try.checked os 3 .any (Rows.msgBytesSpec.pre6 enc Try.prog Try.f3 Rows.msgBytesRow.domain false) (Rows.msgBytesSpec.post enc Try.prog Try.f3 false true false false) := by
  refine returnsInHanded_of_change (C := Try.checked) own started (by kernel_rfl) Try.func3
    (ChangeSpec.witness6 (enc := enc) (C := Try.checked) false ⟨#[], #[.agg #[.int .i64 0, .int .i64 0, .int .i64 0, .int .i64 0, .int .i64 0, .int .i64 0, .int .i64 0, .int .i64 0, .slice none 0 0, .bool false, .int .i64 0, .int .i64 0, .int .i64 0, .int .i64 0, .slice none 0 0, .int .i64 0, .string ByteArray.empty], .int .i64 0], []⟩ 8 (by kernel_rfl) (by kernel_rfl) (by kernel_rfl) (by kernel_rfl)) ?_
  intro W base args ds gs before hval0 hW hcnd _
  have hval : ∀ (j : Nat) t v, Try.f3.params[j]? = some t → args[j]? = some v → Value.okWide Try.prog W .any base t v := hval0
  have hW' := hW
  obtain ⟨p, q, hA0, hV, rfl, hfz, hnd⟩ := hW
  have hA : DataW.TrodAll enc Try.prog W 0 (fun _ => true) true Try.f3.params.toList args.toList ds p := hA0
  rw [Try.params3] at hA hval
  obtain ⟨v0, vs0, d0, ds0, p0, q0, hargs, rfl, rfl, h0, r0⟩ := trodAll_cons hA
  obtain ⟨v1, vs1, d1, ds1, p1, q1, rfl, rfl, rfl, h1, r1⟩ := trodAll_cons r0
  obtain ⟨rfl, rfl, rfl⟩ := trodAll_nil r1
  obtain rfl : args = #[v0, v1] := by cases args; simp_all
  obtain ⟨rfl, rfl⟩ := trodVars_none hV
  have k0 := h0
  have lt0 : ∀ x ∈ p0, x.block < W.heap.size := by obtain ⟨m, hm⟩ := k0; exact DataW.trod_lt m _ _ _ hm
  obtain ⟨z0, w0⟩ := msg_of (hval 0 29 v0 rfl rfl) h0
  obtain ⟨a1, rfl, rfl, rfl, w1⟩ := open_int Try.underlying3 (hval 1 3 v1 rfl rfl) h1
  clear hA0 hval0
  refine (walk v0 z0 a1 W w0 w1).mono fun e W' ⟨he, bel⟩ => ?_
  subst he
  exact ⟨_, rfl, _, _, _, [], _, [], hW', trodAll_mk1 (shut_bool Try.underlying4 _), (trodAll_cons_mk (Below.trod laidOut (by kernel_rfl) (of_decide_eq_true (by kernel_rfl)) k0 bel lt0) (trodAll_cons_mk (shut_int Try.underlying3 w1) trodAll_mk0)), rfl, bel.frame _, fun h => by cases h⟩

theorem over : Rows.msgBytesRow.holds Try.pinned (OpenSpec.ofChange Rows.msgBytesSpec) :=
  OpenClaim.holds_of_wide 3 Try.f3 rfl rfl rfl rfl rfl rfl rfl ⟨rfl, rfl, rfl, rfl, rfl⟩ rfl rfl rfl rfl rfl (by kernel_rfl) Try.func3 (by kernel_rfl)
    (of_decide_eq_true (by kernel_rfl)) (by unfold Func.isWrapper; first | (rw [if_pos (by decide +kernel)]; kernel_rfl) | (rw [if_neg (by decide +kernel)]; exact ⟨rfl, rfl⟩))
    (fun os started H enc _ => lifted os started H enc)

theorem proved : Rows.MsgBytesSaid := over
end Go.Proofs.Ytddkbninkncbeaa.msgBytes
