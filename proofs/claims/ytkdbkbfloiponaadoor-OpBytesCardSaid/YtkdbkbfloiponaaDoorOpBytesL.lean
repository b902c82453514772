/- OpBytes: any command as bytes, and back; what can't be is told; cut off it is none; no condition on the input. -/
import Derived.Test.YtkdbkbfloiponaaDoorOpTouch
import Derived.Test.YtkdbkbfloiponaaDoorInvar5
import Derived.Test.YtkdbkbfloiponaaDoorCards
import Derived.Test.YtkdbkbfloiponaaDoorTie
import Derived.ProofKit
import Derived.OpenShut
import Derived.ShutString
import Derived.ChangeOld
import Derived.Deep.DeepHandedRow
import Derived.Lib.LaidTab
import Derived.Stop.LaidErr
import Derived.Lay
namespace Go.Proofs.YtkdbkbfloiponaaDoor.opBytes
open Go.ChangeShapes Go.WideShapes Go.ChangeAt Go.RowKit
open Go.ChangeMaps (open_string shut_string)
set_option linter.unusedVariables false
set_option maxRecDepth 100000
theorem i64_and65535 (n : Int) : bits .and .i64 n 65535 = n % 65536 := by
  have h127 : (BitVec.ofInt 64 65535).toNat = 2 ^ 16 - 1 := by decide
  have key : (BitVec.ofInt 64 n &&& BitVec.ofInt 64 65535).toNat = (n % ((2 ^ 64 : Nat) : Int)).toNat % 2 ^ 16 := by
    rw [BitVec.toNat_and, BitVec.toNat_ofInt, h127, Nat.and_two_pow_sub_one_eq_mod]
  show IntKind.i64.wrap ((BitVec.ofInt 64 n &&& BitVec.ofInt 64 65535).toNat : Nat) = n % 65536
  rw [key, IntKind.wrap_i64]
  omega
/-- What was encoded is read, whatever follows it. -/
theorem rdC_goodr (c : Cm) (r : List UInt8) (h : rightC c = true) : rdC (some (encC c ++ r)) = (c, some r) := by
  obtain ⟨q1, q2, q3, q4, q5, q6, q7⟩ := rightC_parts h
  have he : encC c ++ r = numE c.kind ++ (numE c.ses ++ (numE c.req ++ (numE c.noted ++ (numE (c.ops.length : Int) ++ (c.ops.flatMap encO ++ (textE c.path.data.toList ++ (flagE c.kids ++ (flagE c.once ++ r)))))))) := by
    unfold encC headE; rw [numsE_five, textsE_one, flagsE_two]; simp
  have hk : rdK (some (encC c ++ r)) = ⟨c.kind, c.ses, c.req, c.noted, c.ops.length, some (c.ops.flatMap encO ++ (textE c.path.data.toList ++ (flagE c.kids ++ (flagE c.once ++ r)))), c.path.data.toList, c.kids, c.once, some r⟩ := by
    rw [he]
    unfold rdK
    rw [numF_good _ _ _ (by omega) (by omega) (by decide)]
    simp only
    rw [numF_good _ _ _ (by omega) (by omega) (by decide)]
    simp only
    rw [numF_good _ _ _ (by omega) (by omega) (by decide)]
    simp only
    rw [numF_good _ _ _ (by omega) (by omega) (by decide)]
    simp only
    rw [numF_good _ _ _ (by omega) (by omega) (by decide)]
    simp only
    rw [Int.toNat_natCast, rdOs_good _ _ q4 _ (Nat.le_refl _), List.drop_length]
    simp only [List.flatMap_nil, List.nil_append]
    rw [textF_good _ _ _ (by rw [← Lib.size_eq]; omega) (by decide)]
    simp only
    rw [flagF_good]
    simp only
    rw [flagF_good]
  unfold rdC
  rw [hk]
  simp only [arr_mk]
  rw [rdOs_good _ _ q4 _ (Nat.le_refl _), List.take_length]
/-- Cut off it is none. -/
theorem readC_cut (c : Cm) (N : Nat) (h : rightC c = true) (hN : N < (encC c).length) : readC ((encC c).take N) = (Cm.zero, 2) := by
  refine readC_two fun he => ?_
  obtain ⟨h1, h2, _⟩ := readC_some he
  obtain ⟨c', hc'⟩ : ∃ c', c' = (readC ((encC c).take N)).1 := ⟨_, rfl⟩
  rw [← hc'] at h1 h2
  have e1 := rdC_goodr c [] h
  rw [List.append_nil] at e1
  have e2 := rdC_goodr c' ((encC c).drop N) h2
  rw [h1, List.take_append_drop, e1] at e2
  injection e2 with e3 e4
  injection e4 with e5
  have := congrArg List.length e5
  rw [List.length_drop, List.length_nil] at this
  omega
theorem run_loadCm (W : World) (b : Nat) (v : Value) (c : Cm) (a : Option Addr) (n cp : Nat) (hv : v = .slice a n cp) (h : CmB W b v c) : (Instr.loadAt 25 (.pointer (some ⟨b, 0, none⟩))).run Tryd.prog W = .ok (cmV v c) W := by
  subst hv
  obtain ⟨⟨c0, c1, c2, c3, c4, c5, c6, c7⟩, _⟩ := h.cells
  unfold cmV
  go_simp
theorem call_r1 (W : World) (v : Value) : (callFunc 8 #[v]).run Tryd.prog W = .ok (.enter 8 #[v]) W := by kernel_rfl
theorem call_r2 (W : World) (v : Value) : (callFunc 9 #[v]).run Tryd.prog W = .ok (.enter 9 #[v]) W := by kernel_rfl
theorem call_t2 (W : World) (v u : Value) : (callFunc 11 #[v, u]).run Tryd.prog W = .ok (.enter 11 #[v, u]) W := by kernel_rfl
theorem call_f2 (W : World) (v u : Value) : (callFunc 12 #[v, u]).run Tryd.prog W = .ok (.enter 12 #[v, u]) W := by kernel_rfl
theorem run_neB (W : World) (r : Bool) (s1 s2 : Operand) : (do eqGuard .neq 4 s1 s2 (.bool r) (.bool r); binOp .neq 4 (.bool r) (.bool r) : Sem Value).run Tryd.prog W = .ok (.bool false) W := by go_simp
theorem run_fC5 (W : World) (b : Nat) : (Instr.fieldAt 25 (.pointer (some ⟨b, 0, none⟩)) 5).run Tryd.prog W = .ok (.pointer (some ⟨b, 5, none⟩)) W := by go_simp
theorem run_fC6 (W : World) (b : Nat) : (Instr.fieldAt 25 (.pointer (some ⟨b, 0, none⟩)) 6).run Tryd.prog W = .ok (.pointer (some ⟨b, 6, none⟩)) W := by go_simp
theorem run_fC7 (W : World) (b : Nat) : (Instr.fieldAt 25 (.pointer (some ⟨b, 0, none⟩)) 7).run Tryd.prog W = .ok (.pointer (some ⟨b, 7, none⟩)) W := by go_simp
theorem run_ldS (W : World) (p : Addr) (z : ByteArray) (h : W.cell? p = some (.string z)) : (Instr.loadAt 9 (.pointer (some p))).run Tryd.prog W = .ok (.string z) W := by go_simp
theorem run_ldB (W : World) (p : Addr) (z : Bool) (h : W.cell? p = some (.bool z)) : (Instr.loadAt 4 (.pointer (some p))).run Tryd.prog W = .ok (.bool z) W := by go_simp
theorem run_row1S (W : World) (z : ByteArray) : (Instr.buildSlice 49 1 #[(0, .string z)]).run Tryd.prog W = .ok (.slice (some ⟨W.heap.size, 0, none⟩) 1 1) (W.alloc (.cells #[.string z] 9)) := by go_simp
theorem run_row2B (W : World) (x y : Bool) : (Instr.buildSlice 50 2 #[(0, .bool x), (1, .bool y)]).run Tryd.prog W = .ok (.slice (some ⟨W.heap.size, 0, none⟩) 2 2) (W.alloc (.cells #[.bool x, .bool y] 4)) := by go_simp
theorem gstep_row2 {P : Program} {Q : Exit → Act → World → Prop} {l : List Oper} {i : Nat} {o : Oper} {a : Act} {w : World} {K : Act → World → Prop} (ho : l[i]? = some o) (hw : WantedIs l a o true) (t : TypeId) (s1 s2 : Operand) (hop : o.op = .buildSlice t 2 #[(0, s1), (1, s2)]) (v1 v2 : Value) (he1 : a.eval s1 = v1) (he2 : a.eval s2 = v2) (v' : Value) (w' : World)
    (hr : (Instr.buildSlice t 2 #[(0, v1), (1, v2)]).run P w = .ok v' w') (h : K (a.put o.dst v') w') : Step P l Q i K a w :=
  gstep_value ho hw v' w' (by simp only [execOp, hop, List.map_toArray, List.map_cons, List.map_nil, he1, he2, Sem.run_bind, Sem.run_pure, hr, Result.andThen_ok]) h
theorem und_cm : Tryd.prog.underlying 3 = some (.int .i64) := by kernel_rfl
def F6 (v : Value) (r : Bool) : Nat → Value → World → Prop
  | 0, u, _ => u = v
  | 1, u, _ => u = .bool r
  | 2, u, _ => u = v
  | 3, u, _ => u = .bool r
  | _, _, _ => True
theorem F6_keep {v : Value} {r : Bool} (i : Nat) {u : Value} {w w' : World} (h : F6 v r i u w) : F6 v r i u w' := by
  match i, h with
  | 0, h => exact h
  | 1, h => exact h
  | 2, h => exact h
  | 3, h => exact h
  | n + 4, _ => trivial
/-- The region that ends the encoding: what each operation leaves. -/
def F22 (vb : Value) (B cb : Nat) (l : List UInt8) (p : ByteArray) (x y : Bool) : Nat → Value → World → Prop
  | 0, u, _ => u = vb
  | 1, u, _ => u = .pointer (some ⟨cb, 5, none⟩)
  | 2, u, _ => u = .string p
  | 3, u, w => ∃ g, u = .slice (some ⟨g, 0, none⟩) 1 1 ∧ g < w.heap.size ∧ w.cell? ⟨g, 0, none⟩ = some (.string p)
  | 4, u, w => Bs w B u (l ++ textsE [p])
  | 5, u, _ => u = .pointer (some ⟨cb, 6, none⟩)
  | 6, u, _ => u = .bool x
  | 7, u, _ => u = .pointer (some ⟨cb, 7, none⟩)
  | 8, u, _ => u = .bool y
  | 9, u, w => ∃ g, u = .slice (some ⟨g, 0, none⟩) 2 2 ∧ g < w.heap.size ∧ w.cell? ⟨g, 0, none⟩ = some (.bool x) ∧ w.cell? ⟨g, 1, none⟩ = some (.bool y)
  | 10, u, w => Bs w B u ((l ++ textsE [p]) ++ flagsE [x, y])
  | _, _, _ => True
theorem F22_keep {vb : Value} {B cb : Nat} {l : List UInt8} {p : ByteArray} {x y : Bool} (i : Nat) {u : Value} {w w' : World} (h : F22 vb B cb l p x y i u w) (hb : Below w.heap.size w w') : F22 vb B cb l p x y i u w' := by
  match i, h with
  | 0, h => exact h
  | 1, h => exact h
  | 2, h => exact h
  | 3, h => obtain ⟨g, h1, h2, h3⟩ := h; exact ⟨g, h1, Nat.lt_of_lt_of_le h2 hb.size, (hb.cell (p := ⟨g, 0, none⟩) h2).trans h3⟩
  | 4, h => exact Bs.below h hb
  | 5, h => exact h
  | 6, h => exact h
  | 7, h => exact h
  | 8, h => exact h
  | 9, h => obtain ⟨g, h1, h2, h3, h4⟩ := h; exact ⟨g, h1, Nat.lt_of_lt_of_le h2 hb.size, (hb.cell (p := ⟨g, 0, none⟩) h2).trans h3, (hb.cell (p := ⟨g, 1, none⟩) h2).trans h4⟩
  | 10, h => exact Bs.below h hb
  | n + 11, _ => trivial
theorem cell_lt {w : World} {g i : Nat} {v : Value} (h : w.cell? ⟨g, i, none⟩ = some v) : g < w.heap.size := World.block_lt_of_cell? w _ h
set_option maxHeartbeats 16000000 in
theorem walk (v0 : Value) (c : Cm) (a1 : Int) (w : World) (w0 : CmR w v0 c) (w1 : (Lit.int .i64 a1).wf = true) :
    Calls Tryd.prog 3 #[v0, .int .i64 a1] w fun e w' => e = .returned (.bool true) ∧ Below w.heap.size w w' := by
  have HH := Lib.hid (fun W : World => head_any W)
  obtain ⟨u, hu, hu16⟩ : ∃ u : Nat, bits .and .i64 a1 65535 = (u : Int) ∧ u < 65536 := ⟨(a1 % 65536).toNat, by rw [i64_and65535]; omega, by omega⟩
  obtain ⟨hok, sv, rfl, hO⟩ := w0
  obtain ⟨a, cap, rfl, hLm⟩ := (show ∃ a cap, sv = .slice a c.ops.length cap ∧ c.ops.length ≤ maxLen by obtain ⟨a, cap, h1, h2, _⟩ := hO; exact ⟨a, cap, h1, h2⟩)
  have HCP := Lib.hid (rightC_parts (c := c))
  have HRG := Lib.hid (readC_good c)
  have HRC := Lib.hid (fun N => readC_cut c N)
  have HBE : Hid (bytesC c = if rightC c = true then (if 488 < (encC c).length then (⟨#[]⟩, 3) else (⟨(encC c).toArray⟩, 0)) else (⟨#[]⟩, 1)) := Lib.hid rfl
  have HEN : Hid (encC c = ((headE c ++ c.ops.flatMap encO) ++ textsE [c.path]) ++ flagsE [c.kids, c.once]) := Lib.hid rfl
  have HHE : Hid (headE c = numsE [c.kind, c.ses, c.req, c.noted, (c.ops.length : Int)]) := Lib.hid rfl
  have HO := Lib.hid hO
  have HOK := Lib.hid hok
  have HFW := Lib.hid (fun (W : World) (hW : Below w.heap.size w W) => few_any (.slice a c.ops.length cap) c W ⟨hok, _, rfl, HO.out.below hW⟩)
  have HBY := Lib.hid (fun (W : World) (hW : Below w.heap.size w W) => bytes_any (.slice a c.ops.length cap) c W ⟨hok, _, rfl, HO.out.below hW⟩)
  have HR1 := Lib.hid (fun (W : World) (hW : Below w.heap.size w W) => rightcm_any (.slice a c.ops.length cap) c W ⟨hok, _, rfl, HO.out.below hW⟩)
  have HR2 := Lib.hid (fun (W : World) (hW : Below w.heap.size w W) => lright_any (.slice a c.ops.length cap) c W ⟨hok, _, rfl, HO.out.below hW⟩)
  have HTC := Lib.hid (fun (W : World) (hW : Below w.heap.size w W) => touches_any (.slice a c.ops.length cap) c W ⟨hok, _, rfl, HO.out.below hW⟩)
  have HVV : Hid (cmV (.slice a c.ops.length cap) c = .agg (cmA (.slice a c.ops.length cap) c)) := Lib.hid rfl
  have hpz := hok.path
  unfold maxLen at hpz hLm
  have bA := (Below.refl w.heap.size w).alloc (Nat.le_refl _) (.cells (cmA (.slice a c.ops.length cap) c) 25)
  have N1 := CmB.new w (.slice a c.ops.length cap) c
  rw [HVV.out] at HFW HBY HR1 HR2 HTC ⊢
  have hk1 := hok.kind
  have hk2 := hok.ses
  have hk3 := hok.req
  have hk4 := hok.noted
  unfold InR at hk1 hk2 hk3 hk4
  obtain ⟨V, hV⟩ : ∃ V, V = Value.slice a c.ops.length cap := ⟨_, rfl⟩
  have HV := Lib.hid hV
  rw [← hV] at HFW HBY HR1 HR2 HTC HVV bA N1 ⊢
  unfold cmA at HFW HBY HR1 HR2 HTC bA ⊢
  rw [hV] at HFW HBY HR1 HR2 HTC bA N1 ⊢
  clear hO hok hV
  go_enter Tryd.func3, Tryd.ntmps3
  go_upto_region 1 with fail
  obtain ⟨w2, hw2⟩ : ∃ w2, w2 = w.alloc (.cells (cmA (.slice a c.ops.length cap) c) 25) := ⟨_, rfl⟩
  have hw2' := hw2
  unfold cmA at hw2'
  rw [← hw2'] at bA
  rw [← hw2] at N1
  rw [← hw2']
  obtain ⟨cb, hcb⟩ : ∃ cb, cb = w.heap.size := ⟨_, rfl⟩
  rw [← hcb] at N1 ⊢
  have HCB := Lib.hid (show w.heap.size ≤ cb by rw [hcb]; exact Nat.le_refl _)
  have HN1 := Lib.hid N1
  clear hw2 hw2' N1 hcb
  go_wp2_with fail
  refine (HH.out _).mono ?_
  rintro e w3 ⟨rfl, b3⟩
  have bB := bA.trans (b3.mono bA.size)
  have N3 := HN1.out.below b3
  obtain ⟨⟨c0, c1, c2, c3, c4, c5, c6, c7⟩, _⟩ := N3.cells
  have HF3 := Lib.hid (HFW.out w3 bB)
  have HN3 := Lib.hid N3
  clear HFW b3 bA HN1 HH N3
  by_cases hfw : fewC c = true
  case neg =>
    have hff : fewC c = false := by simpa using hfw
    rw [hff] at HF3
    go_wp2_with fail
    refine HF3.out.mono ?_
    rintro e w4 ⟨rfl, b4⟩
    go_wp2_with fail
    go_ret
    exact ⟨rfl, bB.trans (b4.mono bB.size)⟩
  have hfl : c.ops.length ≤ 10 ∧ c.path.size ≤ 200 := by
    unfold fewC at hfw
    simp only [Bool.and_eq_true, decide_eq_true_eq] at hfw
    omega
  rw [hfw] at HF3
  clear hfw
  go_wp2_with fail
  refine HF3.out.mono ?_
  rintro e w4 ⟨rfl, b4⟩
  have bC := bB.trans (b4.mono bB.size)
  have N4 := HN3.out.below b4
  clear c0 c1 c2 c3 c4 c5 c6 c7
  obtain ⟨⟨c0, c1, c2, c3, c4, c5, c6, c7⟩, _⟩ := N4.cells
  have HB4 := Lib.hid (HBY.out w4 bC)
  have HN4 := Lib.hid N4
  clear HF3 b4 bB HN3 HBY N4
  go_wp2_with fail
  refine HB4.out.mono ?_
  rintro e w5 ⟨rfl, b5⟩
  have bD := bC.trans (b5.mono bC.size)
  have N5 := HN4.out.below b5
  clear c0 c1 c2 c3 c4 c5 c6 c7 HB4 b5 bC HN4
  obtain ⟨S, hS⟩ : ∃ S, S = (bytesC c).1 := ⟨_, rfl⟩
  obtain ⟨E, hE⟩ : ∃ E, E = (bytesC c).2 := ⟨_, rfl⟩
  rw [← hS, ← hE]
  have HS := Lib.hid hS
  have HE := Lib.hid hE
  have HN5 := Lib.hid N5
  obtain ⟨R, hR⟩ : ∃ R, R = rightC c := ⟨_, rfl⟩
  rw [← hR] at HR1 HR2 HBE HCP HRG HRC
  clear hS hE N5 hR
  go_upto_region 6 with fail
  have HDW : Hid (∀ W : World, Below w5.drew.heap.size w5.drew W → Below w.heap.size w W ∧ CmB W cb (.slice a c.ops.length cap) c) := Lib.hid fun W hW => by
    have hW' : Below w5.heap.size w5 W := (Below.refl _ w5).drew.trans (hW.mono (Nat.le_refl _))
    exact ⟨bD.trans (hW'.mono bD.size), HN5.out.below hW'⟩
  refine wp_region_steps_last 4 (F6 (cmV (.slice a c.ops.length cap) c) R) (fun x y => Below x.heap.size x y) (by kernel_rfl) (by kernel_rfl) (by kernel_rfl) (by kernel_rfl) (by kernel_rfl) (Below.refl _ _) (fun i v x y _ h _ => F6_keep i h) (fun x y z h1 h2 => h1.trans (h2.mono h1.size)) ?_ ?_
  · intro i o hi ho x W hR hF
    match i, ho with
    | 0, ho =>
      obtain rfl := Option.some.inj ho
      exact gstep_load rfl (wanted0 rfl) _ _ rfl _ (eval_of 2 _ (by kernel_rfl) rfl) _ (run_loadCm W cb _ c a _ cap rfl (HDW.out W hR).2) ⟨_, rfl, rfl, Below.refl _ _⟩
    | 1, ho =>
      obtain rfl := Option.some.inj ho
      refine gstep_call rfl (wanted0 rfl) _ _ _ rfl _ (eval_at 25 0 _ (by kernel_rfl) (show 25 < 163 by decide) (hF 0 (by kernel_rfl))) (call_r1 W _) ?_
      rw [show cmV (.slice a c.ops.length cap) c = .agg #[.int .i64 c.kind, .int .i64 c.ses, .int .i64 c.req, .int .i64 c.noted, .slice a c.ops.length cap, .string c.path, .bool c.kids, .bool c.once] from rfl]
      refine (HR1.out W (HDW.out W hR).1).mono ?_
      rintro e W2 ⟨rfl, b⟩
      exact ⟨_, rfl, _, rfl, rfl, b⟩
    | 2, ho =>
      obtain rfl := Option.some.inj ho
      exact gstep_load rfl (wanted0 rfl) _ _ rfl _ (eval_of 2 _ (by kernel_rfl) rfl) _ (run_loadCm W cb _ c a _ cap rfl (HDW.out W hR).2) ⟨_, rfl, rfl, Below.refl _ _⟩
    | 3, ho =>
      obtain rfl := Option.some.inj ho
      refine gstep_call rfl (wanted0 rfl) _ _ _ rfl _ (eval_at 27 2 _ (by kernel_rfl) (show 27 < 163 by decide) (hF 2 (by kernel_rfl))) (call_r2 W _) ?_
      rw [show cmV (.slice a c.ops.length cap) c = .agg #[.int .i64 c.kind, .int .i64 c.ses, .int .i64 c.req, .int .i64 c.noted, .slice a c.ops.length cap, .string c.path, .bool c.kids, .bool c.once] from rfl]
      refine (HR2.out W (HDW.out W hR).1).mono ?_
      rintro e W2 ⟨rfl, b⟩
      exact ⟨_, rfl, _, rfl, rfl, b⟩
    | n + 4, ho => omega
  · intro o ho x W hR hF
    obtain rfl := Option.some.inj ho
    refine gstep_bin rfl (wanted0 rfl) _ _ _ _ _ rfl _ _ (eval_at 26 1 _ (by kernel_rfl) (show 26 < 163 by decide) (hF 1 (by decide))) (eval_at 28 3 _ (by kernel_rfl) (show 28 < 163 by decide) (hF 3 (by decide))) _ (run_neB W R _ _) ?_
    simp only [putAll, Act.put, List.setIfInBounds_toArray, List.set_cons_succ, List.set_cons_zero]
    obtain ⟨bE, N6⟩ := HDW.out W hR
    clear hF hR HDW HN5 bD
    obtain ⟨⟨c0, c1, c2, c3, c4, c5, c6, c7⟩, _⟩ := N6.cells
    have HR3 := Lib.hid (HR2.out W bE)
    have HN6 := Lib.hid N6
    clear HR1 HR2 N6
    cases R with
    | false =>
      have hSE : S = ⟨#[]⟩ ∧ E = 1 := by rw [HS.out, HE.out, HBE.out]; exact ⟨rfl, rfl⟩
      obtain ⟨rfl, rfl⟩ := hSE
      clear HS HE HBE
      go_wp2_with fail
      refine HR3.out.mono ?_
      rintro e w7 ⟨rfl, b7⟩
      go_wp2_with fail
      go_ret
      exact ⟨rfl, bE.trans (b7.mono bE.size)⟩
    | true =>
      obtain ⟨q1, q2, q3, q4, q5, q6, q7⟩ := HCP.out rfl
      have HQ4 := Lib.hid q4
      have HOL := Lib.hid (show ∀ z ∈ c.ops, z.Ok from (fun z hz => rightO_ok (q4 z hz)))
      clear HCP q4
      go_wp2_with fail
      refine HR3.out.mono ?_
      rintro e w7 ⟨rfl, b7⟩
      have bF := bE.trans (b7.mono bE.size)
      have N7 := HN6.out.below b7
      clear c0 c1 c2 c3 c4 c5 c6 c7 HR3 b7 bE HN6
      obtain ⟨⟨c0, c1, c2, c3, c4, c5, c6, c7⟩, _⟩ := N7.cells
      have bN := (Below.refl _ w7).alloc (Nat.le_refl _) (.cells #[.int .i64 c.kind, .int .i64 c.ses, .int .i64 c.req, .int .i64 c.noted, .int .i64 (c.ops.length : Int)] 3)
      have HNM := Lib.hid (num_list (.slice none 0 0) [] w7.heap.size 0 5 [c.kind, c.ses, c.req, c.noted, (c.ops.length : Int)] (w7.alloc (.cells #[.int .i64 c.kind, .int .i64 c.ses, .int .i64 c.req, .int .i64 c.noted, .int .i64 (c.ops.length : Int)] 3)) (Src.nil _) (by simp) (by simp)
        (getD_five _ _ _ _ _ (fun z => -9223372036854775808 ≤ z ∧ z ≤ 9223372036854775807) hk1 hk2 hk3 hk4 (by omega))
        (fun j hj => cells_new (by match j, hj with
          | 0, _ => rfl
          | 1, _ => rfl
          | 2, _ => rfl
          | 3, _ => rfl
          | 4, _ => rfl)))
      have HN7 := Lib.hid N7
      clear N7
      go_wp2_with fail
      refine HNM.out.mono ?_
      rintro e w8 ⟨v8, rfl, B8, b8⟩
      rw [List.nil_append, ← HHE.out] at B8
      have b78 := bN.trans (b8.mono bN.size)
      have bG := bF.trans (b78.mono bF.size)
      have N8 := HN7.out.below b78
      have hcs := HCB.out
      have hcl : cb < w8.heap.size := N8.lt
      have B8' : Bs w8 (cb + 1) v8 (headE c ++ (c.ops.take 0).flatMap encO) := by
        have hc7 : cb < w7.heap.size := HN7.out.lt
        have h := B8.mono (C := cb + 1) (by simp; omega)
        simpa using h
      have hH0l : (headE c).length = 30 := by rw [HHE.out, numsE_length]; rfl
      clear c0 c1 c2 c3 c4 c5 c6 c7
      obtain ⟨⟨c0, c1, c2, c3, c4, c5, c6, c7⟩, _⟩ := N8.cells
      have HBG := Lib.hid bG
      have HN8 := Lib.hid N8
      clear HNM B8 b8 b78 bN bF HN7 N8
      go_wp2_with fail
      go_loopw [7, 8, 55] (fun ov tv iv wr => ∃ j : Nat, j ≤ c.ops.length ∧ iv = .int .i64 j ∧ tv = .bool ((c.ops.take j).all chkO) ∧ Bs wr (cb + 1) ov (headE c ++ (c.ops.take j).flatMap encO) ∧ Below w8.heap.size w8 wr) (fun _ _ iv _ => c.ops.length - (intOf iv).toNat)
      case atStart => exact ⟨0, Nat.zero_le _, rfl, by simp, B8', Below.refl _ _⟩
      case round =>
        obtain ⟨j, hj, rfl, rfl, HBS, hb⟩ := hrel
        clear B8' bG
        by_cases hlt : j < c.ops.length
        · obtain ⟨hok, g, off, hae, h0, h1, h2, h3, h4, h5⟩ := (HO.out.below HBG.out).at hb hlt
          subst hae
          have hzr := HQ4.out _ (getD_mem (d := Opr.zero) hlt)
          have HSN := Lib.hid (encOs_snoc c.ops j hlt)
          have HTK := Lib.hid (show (c.ops.take (j + 1)).all chkO = ((c.ops.take j).all chkO && chkO (c.ops.getD j Opr.zero)) by rw [take_snoc_getD c.ops Opr.zero j hlt, List.all_append]; simp)
          have hEL := encOs_len (c.ops.take j)
          rw [List.length_take] at hEL
          have t2 : IntKind.i64.wrap ((j : Int) + 1) = (j : Int) + 1 := IntWalk.i64_in _ (by omega)
          obtain ⟨z, hz⟩ : ∃ z, z = c.ops.getD j Opr.zero := ⟨_, rfl⟩
          rw [← hz] at hok h0 h1 h2 h3 h4 h5 HSN HTK hzr
          clear hz
          have hj0 : (0 : Int) ≤ (j : Int) := by omega
          have hji : (j : Int) < (c.ops.length : Int) := by omega
          obtain ⟨r1, r2, r3, r4, r5⟩ := rightO_parts hzr
          have HCE := Lib.hid (checkE_chk z)
          obtain ⟨zk, zp, zt, zv, zs, zo⟩ := z
          simp only at h0 h1 h2 h3 h4 h5 r1 r2 r3 r4 r5 HCE
          have HEO := Lib.hid (show encO ⟨zk, zp, zt, zv, zs, zo⟩ = ((((numsE [zk, zv + 1]) ++ textsE [zp]) ++ textsE [zt]) ++ flagsE [zs]) ++ flagsE [zo] by unfold encO; rw [textsE_two, textsE_one, textsE_one, flagsE_two]; simp [flagsE])
          obtain ⟨M, hM⟩ : ∃ M, M = headE c ++ (c.ops.take j).flatMap encO := ⟨_, rfl⟩
          have hMl : M.length ≤ 30 + 131088 * 4 := by rw [hM, List.length_append]; omega
          rw [← hM] at HBS
          have HM := Lib.hid hM
          obtain ⟨ce, hce⟩ : ∃ ce, ce = checkE zp.data.toList := ⟨_, rfl⟩
          have HCK := Lib.hid (fun W : World => check_any zp W)
          rw [← hce] at HCK HCE
          obtain ⟨T, hT⟩ : ∃ T, T = (c.ops.take j).all chkO := ⟨_, rfl⟩
          rw [← hT] at HTK ⊢
          clear hM hok hzr hEL hce hT
          have bD := hb.alloc hb.size (.cells #[.int .i64 zk, .string zp, .string zt, .int .i64 zv, .bool zs, .bool zo] 35)
          have bE := (Below.refl _ wr).alloc (Nat.le_refl _) (.cells #[.int .i64 zk, .string zp, .string zt, .int .i64 zv, .bool zs, .bool zo] 35)
          have N6 := opB_new wr zk zp zt zv zs zo
          have S6 := HBS.below bE
          have hws := hb.size
          go_upto_region 15 with fail
          obtain ⟨w6, hw6⟩ : ∃ w6, w6 = wr.alloc (.cells #[.int .i64 zk, .string zp, .string zt, .int .i64 zv, .bool zs, .bool zo] 35) := ⟨_, rfl⟩
          obtain ⟨ob, hob⟩ : ∃ ob, ob = wr.heap.size := ⟨_, rfl⟩
          rw [← hw6] at bD N6 S6 ⊢
          rw [← hob] at N6 hws ⊢
          clear hw6 bE h0 h1 h2 h3 h4 h5 hob HBS
          obtain ⟨o0, o1, o2, o3, o4, o5⟩ := opB_cells N6
          have hos : ob < w6.heap.size := (Array.getElem?_eq_some_iff.1 N6).1
          have t3 : IntKind.i64.wrap (zv + 1) = zv + 1 := IntWalk.i64_in _ (by omega)
          have hw8 : cb + 1 ≤ w8.heap.size := hcl
          have bN := (Below.refl _ w6).alloc (Nat.le_refl _) (.cells #[.int .i64 zk, .int .i64 (zv + 1)] 3)
          have HNM := Lib.hid (num_list _ (M) w6.heap.size 0 2 [zk, zv + 1] (w6.alloc (.cells #[.int .i64 zk, .int .i64 (zv + 1)] 3)) (S6.below bN).src (by simp) (by simp only [List.length_cons, List.length_nil]; omega)
            (fun j hj => by match j, hj with
              | 0, _ => exact ⟨by simp; omega, by simp; omega⟩
              | 1, _ => exact ⟨by simp; omega, by simp; omega⟩)
            (fun j hj => cells_new (by match j, hj with
              | 0, _ => rfl
              | 1, _ => rfl)))
          have HN := Lib.hid N6
          have HBD := Lib.hid bD
          clear S6 N6 bD
          go_wp2_with fail
          refine HNM.out.mono ?_
          rintro e w7 ⟨v7, rfl, B7, b7⟩
          have bb := bN.trans (b7.mono bN.size)
          have bD := HBD.out.trans (bb.mono HBD.out.size)
          have N7 := (bb.block ob hos).trans HN.out
          have hos : ob < w7.heap.size := (Array.getElem?_eq_some_iff.1 N7).1
          have S7 := B7.mono (C := cb + 1) (by have := HBD.out.size; simp; omega)
          have hl7 : ((M) ++ numsE [zk, zv + 1]).length ≤ M.length + 12 := by rw [List.length_append]; have := numsE_length [zk, zv + 1]; simp only [List.length_cons, List.length_nil] at this; omega
          clear HNM B7 b7 bb bN HN HBD o0 o1 o2 o3 o4 o5 t3
          obtain ⟨o0, o1, o2, o3, o4, o5⟩ := opB_cells N7
          go_upto_region 16 with fail
          have bN := (Below.refl _ w7).alloc (Nat.le_refl _) (.cells #[.string zp] 9)
          have HNM := Lib.hid (text_list _ ((M) ++ numsE [zk, zv + 1]) w7.heap.size 0 1 [zp] (w7.alloc (.cells #[.string zp] 9)) (S7.below bN).src (by simp) (by simp only [List.length_cons, List.length_nil]; omega)
            (fun j hj => by match j, hj with
              | 0, _ => simp [maxLen]; omega)
            (fun j hj => cells_new (by match j, hj with
              | 0, _ => rfl)))
          have HN := Lib.hid N7
          have HBD := Lib.hid bD
          clear S7 N7 bD
          go_wp2_with fail
          refine HNM.out.mono ?_
          rintro e w8 ⟨v8, rfl, B8, b8⟩
          have bb := bN.trans (b8.mono bN.size)
          have bD := HBD.out.trans (bb.mono HBD.out.size)
          have N8 := (bb.block ob hos).trans HN.out
          have hos : ob < w8.heap.size := (Array.getElem?_eq_some_iff.1 N8).1
          have S8 := B8.mono (C := cb + 1) (by have := HBD.out.size; simp; omega)
          have hl8 : (((M) ++ numsE [zk, zv + 1]) ++ textsE [zp]).length ≤ M.length + 12+65537 := by rw [List.length_append]; have := textsE_length [zp]; simp only [List.length_cons, List.length_nil] at this; omega
          clear HNM B8 b8 bb bN HN HBD o0 o1 o2 o3 o4 o5
          obtain ⟨o0, o1, o2, o3, o4, o5⟩ := opB_cells N8
          go_upto_region 17 with fail
          have bN := (Below.refl _ w8).alloc (Nat.le_refl _) (.cells #[.string zt] 9)
          have HNM := Lib.hid (text_list _ (((M) ++ numsE [zk, zv + 1]) ++ textsE [zp]) w8.heap.size 0 1 [zt] (w8.alloc (.cells #[.string zt] 9)) (S8.below bN).src (by simp) (by simp only [List.length_cons, List.length_nil]; omega)
            (fun j hj => by match j, hj with
              | 0, _ => simp [maxLen]; omega)
            (fun j hj => cells_new (by match j, hj with
              | 0, _ => rfl)))
          have HN := Lib.hid N8
          have HBD := Lib.hid bD
          clear S8 N8 bD
          go_wp2_with fail
          refine HNM.out.mono ?_
          rintro e w9 ⟨v9, rfl, B9, b9⟩
          have bb := bN.trans (b9.mono bN.size)
          have bD := HBD.out.trans (bb.mono HBD.out.size)
          have N9 := (bb.block ob hos).trans HN.out
          have hos : ob < w9.heap.size := (Array.getElem?_eq_some_iff.1 N9).1
          have S9 := B9.mono (C := cb + 1) (by have := HBD.out.size; simp; omega)
          have hl9 : ((((M) ++ numsE [zk, zv + 1]) ++ textsE [zp]) ++ textsE [zt]).length ≤ M.length + 12+65537+65537 := by rw [List.length_append]; have := textsE_length [zt]; simp only [List.length_cons, List.length_nil] at this; omega
          clear HNM B9 b9 bb bN HN HBD o0 o1 o2 o3 o4 o5
          obtain ⟨o0, o1, o2, o3, o4, o5⟩ := opB_cells N9
          go_upto_region 18 with fail
          have bN := (Below.refl _ w9).alloc (Nat.le_refl _) (.cells #[.bool zs] 4)
          have HNM := Lib.hid (flag_list _ ((((M) ++ numsE [zk, zv + 1]) ++ textsE [zp]) ++ textsE [zt]) w9.heap.size 0 1 [zs] (w9.alloc (.cells #[.bool zs] 4)) (S9.below bN).src (by simp) (by simp only [List.length_cons, List.length_nil]; omega)
            
            (fun j hj => cells_new (by match j, hj with
              | 0, _ => rfl)))
          have HN := Lib.hid N9
          have HBD := Lib.hid bD
          clear S9 N9 bD
          go_wp2_with fail
          refine HNM.out.mono ?_
          rintro e w10 ⟨v10, rfl, B10, b10⟩
          have bb := bN.trans (b10.mono bN.size)
          have bD := HBD.out.trans (bb.mono HBD.out.size)
          have N10 := (bb.block ob hos).trans HN.out
          have hos : ob < w10.heap.size := (Array.getElem?_eq_some_iff.1 N10).1
          have S10 := B10.mono (C := cb + 1) (by have := HBD.out.size; simp; omega)
          have hl10 : (((((M) ++ numsE [zk, zv + 1]) ++ textsE [zp]) ++ textsE [zt]) ++ flagsE [zs]).length ≤ M.length + 12+65537+65537+1 := by rw [List.length_append]; have := flagsE_length [zs]; simp only [List.length_cons, List.length_nil] at this; omega
          clear HNM B10 b10 bb bN HN HBD o0 o1 o2 o3 o4 o5
          obtain ⟨o0, o1, o2, o3, o4, o5⟩ := opB_cells N10
          go_upto_region 19 with fail
          have bN := (Below.refl _ w10).alloc (Nat.le_refl _) (.cells #[.bool zo] 4)
          have HNM := Lib.hid (flag_list _ (((((M) ++ numsE [zk, zv + 1]) ++ textsE [zp]) ++ textsE [zt]) ++ flagsE [zs]) w10.heap.size 0 1 [zo] (w10.alloc (.cells #[.bool zo] 4)) (S10.below bN).src (by simp) (by simp only [List.length_cons, List.length_nil]; omega)
            
            (fun j hj => cells_new (by match j, hj with
              | 0, _ => rfl)))
          have HN := Lib.hid N10
          have HBD := Lib.hid bD
          clear S10 N10 bD
          go_wp2_with fail
          refine HNM.out.mono ?_
          rintro e w11 ⟨v11, rfl, B11, b11⟩
          have bb := bN.trans (b11.mono bN.size)
          have bD := HBD.out.trans (bb.mono HBD.out.size)
          have N11 := (bb.block ob hos).trans HN.out
          have hos : ob < w11.heap.size := (Array.getElem?_eq_some_iff.1 N11).1
          have S11 := B11.mono (C := cb + 1) (by have := HBD.out.size; simp; omega)
          have hl11 : ((((((M) ++ numsE [zk, zv + 1]) ++ textsE [zp]) ++ textsE [zt]) ++ flagsE [zs]) ++ flagsE [zo]).length ≤ M.length + 12+65537+65537+1+1 := by rw [List.length_append]; have := flagsE_length [zo]; simp only [List.length_cons, List.length_nil] at this; omega
          clear HNM B11 b11 bb bN HN HBD o0 o1 o2 o3 o4 o5
          obtain ⟨o0, o1, o2, o3, o4, o5⟩ := opB_cells N11
          go_upto_region 20 with fail
          have HBD := Lib.hid bD
          have HR9 : Hid (Bs w11 (cb + 1) v11 (headE c ++ (c.ops.take (j + 1)).flatMap encO)) := Lib.hid (S11.mk (by rw [HSN.out, HEO.out, ← List.append_assoc, ← HM.out]; simp only [List.append_assoc]))
          clear S11 bD N11 hos
          cases T with
          | true =>
            cases hr : chkO ⟨zk, zp, zt, zv, zs, zo⟩ with
            | true =>
              have hc0 : ce = 0 := by have := HCE.out; rw [hr] at this; simpa using this
              subst hc0
              have HT2 : Hid ((c.ops.take (j + 1)).all chkO = true) := Lib.hid (by rw [HTK.out, hr]; rfl)
              clear HTK HCE hr
              go_wp2_with fail
              refine (HCK.out _).mono ?_
              rintro e w12 ⟨rfl, b12⟩
              have bZ := HBD.out.trans (b12.mono HBD.out.size)
              have HR10 := Lib.hid (HR9.out.below b12)
              clear b12
              go_wp2_with fail
              go_roundw
              case rel => exact ⟨j + 1, by omega, by go_num, by rw [HT2.out], HR10.out, bZ⟩
              case measure => simp [intOf]; omega
            | false =>
              have hc0 : (ce == 0) = false := by have := HCE.out; rw [hr] at this; exact this
              have HT2 : Hid ((c.ops.take (j + 1)).all chkO = false) := Lib.hid (by rw [HTK.out, hr]; rfl)
              clear HTK HCE hr
              go_wp2_with fail
              refine (HCK.out _).mono ?_
              rintro e w12 ⟨rfl, b12⟩
              have bZ := HBD.out.trans (b12.mono HBD.out.size)
              have HR10 := Lib.hid (HR9.out.below b12)
              clear b12
              go_wp2_with fail
              go_roundw
              case rel => exact ⟨j + 1, by omega, by go_num, by rw [HT2.out], HR10.out, bZ⟩
              case measure => simp [intOf]; omega
          | false =>
            have HT2 : Hid ((c.ops.take (j + 1)).all chkO = false) := Lib.hid (by rw [HTK.out]; rfl)
            clear HTK HCE
            go_wp2_with fail
            go_roundw
            case rel => exact ⟨j + 1, by omega, by go_num, by rw [HT2.out], HR9.out, HBD.out⟩
            case measure => simp [intOf]; omega
        · obtain rfl : j = c.ops.length := by omega
          rw [List.take_length] at HBS ⊢
          have hEL := encOs_len c.ops
          obtain ⟨M, hM⟩ : ∃ M, M = headE c ++ c.ops.flatMap encO := ⟨_, rfl⟩
          have hMl : M.length ≤ 30 + 131088 * 4 := by rw [hM, List.length_append]; omega
          rw [← hM] at HBS HEN
          obtain ⟨T, hT⟩ : ∃ T, T = c.ops.all chkO := ⟨_, rfl⟩
          rw [← hT] at HTC ⊢
          have N4 := HN8.out.below hb
          have bL := HBG.out.trans (hb.mono HBG.out.size)
          have hlt2 : decide ((c.ops.length : Int) < (c.ops.length : Int)) = false := by simp
          have HDW : Hid (∀ W : World, Below wr.drew.heap.size wr.drew W → Below w.heap.size w W ∧ CmB W cb (.slice a c.ops.length cap) c ∧ cb + 1 ≤ W.heap.size) := Lib.hid fun W hW => by
            have hW' : Below wr.heap.size wr W := (Below.refl _ wr).drew.trans (hW.mono (Nat.le_refl _))
            exact ⟨bL.trans (hW'.mono bL.size), N4.below hW', Nat.le_trans hcl (Nat.le_trans hb.size hW'.size)⟩
          have HMB := Lib.hid hMl
          have HB0 : Hid (∀ W : World, Below wr.drew.heap.size wr.drew W → Bs W (cb + 1) u7 M) := Lib.hid fun W hW => HBS.below ((Below.refl _ wr).drew.trans (hW.mono (Nat.le_refl _)))
          have HMQ := Lib.hid hM
          clear hM hEL hlt hT bL N4 HBS c0 c1 c2 c3 c4 c5 c6 c7
          go_upto_region 22 with fail
          refine wp_region_steps_tail 11 0 (F22 u7 (cb + 1) cb M c.path c.kids c.once) (fun x y => Below x.heap.size x y) (by kernel_rfl) (by kernel_rfl) (by kernel_rfl) (by kernel_rfl) (by kernel_rfl) (by kernel_rfl) (Below.refl _ _) (fun i v x y _ h hb => F22_keep i h hb) (fun x y z h1 h2 => h1.trans (h2.mono h1.size)) ?_ ?_
          · intro i o hi ho x W hR hF hX
            obtain ⟨⟨c0, c1, c2, c3, c4, c5, c6, c7⟩, _⟩ := (HDW.out W hR).2.1.cells
            match i, ho with
            | 0, ho =>
              obtain rfl := Option.some.inj ho
              exact gstep_move rfl (wanted0 rfl) _ rfl _ (eval_at 7 11 _ (by kernel_rfl) (show 7 < 163 by decide) ((hX 11 _ (by decide) rfl).trans rfl)) ⟨_, rfl, rfl, Below.refl _ _⟩
            | 1, ho =>
              obtain rfl := Option.some.inj ho
              exact gstep_field rfl (wanted0 rfl) _ _ _ rfl _ (eval_of 2 _ (by kernel_rfl) rfl) _ (run_fC5 W _) ⟨_, rfl, rfl, Below.refl _ _⟩
            | 2, ho =>
              obtain rfl := Option.some.inj ho
              exact gstep_load rfl (wanted0 rfl) _ _ rfl _ (eval_at 96 1 _ (by kernel_rfl) (show 96 < 163 by decide) (hF 1 (by kernel_rfl))) _ (run_ldS W _ _ c5) ⟨_, rfl, rfl, Below.refl _ _⟩
            | 3, ho =>
              obtain rfl := Option.some.inj ho
              exact gstep_row1 rfl (wanted0 rfl) _ _ rfl _ (eval_at 97 2 _ (by kernel_rfl) (show 97 < 163 by decide) (hF 2 (by kernel_rfl))) _ _ (run_row1S W _) ⟨_, rfl, ⟨W.heap.size, rfl, by simp, cells_new (j := 0) rfl⟩, (Below.refl _ W).alloc (Nat.le_refl _) _⟩
            | 4, ho =>
              obtain rfl := Option.some.inj ho
              obtain ⟨g, hg1, hg2, hg3⟩ := hF 3 (by kernel_rfl)
              refine gstep_call2 rfl (wanted0 rfl) _ _ _ _ rfl _ _ (eval_at 95 0 _ (by kernel_rfl) (show 95 < 163 by decide) (hF 0 (by kernel_rfl))) (eval_at 98 3 _ (by kernel_rfl) (show 98 < 163 by decide) hg1) (call_t2 W _ _) ?_
              have hM4 := HMB.out
              refine (text_list u7 M g 0 1 [c.path] W (HB0.out W hR).src hg2 (by simp only [List.length_cons, List.length_nil]; omega) (fun j hj => by match j, hj with
                | 0, _ => simp [maxLen]; omega) (fun j hj => by match j, hj with
                | 0, _ => exact hg3)).mono ?_
              rintro e W2 ⟨v, rfl, hB, hb⟩
              exact ⟨_, rfl, _, rfl, hB.mono (HDW.out W hR).2.2, hb⟩
            | 5, ho =>
              obtain rfl := Option.some.inj ho
              exact gstep_field rfl (wanted0 rfl) _ _ _ rfl _ (eval_of 2 _ (by kernel_rfl) rfl) _ (run_fC6 W _) ⟨_, rfl, rfl, Below.refl _ _⟩
            | 6, ho =>
              obtain rfl := Option.some.inj ho
              exact gstep_load rfl (wanted0 rfl) _ _ rfl _ (eval_at 100 5 _ (by kernel_rfl) (show 100 < 163 by decide) (hF 5 (by kernel_rfl))) _ (run_ldB W _ _ c6) ⟨_, rfl, rfl, Below.refl _ _⟩
            | 7, ho =>
              obtain rfl := Option.some.inj ho
              exact gstep_field rfl (wanted0 rfl) _ _ _ rfl _ (eval_of 2 _ (by kernel_rfl) rfl) _ (run_fC7 W _) ⟨_, rfl, rfl, Below.refl _ _⟩
            | 8, ho =>
              obtain rfl := Option.some.inj ho
              exact gstep_load rfl (wanted0 rfl) _ _ rfl _ (eval_at 102 7 _ (by kernel_rfl) (show 102 < 163 by decide) (hF 7 (by kernel_rfl))) _ (run_ldB W _ _ c7) ⟨_, rfl, rfl, Below.refl _ _⟩
            | 9, ho =>
              obtain rfl := Option.some.inj ho
              exact gstep_row2 rfl (wanted0 rfl) _ _ _ rfl _ _ (eval_at 101 6 _ (by kernel_rfl) (show 101 < 163 by decide) (hF 6 (by kernel_rfl))) (eval_at 103 8 _ (by kernel_rfl) (show 103 < 163 by decide) (hF 8 (by kernel_rfl))) _ _ (run_row2B W _ _) ⟨_, rfl, ⟨W.heap.size, rfl, by simp, cells_new (j := 0) rfl, cells_new (j := 1) rfl⟩, (Below.refl _ W).alloc (Nat.le_refl _) _⟩
            | 10, ho =>
              obtain rfl := Option.some.inj ho
              obtain ⟨g, hg1, hg2, hg3, hg4⟩ := hF 9 (by kernel_rfl)
              have h4 : Bs W (cb + 1) (x 4) (M ++ textsE [c.path]) := hF 4 (by kernel_rfl)
              refine gstep_call2 rfl (wanted0 rfl) _ _ _ _ rfl _ _ (eval_at 99 4 _ (by kernel_rfl) (show 99 < 163 by decide) rfl) (eval_at 104 9 _ (by kernel_rfl) (show 104 < 163 by decide) hg1) (call_f2 W _ _) ?_
              have hM4 := HMB.out
              have hl5 := textsE_length [c.path]
              refine (flag_list (x 4) (M ++ textsE [c.path]) g 0 2 [c.kids, c.once] W h4.src hg2 (by rw [List.length_append]; simp only [List.length_cons, List.length_nil] at hl5 ⊢; omega) (fun j hj => by match j, hj with
                | 0, _ => exact hg3
                | 1, _ => exact hg4)).mono ?_
              rintro e W2 ⟨v, rfl, hB, hb⟩
              exact ⟨_, rfl, _, rfl, hB.mono (HDW.out W hR).2.2, hb⟩
            | n + 11, ho => omega
          · intro x W hR hF
            have h10 : Bs W (cb + 1) (x 10) ((M ++ textsE [c.path]) ++ flagsE [c.kids, c.once]) := hF 10 (by decide)
            rw [← HEN.out] at h10
            obtain ⟨bE, N9, _⟩ := HDW.out W hR
            have hE0 : 0 < (encC c).length := by rw [HEN.out, List.length_append, flagsE_length]; simp
            have hE1 : (encC c).length ≤ 1000000 := by
              have hM4 := HMB.out
              have hl5 := textsE_length [c.path]
              rw [HEN.out, List.length_append, List.length_append, flagsE_length]; simp only [List.length_cons, List.length_nil] at hl5 ⊢; omega
            have hstr := run_str h10.src
            obtain ⟨g6, cp6, hx10, _⟩ := h10.cut hE0
            rw [hx10] at h10 hstr
            refine gstep_assign rfl (wanted0 rfl) _ rfl _ (eval_at 105 10 _ (by kernel_rfl) (show 105 < 163 by decide) hx10) ?_
            unfold tailK
            simp only [putAll, Act.put, List.setIfInBounds_toArray, List.set_cons_succ, List.set_cons_zero]
            have HR7 := Lib.hid h10
            have HN9 := Lib.hid N9
            clear hF hR HDW HB0 HMQ HMB hMl hx10 h10 N9 HEN HHE HN8 HBG hb hcl HCB
            obtain ⟨nl, hnl⟩ : ∃ nl, nl = (encC c).length := ⟨_, rfl⟩
            rw [← hnl] at HR7 hstr hE0 hE1 ⊢
            have HNL := Lib.hid hnl
            clear hnl
            by_cases h488 : 488 < nl
            · have hby : S = ⟨#[]⟩ ∧ E = 3 := by
                have hb2 : bytesC c = (⟨#[]⟩, 3) := by rw [HBE.out, if_pos trivial, if_pos (by rw [← HNL.out]; exact h488)]
                rw [HS.out, HE.out, hb2]; exact ⟨rfl, rfl⟩
              obtain ⟨rfl, rfl⟩ := hby
              have hd : decide ((488 : Int) < (nl : Int)) = true := by simp; omega
              clear HS HE HBE h488
              go_wp2_with fail
              go_ret
              exact ⟨rfl, bE⟩
            · have hl4 : (encC c).length ≤ 488 := by rw [← HNL.out]; omega
              have hby : S = ⟨(encC c).toArray⟩ ∧ E = 0 := by
                have hb2 : bytesC c = (⟨(encC c).toArray⟩, 0) := by rw [HBE.out, if_pos trivial, if_neg (by omega)]
                rw [HS.out, HE.out, hb2]; exact ⟨rfl, rfl⟩
              obtain ⟨hSS, rfl⟩ := hby
              have hSd : S.data.toList = encC c := by rw [hSS]
              have hSz : S.size = nl := by rw [hSS, size_arr, HNL.out]
              have hstr2 : ∀ W2 : World, Below W.heap.size W W2 → (convert 31 9 (.slice (some ⟨g6, 0, none⟩) nl cp6)).run Tryd.prog W2 = .ok (.string S) W2 := fun W2 hW2 => by
                have h := run_str (HR7.out.below hW2).src
                rw [← hSS] at h; exact h
              have HST := Lib.hid hstr2
              have hd : decide ((488 : Int) < (nl : Int)) = false := by simp; omega
              have HRD := Lib.hid (fun W2 : World => oread_any S W2 (by omega))
              rw [hSd, HRG.out trivial hl4] at HRD
              simp only at HRD
              have HSS := Lib.hid hSS
              have HSd := Lib.hid hSd
              have HSz := Lib.hid hSz
              have hn488 : nl ≤ 488 := by omega
              clear HS HE HBE h488 hl4 hstr hstr2 hSS hSd
              go_wp2_with fail
              refine (HRD.out _).mono ?_
              rintro e W1 ⟨ud, rfl, O1, b1⟩
              have bF := bE.trans (b1.mono bE.size)
              have R1 := O1.opsR (by unfold maxLen; omega) HOL.out
              obtain ⟨ad, cd, rfl, _⟩ := O1.form
              rw [show cmV (.slice ad c.ops.length cd) c = .agg #[.int .i64 c.kind, .int .i64 c.ses, .int .i64 c.req, .int .i64 c.noted, .slice ad c.ops.length cd, .string c.path, .bool c.kids, .bool c.once] from rfl]
              have bN := (Below.refl _ W1).alloc (Nat.le_refl _) (.cells #[.int .i64 c.kind, .int .i64 c.ses, .int .i64 c.req, .int .i64 c.noted, .slice ad c.ops.length cd, .string c.path, .bool c.kids, .bool c.once] 25)
              have D2 : CmB (W1.alloc (.cells #[.int .i64 c.kind, .int .i64 c.ses, .int .i64 c.req, .int .i64 c.noted, .slice ad c.ops.length cd, .string c.path, .bool c.kids, .bool c.once] 25)) W1.heap.size (.slice ad c.ops.length cd) c := CmB.new W1 _ c
              have R2 := R1.below bN
              have bW := b1.trans (bN.mono b1.size)
              have bG := bF.trans (bN.mono bF.size)
              clear HRD O1 b1 R1 bN bF
              go_upto_region 26 with fail
              obtain ⟨W2, hW2⟩ : ∃ W2, W2 = W1.alloc (.cells #[.int .i64 c.kind, .int .i64 c.ses, .int .i64 c.req, .int .i64 c.noted, .slice ad c.ops.length cd, .string c.path, .bool c.kids, .bool c.once] 25) := ⟨_, rfl⟩
              rw [← hW2] at D2 R2 bW bG ⊢
              obtain ⟨db, hdb⟩ : ∃ db, db = W1.heap.size := ⟨_, rfl⟩
              rw [← hdb] at D2 ⊢
              have HD2 := Lib.hid D2
              have HR2' := Lib.hid R2
              have hnz : ¬ (nl : Int) = 0 := by omega
              have hb0 : (0 : Int) ≤ (u : Int) % (nl : Int) := Int.emod_nonneg _ hnz
              have hb1 : (u : Int) % (nl : Int) ≤ (nl : Int) := Int.le_of_lt (Int.emod_lt_of_pos _ (by omega))
              have hNl : u % nl < nl := Nat.mod_lt _ (by omega)
              have HNlt := Lib.hid hNl
              clear hNl hW2 hdb D2 R2
              go_wp2_with fail
              obtain ⟨N, hN⟩ : ∃ N, N = u % nl := ⟨_, rfl⟩
              rw [← hN] at HNlt ⊢
              obtain ⟨S2, hS2⟩ : ∃ S2, S2 = S.extract 0 N := ⟨_, rfl⟩
              have hcut : S2.data.toList = (encC c).take N := by rw [hS2, Lib.extract_data, HSd.out, List.drop_zero, Nat.sub_zero]
              have hS2z : S2.size ≤ 488 := by rw [Lib.size_eq, hcut, List.length_take, ← HNL.out]; omega
              rw [← hS2]
              have HRD2 := Lib.hid (oread_any S2 W2 (by omega))
              rw [hcut, HRC.out N trivial (by rw [← HNL.out]; exact HNlt.out)] at HRD2
              simp only at HRD2
              clear hN hb0 hb1 hS2 hcut hS2z HNlt
              refine HRD2.out.mono ?_
              rintro e W3 ⟨un, rfl, O3, b3⟩
              have bH := bG.trans (b3.mono bG.size)
              have bW3 := bW.trans (b3.mono bW.size)
              have R3 := O3.opsR (by show 0 ≤ maxLen; exact Nat.zero_le _) (fun x hx => by cases hx)
              obtain ⟨an, cn, rfl, _⟩ := O3.form
              rw [show cmV (.slice an Cm.zero.ops.length cn) Cm.zero = .agg #[.int .i64 0, .int .i64 0, .int .i64 0, .int .i64 0, .slice an 0 cn, .string ⟨#[]⟩, .bool false, .bool false] from rfl]
              have bN := (Below.refl _ W3).alloc (Nat.le_refl _) (.cells #[.int .i64 0, .int .i64 0, .int .i64 0, .int .i64 0, .slice an 0 cn, .string ⟨#[]⟩, .bool false, .bool false] 25)
              have Z4 : CmB (W3.alloc (.cells #[.int .i64 0, .int .i64 0, .int .i64 0, .int .i64 0, .slice an 0 cn, .string ⟨#[]⟩, .bool false, .bool false] 25)) W3.heap.size (.slice an 0 cn) Cm.zero := CmB.new W3 _ Cm.zero
              have D4 := (HD2.out.below b3).below bN
              have R24 := (HR2'.out.below b3).below bN
              have R34 := R3.below bN
              have bI := bH.trans (bN.mono bH.size)
              have bW4 := bW3.trans (bN.mono bW3.size)
              clear HRD2 O3 b3 R3 bN bH bG bW HD2 HR2' bW3
              go_upto_region 27 with fail
              obtain ⟨W4, hW4⟩ : ∃ W4, W4 = W3.alloc (.cells #[.int .i64 0, .int .i64 0, .int .i64 0, .int .i64 0, .slice an 0 cn, .string ⟨#[]⟩, .bool false, .bool false] 25) := ⟨_, rfl⟩
              rw [← hW4] at Z4 D4 R24 R34 bI bW4 ⊢
              obtain ⟨zb, hzb⟩ : ∃ zb, zb = W3.heap.size := ⟨_, rfl⟩
              rw [← hzb] at Z4 ⊢
              clear hW4 hzb
              have N4 := HN9.out.below bW4
              have hst4 := HST.out W4 bW4
              have hee : (S.toList == S.toList) = true := by simp
              have RO4 := HO.out.below bI
              have HSM := Lib.hid (same_any (.slice ad c.ops.length cd) (.slice a c.ops.length cap) c c W4 R24 RO4)
              rw [eqB_self] at HSM
              unfold cmV at HSM
              have HTC4 := Lib.hid (fun (W5 : World) (b : Below W4.heap.size W4 W5) => HTC.out W5 (bI.trans (b.mono bI.size)))
              have HSZ := Lib.hid (fun (W5 : World) (b : Below W4.heap.size W4 W5) => same_any (.slice an 0 cn) (.slice none 0 0) Cm.zero Cm.zero W5 (R34.below b) ⟨none, 0, rfl, Nat.zero_le _, (fun x hx => by cases hx), .inl rfl⟩)
              rw [eqB_self] at HSZ
              simp only [cmV, Cm.zero] at HSZ
              obtain ⟨⟨c0, c1, c2, c3, c4, c5, c6, c7⟩, _⟩ := N4.cells
              obtain ⟨⟨d0, d1, d2, d3, d4, d5, d6, d7⟩, _⟩ := D4.cells
              obtain ⟨⟨z0, z1, z2, z3, z4, z5, z6, z7⟩, _⟩ := Z4.cells
              simp only [Cm.zero] at z0 z1 z2 z3 z5 z6 z7
              have HN4 := Lib.hid N4
              have HZ4 := Lib.hid Z4
              have HTT : Hid ((T == T) = true) := Lib.hid (by simp)
              clear N4 D4 Z4 R24 R34 RO4 HTC HN9 HST
              go_wp2_with fail
              refine HSM.out.mono ?_
              rintro e W5 ⟨rfl, b5⟩
              have N5 := HN4.out.below b5
              have Z5 := HZ4.out.below b5
              have bJ := bI.trans (b5.mono bI.size)
              have HT5 := Lib.hid (HTC4.out W5 b5)
              have HS5 := Lib.hid (fun (W6 : World) (b : Below W5.heap.size W5 W6) => HSZ.out W6 (b5.trans (b.mono b5.size)))
              clear c0 c1 c2 c3 c4 c5 c6 c7 d0 d1 d2 d3 d4 d5 d6 d7 z0 z1 z2 z3 z4 z5 z6 z7 b5 bI HN4 HZ4 HSM HTC4 HSZ hst4 bW4
              obtain ⟨⟨c0, c1, c2, c3, c4, c5, c6, c7⟩, _⟩ := N5.cells
              have HZ5 := Lib.hid Z5
              clear N5 Z5
              go_wp2_with fail
              refine HT5.out.mono ?_
              rintro e W6 ⟨rfl, b6⟩
              have Z6 := HZ5.out.below b6
              have bK := bJ.trans (b6.mono bJ.size)
              have HS6 := Lib.hid (HS5.out W6 b6)
              have htt := HTT.out
              clear c0 c1 c2 c3 c4 c5 c6 c7 b6 bJ HZ5 HT5 HS5
              obtain ⟨⟨z0, z1, z2, z3, z4, z5, z6, z7⟩, _⟩ := Z6.cells
              simp only [Cm.zero] at z0 z1 z2 z3 z5 z6 z7
              clear Z6
              go_wp2_with fail
              refine HS6.out.mono ?_
              rintro e W7 ⟨rfl, b7⟩
              go_wp2_with fail
              go_ret
              exact ⟨by simp, bK.trans (b7.mono bK.size)⟩

theorem own : ownKnob Tryd.prog.godebug = none := by kernel_rfl
theorem laidOut : laidOutB Tryd.prog = true := by kernel_rfl

theorem contract (H : Type) (enc : TypeId × Value → H) (W : World) (base : Nat) (args : Array Value) (ds gs : List (DataW H)) (before : List MemPlace)
    (hval : ∀ (j : Nat) t v, Tryd.f3.params[j]? = some t → args[j]? = some v → Value.okWide Tryd.prog W .any base t v)
    (hW : DataW.Whole enc Tryd.prog Tryd.f3.params.toList Rows.opBytesSpec.vars false W args.toList ds gs before) (hL : laidMetH Tryd.prog Rows.opBytesRow.laid W) :
    Calls Tryd.prog 3 args W fun e W' => ∃ v, e = .returned v ∧ Rows.opBytesSpec.post enc Tryd.prog Tryd.f3 false true false false W args v W' := by
  have hW' := hW
  obtain ⟨p, q, hA0, hV, rfl, hfz, hnd⟩ := hW
  have hA : DataW.TrodAll enc Tryd.prog W 0 (fun _ => true) true Tryd.f3.params.toList args.toList ds p := hA0
  rw [Tryd.params3] at hA hval
  obtain ⟨v0, vs0, d0, ds0, p0, q0, hargs, rfl, rfl, h0, r0⟩ := trodAll_cons hA
  obtain ⟨v1, vs1, d1, ds1, p1, q1, rfl, rfl, rfl, h1, r1⟩ := trodAll_cons r0
  obtain ⟨rfl, rfl, rfl⟩ := trodAll_nil r1
  obtain rfl : args = #[v0, v1] := by cases args; simp_all
  obtain ⟨rfl, rfl⟩ := trodVars_none hV
  have k0 := h0
  have lt0 : ∀ x ∈ p0, x.block < W.heap.size := by obtain ⟨m, hm⟩ := k0; exact DataW.trod_lt m _ _ _ hm
  obtain ⟨z0, w0⟩ := cmd_of (hval 0 25 v0 rfl rfl) h0
  obtain ⟨a1, rfl, rfl, rfl, w1⟩ := open_int Tryd.underlying3 (hval 1 3 v1 rfl rfl) h1
  clear hA0
  refine (walk v0 z0 a1 W w0 w1).mono fun e W' ⟨he, bel⟩ => ?_
  subst he
  exact ⟨_, rfl, _, _, _, [], _, [], hW', trodAll_mk1 (shut_bool Tryd.underlying4 _), (trodAll_cons_mk (Below.trod laidOut (by kernel_rfl) (of_decide_eq_true (by kernel_rfl)) k0 bel lt0) (trodAll_cons_mk (shut_int Tryd.underlying3 w1) trodAll_mk0)), rfl, bel.frame _, fun h => by cases h⟩

theorem laid_met (os : Os) : laidMet Tryd.prog Rows.opBytesRow.laid ((World.laidAll Tryd.prog os Rows.opBytesRow.laid).forCall (fun _ _ => 0) ⟨#[], #[.agg #[.int .i64 0, .int .i64 0, .int .i64 0, .int .i64 0, .slice none 0 0, .string ByteArray.empty, .bool false, .bool false], .int .i64 0], []⟩).memory :=
  laidMet_laidAll _ (by kernel_rfl) (by kernel_rfl)
theorem reads (os : Os) {H : Type} (enc : TypeId × Value → H) : ∃ places, DataW.whole enc Tryd.prog ((World.laidAll Tryd.prog os Rows.opBytesRow.laid).forCall (fun _ _ => 0) ⟨#[], #[.agg #[.int .i64 0, .int .i64 0, .int .i64 0, .int .i64 0, .slice none 0 0, .string ByteArray.empty, .bool false, .bool false], .int .i64 0], []⟩).memory Tryd.f3.params.toList Rows.opBytesSpec.vars false #[Value.agg #[.int .i64 0, .int .i64 0, .int .i64 0, .int .i64 0, .slice none 0 0, .string ByteArray.empty, .bool false, .bool false], Value.int .i64 0].toList 8 = some ([.agg [.lit (.int .i64 0), .lit (.int .i64 0), .lit (.int .i64 0), .lit (.int .i64 0), .nil, .lit (.string []), .lit (.bool false), .lit (.bool false)], .lit (.int .i64 0)], [], places) :=
  ⟨[], by kernel_rfl⟩

set_option maxRecDepth 100000 in
theorem lifted (os : Os) (started : os.Started) (H : Type) (enc : TypeId × Value → H) (F : Stop.Interp) :
    ReturnsInHanded {} Tryd.checked os 3 .any ((OpenSpec.ofChange Rows.opBytesSpec).preRow enc Tryd.prog Tryd.f3 Rows.opBytesRow.domain false Rows.opBytesRow.laid) (((OpenSpec.ofChange Rows.opBytesSpec).at F).post enc Tryd.prog Tryd.f3 false true false false) := by
  obtain ⟨places, hx⟩ := reads os enc
  refine returnsInHanded_of_row (C := Tryd.checked) (s := OpenSpec.ofChange Rows.opBytesSpec) own started (by kernel_rfl) Tryd.func3
    (witness_zip (enc := enc) (C := Tryd.checked) false (World.laidAll Tryd.prog os Rows.opBytesRow.laid) #[.agg #[.int .i64 0, .int .i64 0, .int .i64 0, .int .i64 0, .slice none 0 0, .string ByteArray.empty, .bool false, .bool false], .int .i64 0] (World.laidAll_os _ _ _) (World.shaped_of_ZipB (by kernel_rfl) (by kernel_rfl)) (by kernel_rfl)
      (OpenSpec.preRow_of_cond 8 hx (by kernel_rfl) (fun k hk => by cases hk) (by kernel_rfl) (laid_met os))) ?_
  intro W base args ds gs before hval hW _ _ _ hL _ _
  exact contract H enc W base args ds gs before hval hW hL

theorem said : Rows.OpBytesSaid :=
  OpenClaim.holds_of_cond 3 Tryd.f3 rfl rfl rfl rfl rfl rfl rfl ⟨rfl, rfl, rfl, rfl, rfl⟩ rfl rfl rfl rfl rfl (by kernel_rfl) Tryd.func3 (by kernel_rfl)
    (of_decide_eq_true (by kernel_rfl)) (by unfold Func.isWrapper; first | (rw [if_pos (by decide +kernel)]; kernel_rfl) | (rw [if_neg (by decide +kernel)]; exact ⟨rfl, rfl⟩))
    (fun os started H enc _ F => by rw [OpenClaim.pre_eq_preRow]; exact lifted os started H enc F)

theorem plain (f : FuncId) (fn : Func) (hf : Tryd.pinned.checked.prog.funcNamed "orchard/orchardlaw12.OpBytes" = some f) (hfn : Tryd.pinned.checked.prog.funcs[f]? = some fn) :
    false = Tryd.pinned.checked.prog.looks [] ∧ ∀ (j : Nat) t, fn.params[j]? = some t → Tryd.pinned.checked.prog.wantsStandIn t = false := by
  obtain rfl : f = 3 := Option.some.inj ((show Tryd.prog.funcNamed "orchard/orchardlaw12.OpBytes" = some 3 by kernel_rfl).symm.trans hf) |>.symm
  obtain rfl : fn = Tryd.f3 := (Option.some.inj (Tryd.func3.symm.trans hfn)).symm
  refine ⟨by kernel_rfl, fun j t ht => ?_⟩
  rw [Tryd.params3] at ht
  have hm := Array.mem_of_getElem? ht
  simp at hm
  rcases hm with rfl | rfl
  · exact (show Tryd.prog.wantsStandIn 25 = false by kernel_rfl)
  · exact (show Tryd.prog.wantsStandIn 3 = false by kernel_rfl)

theorem card : Rows.OpBytesCardSaid :=
  Claim7.holds_tied_plain_at .later [] _ _ _ _ said (fun _ h => by cases h) (by kernel_rfl) (fun _ h => by cases h) opBytes_row_tie rfl ⟨rfl, rfl⟩ (by kernel_rfl) rfl plain (by kernel_rfl)
end Go.Proofs.YtkdbkbfloiponaaDoor.opBytes
