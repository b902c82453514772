/- OpApart: unlike commands are told apart, part by part; no condition on the input. -/
import Derived.Test.YtkdbkbfloiponaaOpArgs
import Derived.Test.YtkdbkbfloiponaaRows
import Derived.ProofKit
import Derived.OpenShut
import Derived.ShutString
import Derived.ChangeOld
import Derived.Deep.DeepHandedRow
import Derived.Lib.LaidTab
import Derived.Stop.LaidErr
import Derived.Lay
namespace Go.Proofs.Ytkdbkbfloiponaa.opApart
open Go.ChangeShapes Go.WideShapes Go.ChangeAt Go.RowKit
open Go.ChangeMaps (open_string shut_string)
set_option linter.unusedVariables false
set_option maxRecDepth 100000
set_option linter.unusedSimpArgs false
theorem wrapu (z : Int) : IntKind.u64.wrap z = z % 18446744073709551616 := by
  simp [IntKind.wrap, IntKind.bits, IntKind.signed]
theorem CmB.put0 {x : World} {b : Nat} {v : Value} {m : Cm} (h : CmB x b v m) (z : Int) : CmB (x.setCell ⟨b, 0, none⟩ (.int .i64 z)) b v { m with kind := z } := by
  unfold CmB cmA at h ⊢
  have h0 := block_setCell (i := 0) (u := .int .i64 z) h
  simp only [List.setIfInBounds_toArray, List.set_cons_zero, List.set_cons_succ] at h0
  exact h0
theorem CmB.put1 {x : World} {b : Nat} {v : Value} {m : Cm} (h : CmB x b v m) (z : Int) : CmB (x.setCell ⟨b, 1, none⟩ (.int .i64 z)) b v { m with ses := z } := by
  unfold CmB cmA at h ⊢
  have h0 := block_setCell (i := 1) (u := .int .i64 z) h
  simp only [List.setIfInBounds_toArray, List.set_cons_zero, List.set_cons_succ] at h0
  exact h0
theorem CmB.put2 {x : World} {b : Nat} {v : Value} {m : Cm} (h : CmB x b v m) (z : Int) : CmB (x.setCell ⟨b, 2, none⟩ (.int .i64 z)) b v { m with req := z } := by
  unfold CmB cmA at h ⊢
  have h0 := block_setCell (i := 2) (u := .int .i64 z) h
  simp only [List.setIfInBounds_toArray, List.set_cons_zero, List.set_cons_succ] at h0
  exact h0
theorem CmB.put3 {x : World} {b : Nat} {v : Value} {m : Cm} (h : CmB x b v m) (z : Int) : CmB (x.setCell ⟨b, 3, none⟩ (.int .i64 z)) b v { m with noted := z } := by
  unfold CmB cmA at h ⊢
  have h0 := block_setCell (i := 3) (u := .int .i64 z) h
  simp only [List.setIfInBounds_toArray, List.set_cons_zero, List.set_cons_succ] at h0
  exact h0
theorem run_idxO (W : World) (g n c : Nat) (h : 0 < n ∧ n ≤ 1000) : (Instr.indexAt 24 (.slice (some ⟨g, 0, none⟩) n c) (.int .i64 0)).run Try.prog W = .ok (.pointer (some ⟨g, 0, none⟩)) W := by
  have h1 : (0 : Int) < (n : Int) := by omega
  go_simp
theorem run_fO5 (W : World) (g : Nat) : (Instr.fieldAt 50 (.pointer (some ⟨g, 0, none⟩)) 5).run Try.prog W = .ok (.pointer (some ⟨g, 5, none⟩)) W := by go_simp
theorem run_loadB (W : World) (p : Addr) (z : Bool) (h : W.cell? p = some (.bool z)) : (Instr.loadAt 4 (.pointer (some p))).run Try.prog W = .ok (.bool z) W := by go_simp
theorem run_storeB (W : World) (p : Addr) (u : Value) (z : Bool) (h : W.cell? p = some u) (hf : W.frozen? p = false) : (Instr.storeAt 4 (.pointer (some p)) (.bool z)).run Try.prog W = .ok () (W.setCell p (.bool z)) := by go_simp
def FSw (db g n c : Nat) (x : Bool) : Nat → Value → Prop
  | 0, v => v = .pointer (some ⟨db, 4, none⟩)
  | 1, v => v = .slice (some ⟨g, 0, none⟩) n c
  | 2, v => v = .pointer (some ⟨db, 4, none⟩)
  | 3, v => v = .slice (some ⟨g, 0, none⟩) n c
  | 4, v => v = .pointer (some ⟨g, 0, none⟩)
  | 5, v => v = .pointer (some ⟨g, 5, none⟩)
  | 6, v => v = .bool x
  | 7, v => v = .bool (!x)
  | 8, v => v = .pointer (some ⟨g, 0, none⟩)
  | 9, v => v = .pointer (some ⟨g, 5, none⟩)
  | _, _ => True
theorem ORow.frz {w : World} {base g n c i : Nat} {L : List Opr} (h : ORow w base (.slice (some ⟨g, 0, none⟩) n c) L) : w.frozen? ⟨g, i, none⟩ = false := by
  rcases h.2 with ⟨h1, _⟩ | ⟨g', c', cur, h1, _, h4, _⟩
  · cases h1
  · obtain rfl : g = g' := by simpa using (by injection h1 : (some (⟨g, 0, none⟩ : Addr)) = some ⟨g', 0, none⟩)
    simp [World.frozen?, h4]
theorem pick10 (z : Int) (P : Prop) (h : ∀ q : Nat, q < 10 → wrap64 ((IntKind.u64.wrap z).tmod 10) = (q : Int) → P) : P := by
  have hw := wrapu z
  have h0 : 0 ≤ IntKind.u64.wrap z := by omega
  have ht : (IntKind.u64.wrap z).tmod 10 = IntKind.u64.wrap z % 10 := Int.tmod_eq_emod_of_nonneg h0
  refine h ((IntKind.u64.wrap z) % 10).toNat (by omega) ?_
  rw [ht]
  have e : (((IntKind.u64.wrap z % 10).toNat : Nat) : Int) = IntKind.u64.wrap z % 10 := by omega
  rw [e]
  unfold wrap64
  omega
theorem wrap_ne (k : Int) (h : InR k) : ¬ k = IntKind.i64.wrap (k + 1) := by
  unfold InR at h
  rw [IntKind.wrap_i64]; omega
theorem app_none (base : Nat) (w : World) (t ty e : TypeId) (i : TypeInfo) (size cap : Nat) (ht : Try.prog.underlying t = some (.slice e)) (hi : Try.prog.info? e = some i)
    (v : Value) (n : Nat) (xs : List Value) (hown : w.ownsRow base e size v n xs) :
    (Builtin.append_ #[t, t] ty #[v, .slice none 0 cap]).run Try.prog w = .ok v w := by
  rcases hown.2 with ⟨rfl, rfl⟩ | ⟨g, c, cur, rfl, _, _, hnc, _⟩
  · simp [Builtin.append_, run_underlying ht, sizeOf, typeInfo, hi, Builtin.lenOf, Builtin.firstCells]
  · simp [Builtin.append_, run_underlying ht, sizeOf, typeInfo, hi, Builtin.lenOf, Builtin.firstCells, hnc, storeCells]
theorem app_any (base : Nat) (w : World) (v u : Value) (M L : List Opr) (ho : ORow w base v M) (hu : OpsR w u L) (hl : M.length + L.length ≤ 1000000) (hb : base ≤ w.heap.size) :
    ∃ a' c' w', (Builtin.append_ #[24, 24] 24 #[v, u]).run Try.prog w = .ok (.slice a' (M ++ L).length c') w' ∧ ORow w' base (.slice a' (M ++ L).length c') (M ++ L) ∧ w.grownBy w' v.ownBlock := by
  obtain ⟨i1, hi1, hz1, hz2, hz3⟩ := info_parts info_op
  have hu0 := hu
  obtain ⟨a, cap, rfl, hm, _, hh⟩ := hu
  cases a with
  | none =>
    have hz : L.length = 0 := by rcases hh with hh | ⟨g, off, hp, _⟩; exact hh; cases hp
    obtain rfl := List.eq_nil_of_length_eq_zero hz
    rw [List.append_nil]
    obtain ⟨a', c', hv, _⟩ := ho.form
    exact ⟨a', c', w, by rw [← hv]; exact app_none base w _ _ _ i1 6 cap und_ops hi1 _ _ _ ho, by rw [← hv]; exact ho, only_refl _ _⟩
  | some ad =>
    obtain ⟨v', w', hr, h2, h3, _⟩ := run_append_own (P := Try.prog) (w := w) base 24 24 50 i1 (opV Opr.zero) 6 56 und_ops hi1 hz1 hz2 hz3 rfl (by decide) v M.length (cellsK opOne M) ho ad L.length cap (cellsK opOne L) (cellsK_len opOne_len L) (fun j u hj => hu0.cells j u hj) (cellsK_one opOne_one L) (by unfold maxLen; omega) (by omega) hb
    have hO : ORow w' base v' (M ++ L) := by unfold ORow; rw [cellsK_append, List.length_append]; exact h2
    obtain ⟨a', c', hv, _⟩ := hO.form
    exact ⟨a', c', w', by rw [← hv]; exact hr, by rw [← hv]; exact hO, h3⟩
set_option maxHeartbeats 8000000 in
theorem walk (v0 : Value) (c : Cm) (a1 : Int) (w : World) (w0 : CmR w v0 c) (w1 : (Lit.int .i64 a1).wf = true) :
    Calls Try.prog 5 #[v0, .int .i64 a1] w fun e w' => e = .returned (.bool true) ∧ Below w.heap.size w w' := by
  have HH := Lib.hid (fun W : World => head_any W)
  obtain ⟨i1, hi1, hz1, hz2, hz3⟩ := info_parts info_op
  obtain ⟨hok, u, rfl, hO⟩ := w0
  obtain ⟨a, cap, rfl, hLm⟩ := (show ∃ a cap, u = .slice a c.ops.length cap ∧ c.ops.length ≤ maxLen by obtain ⟨a, cap, h1, h2, _⟩ := hO; exact ⟨a, cap, h1, h2⟩)
  obtain ⟨k, s, q, n, L, p, x, y⟩ := c
  simp only at hO hLm hok
  have HO := Lib.hid hO
  have HOK := Lib.hid hok
  have hpz := hok.path
  simp only at hpz
  unfold maxLen at hpz hLm
  have HFW := Lib.hid (fun (W : World) (hW : Below w.heap.size w W) => few_any (.slice a L.length cap) ⟨k, s, q, n, L, p, x, y⟩ W ⟨HOK.out, _, rfl, HO.out.below hW⟩)
  unfold cmV at HFW ⊢
  simp only at HFW ⊢
  have bA := (Below.refl w.heap.size w).alloc (Nat.le_refl _) (.cells #[.int .i64 k, .int .i64 s, .int .i64 q, .int .i64 n, .slice a L.length cap, .string p, .bool x, .bool y] 26)
  have N1 := cmB_new w (.slice a L.length cap) k s q n p x y
  clear hO hok
  go_enter Try.func5, Try.ntmps5
  go_upto_region 1 with fail
  obtain ⟨w2, hw2⟩ : ∃ w2, w2 = w.alloc (.cells #[.int .i64 k, .int .i64 s, .int .i64 q, .int .i64 n, .slice a L.length cap, .string p, .bool x, .bool y] 26) := ⟨_, rfl⟩
  rw [← hw2] at bA N1 ⊢
  obtain ⟨cb, hcb⟩ : ∃ cb, cb = w.heap.size := ⟨_, rfl⟩
  rw [← hcb] at N1 ⊢
  have HCB := Lib.hid (show w.heap.size ≤ cb by rw [hcb]; exact Nat.le_refl _)
  have HN1 := Lib.hid N1
  clear hw2 N1 hcb
  go_wp2_with fail
  refine (HH.out _).mono ?_
  rintro e w3 ⟨rfl, b3⟩
  have bB := bA.trans (b3.mono bA.size)
  have N3 := (b3.block cb (Array.getElem?_eq_some_iff.1 HN1.out).1).trans HN1.out
  obtain ⟨c0, c1, c2, c3, c4, c5, c6, c7⟩ := cmB_cells N3
  have HF3 := Lib.hid (HFW.out w3 bB)
  have HN3 := Lib.hid N3
  clear HFW b3 bA HN1
  by_cases hfw : fewC ⟨k, s, q, n, L, p, x, y⟩ = true
  case neg =>
    have hff : fewC ⟨k, s, q, n, L, p, x, y⟩ = false := by simpa using hfw
    rw [hff] at HF3
    go_wp2_with fail
    refine HF3.out.mono ?_
    rintro e w4 ⟨rfl, b4⟩
    go_wp2_with fail
    go_ret
    exact ⟨rfl, bB.trans (b4.mono bB.size)⟩
  have hfl : L.length ≤ 10 ∧ p.size ≤ 200 := by
    unfold fewC at hfw
    simp only [Bool.and_eq_true, decide_eq_true_eq] at hfw
    omega
  rw [hfw] at HF3
  clear hfw
  go_wp2_with fail
  refine HF3.out.mono ?_
  rintro e w4 ⟨rfl, b4⟩
  have bC := bB.trans (b4.mono bB.size)
  have N4 := (b4.block cb (Array.getElem?_eq_some_iff.1 HN3.out).1).trans HN3.out
  clear c0 c1 c2 c3 c4 c5 c6 c7
  obtain ⟨c0, c1, c2, c3, c4, c5, c6, c7⟩ := cmB_cells N4
  have bN := (Below.refl _ w4).alloc (Nat.le_refl _) (.cells #[.int .i64 k, .int .i64 s, .int .i64 q, .int .i64 n, .slice a L.length cap, .string p, .bool x, .bool y] 26)
  have D5 := CmB.new w4 (.slice a L.length cap) ⟨k, s, q, n, L, p, x, y⟩
  have N5 : CmB _ cb (.slice a L.length cap) ⟨k, s, q, n, L, p, x, y⟩ := (bN.block cb (Array.getElem?_eq_some_iff.1 N4).1).trans N4
  have bD := bC.trans (bN.mono bC.size)
  have hcd : cb < w4.heap.size := (Array.getElem?_eq_some_iff.1 N4).1
  have hdb0 := bC.size
  unfold cmA at D5
  simp only at D5
  clear HF3 b4 bB N3 HN3 bN
  go_upto_region 6 with fail
  obtain ⟨w5, hw5⟩ : ∃ w5, w5 = w4.alloc (.cells #[.int .i64 k, .int .i64 s, .int .i64 q, .int .i64 n, .slice a L.length cap, .string p, .bool x, .bool y] 26) := ⟨_, rfl⟩
  rw [← hw5] at D5 N5 bD ⊢
  obtain ⟨db, hdb⟩ : ∃ db, db = w4.heap.size := ⟨_, rfl⟩
  rw [← hdb] at D5 hcd hdb0 ⊢
  clear hw5 hdb c0 c1 c2 c3 c4 c5 c6 c7 N4 bC
  have bE := (Below.refl _ w5).alloc (Nat.le_refl _) (.cells #[] 50)
  have O6 : ORow (w5.alloc (.cells #[] 50)) (db + 1) (.slice (some ⟨w5.heap.size, 0, none⟩) 0 0) [] :=
    World.ownsRow_made (base := db + 1) (e := 50) (size := 6) w5 #[] 0 D5.lt (Nat.zero_le _) rfl
  have D6 := D5.below bE
  have N6 := N5.below bE
  have bF := bD.trans (bE.mono bD.size)
  obtain ⟨⟨c0, c1, c2, c3, c4, c5, c6, c7⟩, _⟩ := N6.cells
  obtain ⟨a7, cp7, w7, HRN, O7, g7⟩ := app_any (db + 1) _ _ _ _ _ O6 (HO.out.below bF) (by show 0 + L.length ≤ _; omega) (Nat.le_trans D5.lt bE.size)
  rw [List.nil_append] at HRN O7
  have hob : ∀ g, Value.ownBlock (.slice (some ⟨w5.heap.size, 0, none⟩) 0 0) = some g → db + 1 ≤ g := fun g hg => (O6.own hg).1
  have D7 := D6.kept g7 (fun e => by have := hob _ e.symm; omega)
  have N7 := N6.kept g7 (fun e => by have := hob _ e.symm; omega)
  have B7 := bF.grown g7 bF.size (fun q hq => by have := hob q hq; omega)
  have l7 : db + 1 ≤ w7.heap.size := Nat.le_trans (Nat.le_trans D5.lt bE.size) g7.size
  have hd4 := D7.cells.1.2.2.2.2.1
  have hf4 := D7.cells.2.2.2.2.2.1
  have HR := Lib.hid HRN
  clear D5 N5 bD bE D6 N6 bF O6 g7 hob HRN
  go_upto_region 7 with (at_builtin; refine Lib.wpList_append_run _ rfl _ _ _ _ rfl _ _ rfl rfl _ _ HR.out ?_; go_frame)
  have D8 := D7.put4 (v := .slice a7 L.length cp7) L
  have N8 := N7.set (i := 4) (u := .slice a7 L.length cp7) (show cb ≠ db by omega)
  have O8 := O7.set (b := db) (i := 4) (u := .slice a7 L.length cp7) (Nat.lt_succ_self _)
  have B8 := B7.setCell (p := ⟨db, 4, none⟩) hdb0 (.slice a7 L.length cp7)
  obtain ⟨w8, hw8⟩ : ∃ w8, w8 = w7.setCell ⟨db, 4, none⟩ (.slice a7 L.length cp7) := ⟨_, rfl⟩
  rw [← hw8] at D8 N8 O8 B8 ⊢
  have l8 : db + 1 ≤ w8.heap.size := by rw [hw8]; simpa [World.setCell] using l7
  clear hw8 hd4 hf4 D7 N7 O7 B7 l7 HR c0 c1 c2 c3 c4 c5 c6 c7
  have RO8 := HO.out.below B8
  have hlL : L.length ≤ maxLen := by unfold maxLen; omega
  have hLok : ∀ z ∈ L, z.Ok := by obtain ⟨_, _, _, _, h, _⟩ := RO8; exact h
  have RD8 : OpsR w8 (.slice a7 L.length cp7) L := O8.opsR hlL hLok
  have HSM := Lib.hid (same_any (.slice a L.length cap) (.slice a7 L.length cp7) ⟨k, s, q, n, L, p, x, y⟩ ⟨k, s, q, n, L, p, x, y⟩ w8 RO8 RD8)
  rw [eqB_self] at HSM
  unfold cmV at HSM
  simp only at HSM
  obtain ⟨⟨c0, c1, c2, c3, c4, c5, c6, c7⟩, _⟩ := N8.cells
  obtain ⟨⟨d0, d1, d2, d3, d4, d5, d6, d7⟩, _⟩ := D8.cells
  have HN8 := Lib.hid N8
  have HD8 := Lib.hid D8
  have HO8 := Lib.hid O8
  have HLO := Lib.hid hLok
  clear N8 D8 O8 RO8 RD8 hLok
  go_upto_region 9 with (go_at_call 10; refine HSM.out.mono ?_; rintro e w9 ⟨rfl, b9⟩)
  have D9 := HD8.out.below b9
  have N9 := HN8.out.below b9
  have O9 := HO8.out.below b9
  have B9 := B8.trans (b9.mono B8.size)
  have l9 : db + 1 ≤ w9.heap.size := Nat.le_trans l8 b9.size
  obtain ⟨⟨d0, d1, d2, d3, d4, d5, d6, d7⟩, f0, f1, f2, f3, f4, f5, f6, f7⟩ := D9.cells
  obtain ⟨⟨c0, c1, c2, c3, c4, c5, c6, c7⟩, _⟩ := N9.cells
  have hx := HOK.out
  obtain ⟨hx0, hx1, hx2, hx3, _⟩ := hx
  simp only at hx0 hx1 hx2 hx3
  refine pick10 a1 _ (fun z hz hq => ?_)
  clear HN8 HD8 HO8 B8 b9 l8
  match z, hz with
  | 0, _ =>
    obtain ⟨m, hm⟩ : ∃ m, IntKind.i64.wrap (k + 1) = m := ⟨_, rfl⟩
    have hmn : ¬ k = m := by rw [← hm]; exact wrap_ne k hx0
    have D10 := CmB.put0 D9 m
    have N10 := N9.set (b := db) (i := 0) (u := .int .i64 m) (show cb ≠ db by omega)
    have RO10 := HO.out.below (B9.setCell (p := ⟨db, 0, none⟩) hdb0 (.int .i64 m))
    have O10 := O9.set (b := db) (i := 0) (u := .int .i64 m) (Nat.lt_succ_self _)
    have B10 := B9.setCell (p := ⟨db, 0, none⟩) hdb0 (.int .i64 m)
    have RD10 : OpsR _ (.slice a7 L.length cp7) L := O10.opsR hlL HLO.out
    have hne : ¬ (⟨k, s, q, n, L, p, x, y⟩ : Cm) = ⟨m, s, q, n, L, p, x, y⟩ := fun e => hmn (by injection e)
    clear HSM D9 N9 O9 B9 O10
    go_upto_region 29 with fail
    obtain ⟨w10, hw10⟩ : ∃ w10, w10 = w9.setCell ⟨db, 0, none⟩ (.int .i64 m) := ⟨_, rfl⟩
    rw [← hw10] at D10 N10 RO10 RD10 B10 ⊢
    clear hw10 c0 c1 c2 c3 c4 c5 c6 c7 d0 d1 d2 d3 d4 d5 d6 d7 f0 f1 f2 f3 f4 f5 f6 f7
    have HNE := Lib.hid hne
    have HSM1 := Lib.hid (same_any (.slice a L.length cap) (.slice a7 L.length cp7) ⟨k, s, q, n, L, p, x, y⟩ ⟨m, s, q, n, L, p, x, y⟩ w10 RO10 RD10)
    have HSM2 := Lib.hid (fun (W : World) (hW : Below w10.heap.size w10 W) => same_any (.slice a7 L.length cp7) (.slice a L.length cap) ⟨m, s, q, n, L, p, x, y⟩ ⟨k, s, q, n, L, p, x, y⟩ W (RD10.below hW) (RO10.below hW))
    rw [eqB_ne hne] at HSM1
    rw [eqB_ne (fun e => hne e.symm)] at HSM2
    unfold cmV at HSM1 HSM2
    simp only at HSM1 HSM2
    obtain ⟨⟨c0, c1, c2, c3, c4, c5, c6, c7⟩, _⟩ := N10.cells
    obtain ⟨⟨d0, d1, d2, d3, d4, d5, d6, d7⟩, _⟩ := D10.cells
    have HN10 := Lib.hid N10
    have HD10 := Lib.hid D10
    clear N10 D10 RO10 RD10 hne
    go_wp2_with fail
    refine HSM1.out.mono ?_
    rintro e w11 ⟨rfl, b11⟩
    have N11 := HN10.out.below b11
    have D11 := HD10.out.below b11
    have HSM3 := Lib.hid (HSM2.out w11 b11)
    clear c0 c1 c2 c3 c4 c5 c6 c7 d0 d1 d2 d3 d4 d5 d6 d7
    obtain ⟨⟨c0, c1, c2, c3, c4, c5, c6, c7⟩, _⟩ := N11.cells
    obtain ⟨⟨d0, d1, d2, d3, d4, d5, d6, d7⟩, _⟩ := D11.cells
    have B11 := B10.trans (b11.mono B10.size)
    clear N11 D11 b11
    go_wp2_with fail
    refine HSM3.out.mono ?_
    rintro e w12 ⟨rfl, b12⟩
    go_wp2_with fail
    go_ret
    exact ⟨rfl, B11.trans (b12.mono B11.size)⟩
  | 1, _ =>
    obtain ⟨m, hm⟩ : ∃ m, IntKind.i64.wrap (s + 1) = m := ⟨_, rfl⟩
    have hmn : ¬ s = m := by rw [← hm]; exact wrap_ne s hx1
    have D10 := CmB.put1 D9 m
    have N10 := N9.set (b := db) (i := 1) (u := .int .i64 m) (show cb ≠ db by omega)
    have RO10 := HO.out.below (B9.setCell (p := ⟨db, 1, none⟩) hdb0 (.int .i64 m))
    have O10 := O9.set (b := db) (i := 1) (u := .int .i64 m) (Nat.lt_succ_self _)
    have B10 := B9.setCell (p := ⟨db, 1, none⟩) hdb0 (.int .i64 m)
    have RD10 : OpsR _ (.slice a7 L.length cp7) L := O10.opsR hlL HLO.out
    have hne : ¬ (⟨k, s, q, n, L, p, x, y⟩ : Cm) = ⟨k, m, q, n, L, p, x, y⟩ := fun e => hmn (by injection e)
    clear HSM D9 N9 O9 B9 O10
    go_upto_region 29 with fail
    obtain ⟨w10, hw10⟩ : ∃ w10, w10 = w9.setCell ⟨db, 1, none⟩ (.int .i64 m) := ⟨_, rfl⟩
    rw [← hw10] at D10 N10 RO10 RD10 B10 ⊢
    clear hw10 c0 c1 c2 c3 c4 c5 c6 c7 d0 d1 d2 d3 d4 d5 d6 d7 f0 f1 f2 f3 f4 f5 f6 f7
    have HNE := Lib.hid hne
    have HSM1 := Lib.hid (same_any (.slice a L.length cap) (.slice a7 L.length cp7) ⟨k, s, q, n, L, p, x, y⟩ ⟨k, m, q, n, L, p, x, y⟩ w10 RO10 RD10)
    have HSM2 := Lib.hid (fun (W : World) (hW : Below w10.heap.size w10 W) => same_any (.slice a7 L.length cp7) (.slice a L.length cap) ⟨k, m, q, n, L, p, x, y⟩ ⟨k, s, q, n, L, p, x, y⟩ W (RD10.below hW) (RO10.below hW))
    rw [eqB_ne hne] at HSM1
    rw [eqB_ne (fun e => hne e.symm)] at HSM2
    unfold cmV at HSM1 HSM2
    simp only at HSM1 HSM2
    obtain ⟨⟨c0, c1, c2, c3, c4, c5, c6, c7⟩, _⟩ := N10.cells
    obtain ⟨⟨d0, d1, d2, d3, d4, d5, d6, d7⟩, _⟩ := D10.cells
    have HN10 := Lib.hid N10
    have HD10 := Lib.hid D10
    clear N10 D10 RO10 RD10 hne
    go_wp2_with fail
    refine HSM1.out.mono ?_
    rintro e w11 ⟨rfl, b11⟩
    have N11 := HN10.out.below b11
    have D11 := HD10.out.below b11
    have HSM3 := Lib.hid (HSM2.out w11 b11)
    clear c0 c1 c2 c3 c4 c5 c6 c7 d0 d1 d2 d3 d4 d5 d6 d7
    obtain ⟨⟨c0, c1, c2, c3, c4, c5, c6, c7⟩, _⟩ := N11.cells
    obtain ⟨⟨d0, d1, d2, d3, d4, d5, d6, d7⟩, _⟩ := D11.cells
    have B11 := B10.trans (b11.mono B10.size)
    clear N11 D11 b11
    go_wp2_with fail
    refine HSM3.out.mono ?_
    rintro e w12 ⟨rfl, b12⟩
    go_wp2_with fail
    go_ret
    exact ⟨rfl, B11.trans (b12.mono B11.size)⟩
  | 2, _ =>
    obtain ⟨m, hm⟩ : ∃ m, IntKind.i64.wrap (q + 1) = m := ⟨_, rfl⟩
    have hmn : ¬ q = m := by rw [← hm]; exact wrap_ne q hx2
    have D10 := CmB.put2 D9 m
    have N10 := N9.set (b := db) (i := 2) (u := .int .i64 m) (show cb ≠ db by omega)
    have RO10 := HO.out.below (B9.setCell (p := ⟨db, 2, none⟩) hdb0 (.int .i64 m))
    have O10 := O9.set (b := db) (i := 2) (u := .int .i64 m) (Nat.lt_succ_self _)
    have B10 := B9.setCell (p := ⟨db, 2, none⟩) hdb0 (.int .i64 m)
    have RD10 : OpsR _ (.slice a7 L.length cp7) L := O10.opsR hlL HLO.out
    have hne : ¬ (⟨k, s, q, n, L, p, x, y⟩ : Cm) = ⟨k, s, m, n, L, p, x, y⟩ := fun e => hmn (by injection e)
    clear HSM D9 N9 O9 B9 O10
    go_upto_region 29 with fail
    obtain ⟨w10, hw10⟩ : ∃ w10, w10 = w9.setCell ⟨db, 2, none⟩ (.int .i64 m) := ⟨_, rfl⟩
    rw [← hw10] at D10 N10 RO10 RD10 B10 ⊢
    clear hw10 c0 c1 c2 c3 c4 c5 c6 c7 d0 d1 d2 d3 d4 d5 d6 d7 f0 f1 f2 f3 f4 f5 f6 f7
    have HNE := Lib.hid hne
    have HSM1 := Lib.hid (same_any (.slice a L.length cap) (.slice a7 L.length cp7) ⟨k, s, q, n, L, p, x, y⟩ ⟨k, s, m, n, L, p, x, y⟩ w10 RO10 RD10)
    have HSM2 := Lib.hid (fun (W : World) (hW : Below w10.heap.size w10 W) => same_any (.slice a7 L.length cp7) (.slice a L.length cap) ⟨k, s, m, n, L, p, x, y⟩ ⟨k, s, q, n, L, p, x, y⟩ W (RD10.below hW) (RO10.below hW))
    rw [eqB_ne hne] at HSM1
    rw [eqB_ne (fun e => hne e.symm)] at HSM2
    unfold cmV at HSM1 HSM2
    simp only at HSM1 HSM2
    obtain ⟨⟨c0, c1, c2, c3, c4, c5, c6, c7⟩, _⟩ := N10.cells
    obtain ⟨⟨d0, d1, d2, d3, d4, d5, d6, d7⟩, _⟩ := D10.cells
    have HN10 := Lib.hid N10
    have HD10 := Lib.hid D10
    clear N10 D10 RO10 RD10 hne
    go_wp2_with fail
    refine HSM1.out.mono ?_
    rintro e w11 ⟨rfl, b11⟩
    have N11 := HN10.out.below b11
    have D11 := HD10.out.below b11
    have HSM3 := Lib.hid (HSM2.out w11 b11)
    clear c0 c1 c2 c3 c4 c5 c6 c7 d0 d1 d2 d3 d4 d5 d6 d7
    obtain ⟨⟨c0, c1, c2, c3, c4, c5, c6, c7⟩, _⟩ := N11.cells
    obtain ⟨⟨d0, d1, d2, d3, d4, d5, d6, d7⟩, _⟩ := D11.cells
    have B11 := B10.trans (b11.mono B10.size)
    clear N11 D11 b11
    go_wp2_with fail
    refine HSM3.out.mono ?_
    rintro e w12 ⟨rfl, b12⟩
    go_wp2_with fail
    go_ret
    exact ⟨rfl, B11.trans (b12.mono B11.size)⟩
  | 3, _ =>
    obtain ⟨m, hm⟩ : ∃ m, IntKind.i64.wrap (n + 1) = m := ⟨_, rfl⟩
    have hmn : ¬ n = m := by rw [← hm]; exact wrap_ne n hx3
    have D10 := CmB.put3 D9 m
    have N10 := N9.set (b := db) (i := 3) (u := .int .i64 m) (show cb ≠ db by omega)
    have RO10 := HO.out.below (B9.setCell (p := ⟨db, 3, none⟩) hdb0 (.int .i64 m))
    have O10 := O9.set (b := db) (i := 3) (u := .int .i64 m) (Nat.lt_succ_self _)
    have B10 := B9.setCell (p := ⟨db, 3, none⟩) hdb0 (.int .i64 m)
    have RD10 : OpsR _ (.slice a7 L.length cp7) L := O10.opsR hlL HLO.out
    have hne : ¬ (⟨k, s, q, n, L, p, x, y⟩ : Cm) = ⟨k, s, q, m, L, p, x, y⟩ := fun e => hmn (by injection e)
    clear HSM D9 N9 O9 B9 O10
    go_upto_region 29 with fail
    obtain ⟨w10, hw10⟩ : ∃ w10, w10 = w9.setCell ⟨db, 3, none⟩ (.int .i64 m) := ⟨_, rfl⟩
    rw [← hw10] at D10 N10 RO10 RD10 B10 ⊢
    clear hw10 c0 c1 c2 c3 c4 c5 c6 c7 d0 d1 d2 d3 d4 d5 d6 d7 f0 f1 f2 f3 f4 f5 f6 f7
    have HNE := Lib.hid hne
    have HSM1 := Lib.hid (same_any (.slice a L.length cap) (.slice a7 L.length cp7) ⟨k, s, q, n, L, p, x, y⟩ ⟨k, s, q, m, L, p, x, y⟩ w10 RO10 RD10)
    have HSM2 := Lib.hid (fun (W : World) (hW : Below w10.heap.size w10 W) => same_any (.slice a7 L.length cp7) (.slice a L.length cap) ⟨k, s, q, m, L, p, x, y⟩ ⟨k, s, q, n, L, p, x, y⟩ W (RD10.below hW) (RO10.below hW))
    rw [eqB_ne hne] at HSM1
    rw [eqB_ne (fun e => hne e.symm)] at HSM2
    unfold cmV at HSM1 HSM2
    simp only at HSM1 HSM2
    obtain ⟨⟨c0, c1, c2, c3, c4, c5, c6, c7⟩, _⟩ := N10.cells
    obtain ⟨⟨d0, d1, d2, d3, d4, d5, d6, d7⟩, _⟩ := D10.cells
    have HN10 := Lib.hid N10
    have HD10 := Lib.hid D10
    clear N10 D10 RO10 RD10 hne
    go_wp2_with fail
    refine HSM1.out.mono ?_
    rintro e w11 ⟨rfl, b11⟩
    have N11 := HN10.out.below b11
    have D11 := HD10.out.below b11
    have HSM3 := Lib.hid (HSM2.out w11 b11)
    clear c0 c1 c2 c3 c4 c5 c6 c7 d0 d1 d2 d3 d4 d5 d6 d7
    obtain ⟨⟨c0, c1, c2, c3, c4, c5, c6, c7⟩, _⟩ := N11.cells
    obtain ⟨⟨d0, d1, d2, d3, d4, d5, d6, d7⟩, _⟩ := D11.cells
    have B11 := B10.trans (b11.mono B10.size)
    clear N11 D11 b11
    go_wp2_with fail
    refine HSM3.out.mono ?_
    rintro e w12 ⟨rfl, b12⟩
    go_wp2_with fail
    go_ret
    exact ⟨rfl, B11.trans (b12.mono B11.size)⟩
  | 4, _ =>
    have RD9 : OpsR w9 (.slice a7 L.length cp7) L := O9.opsR hlL HLO.out
    have bN := (Below.refl _ w9).alloc (Nat.le_refl _) (.cells #[.int .i64 0, .string ⟨#[]⟩, .string ⟨#[]⟩, .int .i64 0, .bool false, .bool false] 50)
    have Z10 : OpB _ w9.heap.size Opr.zero := OpB.new w9 Opr.zero
    have D9' := D9.below bN
    have N9' := N9.below bN
    have O9' := O9.below bN
    have B9' := B9.trans (bN.mono B9.size)
    obtain ⟨aA, cA, wA, HRN, OA, gA⟩ := app_any (db + 1) _ _ _ _ _ O9' (Z10.opsR ⟨by unfold InR Opr.zero; simp only; omega, by show 0 ≤ maxLen; decide, by show 0 ≤ maxLen; decide, by unfold InR Opr.zero; simp only; omega⟩) (by show L.length + 1 ≤ _; omega) (Nat.le_trans l9 bN.size)
    have hob : ∀ g, Value.ownBlock (.slice a7 L.length cp7) = some g → db + 1 ≤ g := fun g hg => (O9'.own hg).1
    have DA := D9'.kept gA (fun e => by have := hob _ e.symm; omega)
    have NA := N9'.kept gA (fun e => by have := hob _ e.symm; omega)
    have BA := B9'.grown gA B9'.size (fun q hq => by have := hob q hq; omega)
    have g4 := DA.cells.1.2.2.2.2.1
    have e4 := DA.cells.2.2.2.2.2.1
    have HRA := Lib.hid HRN
    have hne : ¬ (⟨k, s, q, n, L, p, x, y⟩ : Cm) = ⟨k, s, q, n, L ++ [Opr.zero], p, x, y⟩ := fun e => by
      injection e with e1 e2 e3 e4 e5
      have := congrArg List.length e5
      simp at this
    have D10 := DA.put4 (v := .slice aA (L ++ [Opr.zero]).length cA) (L ++ [Opr.zero])
    have N10 := NA.set (b := db) (i := 4) (u := .slice aA (L ++ [Opr.zero]).length cA) (show cb ≠ db by omega)
    have RO10 := HO.out.below (BA.setCell (p := ⟨db, 4, none⟩) hdb0 (.slice aA (L ++ [Opr.zero]).length cA))
    have O10 := OA.set (b := db) (i := 4) (u := .slice aA (L ++ [Opr.zero]).length cA) (Nat.lt_succ_self _)
    have B10 := BA.setCell (p := ⟨db, 4, none⟩) hdb0 (.slice aA (L ++ [Opr.zero]).length cA)
    have RD10 : OpsR _ (.slice aA (L ++ [Opr.zero]).length cA) (L ++ [Opr.zero]) := O10.opsR (by rw [List.length_append]; show L.length + 1 ≤ _; unfold maxLen; omega) (fun z hz => by
      rcases List.mem_append.1 hz with hz | hz
      · exact HLO.out z hz
      · rw [List.mem_singleton.1 hz]; exact ⟨by unfold InR Opr.zero; simp only; omega, by show 0 ≤ maxLen; decide, by show 0 ≤ maxLen; decide, by unfold InR Opr.zero; simp only; omega⟩)
    have HLL : Hid (L ++ [Opr.zero] = L ++ [Opr.zero]) := Lib.hid rfl
    obtain ⟨LA, hLA⟩ : ∃ LA, LA = L ++ [Opr.zero] := ⟨_, rfl⟩
    rw [← hLA] at HRA D10 N10 RO10 RD10 B10 hne O10
    clear HSM D9 N9 O9 B9 O10 HRN OA gA DA NA BA D9' N9' O9' B9' bN Z10 RD9 hob hLA
    go_upto_region 29 with (at_builtin; refine Lib.wpList_append_run _ rfl _ _ _ _ rfl _ _ rfl rfl _ _ HRA.out ?_; go_frame)
    obtain ⟨w10, hw10⟩ : ∃ w10, w10 = wA.setCell ⟨db, 4, none⟩ (.slice aA LA.length cA) := ⟨_, rfl⟩
    rw [← hw10] at D10 N10 RO10 RD10 B10 ⊢
    clear hw10 c0 c1 c2 c3 c4 c5 c6 c7 d0 d1 d2 d3 d4 d5 d6 d7 f0 f1 f2 f3 f4 f5 f6 f7 g4 e4
    have HNE := Lib.hid hne
    have HSM1 := Lib.hid (same_any (.slice a L.length cap) (.slice aA LA.length cA) ⟨k, s, q, n, L, p, x, y⟩ ⟨k, s, q, n, LA, p, x, y⟩ w10 RO10 RD10)
    have HSM2 := Lib.hid (fun (W : World) (hW : Below w10.heap.size w10 W) => same_any (.slice aA LA.length cA) (.slice a L.length cap) ⟨k, s, q, n, LA, p, x, y⟩ ⟨k, s, q, n, L, p, x, y⟩ W (RD10.below hW) (RO10.below hW))
    rw [eqB_ne hne] at HSM1
    rw [eqB_ne (fun e => hne e.symm)] at HSM2
    unfold cmV at HSM1 HSM2
    simp only at HSM1 HSM2
    obtain ⟨⟨c0, c1, c2, c3, c4, c5, c6, c7⟩, _⟩ := N10.cells
    obtain ⟨⟨d0, d1, d2, d3, d4, d5, d6, d7⟩, _⟩ := D10.cells
    have HN10 := Lib.hid N10
    have HD10 := Lib.hid D10
    clear N10 D10 RO10 RD10 hne
    go_wp2_with fail
    refine HSM1.out.mono ?_
    rintro e w11 ⟨rfl, b11⟩
    have N11 := HN10.out.below b11
    have D11 := HD10.out.below b11
    have HSM3 := Lib.hid (HSM2.out w11 b11)
    clear c0 c1 c2 c3 c4 c5 c6 c7 d0 d1 d2 d3 d4 d5 d6 d7
    obtain ⟨⟨c0, c1, c2, c3, c4, c5, c6, c7⟩, _⟩ := N11.cells
    obtain ⟨⟨d0, d1, d2, d3, d4, d5, d6, d7⟩, _⟩ := D11.cells
    have B11 := B10.trans (b11.mono B10.size)
    clear N11 D11 b11
    go_wp2_with fail
    refine HSM3.out.mono ?_
    rintro e w12 ⟨rfl, b12⟩
    go_wp2_with fail
    go_ret
    exact ⟨rfl, B11.trans (b12.mono B11.size)⟩
  | 5, _ =>
    obtain ⟨m, hm⟩ : ∃ m, p ++ ⟨#[120]⟩ = m := ⟨_, rfl⟩
    have hmn : ¬ p = m := fun e => by
      rw [← e] at hm
      have := congrArg ByteArray.size hm
      rw [ByteArray.size_append] at this
      have h1 : (ByteArray.mk #[120]).size = 1 := rfl
      omega
    have D10 := CmB.put5 D9 m
    have N10 := N9.set (b := db) (i := 5) (u := .string m) (show cb ≠ db by omega)
    have RO10 := HO.out.below (B9.setCell (p := ⟨db, 5, none⟩) hdb0 (.string m))
    have O10 := O9.set (b := db) (i := 5) (u := .string m) (Nat.lt_succ_self _)
    have B10 := B9.setCell (p := ⟨db, 5, none⟩) hdb0 (.string m)
    have RD10 : OpsR _ (.slice a7 L.length cp7) L := O10.opsR hlL HLO.out
    have hne : ¬ (⟨k, s, q, n, L, p, x, y⟩ : Cm) = ⟨k, s, q, n, L, m, x, y⟩ := fun e => hmn (by injection e)
    clear HSM D9 N9 O9 B9 O10
    go_upto_region 29 with fail
    obtain ⟨w10, hw10⟩ : ∃ w10, w10 = w9.setCell ⟨db, 5, none⟩ (.string m) := ⟨_, rfl⟩
    rw [← hw10] at D10 N10 RO10 RD10 B10 ⊢
    clear hw10 c0 c1 c2 c3 c4 c5 c6 c7 d0 d1 d2 d3 d4 d5 d6 d7 f0 f1 f2 f3 f4 f5 f6 f7
    have HNE := Lib.hid hne
    have HSM1 := Lib.hid (same_any (.slice a L.length cap) (.slice a7 L.length cp7) ⟨k, s, q, n, L, p, x, y⟩ ⟨k, s, q, n, L, m, x, y⟩ w10 RO10 RD10)
    have HSM2 := Lib.hid (fun (W : World) (hW : Below w10.heap.size w10 W) => same_any (.slice a7 L.length cp7) (.slice a L.length cap) ⟨k, s, q, n, L, m, x, y⟩ ⟨k, s, q, n, L, p, x, y⟩ W (RD10.below hW) (RO10.below hW))
    rw [eqB_ne hne] at HSM1
    rw [eqB_ne (fun e => hne e.symm)] at HSM2
    unfold cmV at HSM1 HSM2
    simp only at HSM1 HSM2
    obtain ⟨⟨c0, c1, c2, c3, c4, c5, c6, c7⟩, _⟩ := N10.cells
    obtain ⟨⟨d0, d1, d2, d3, d4, d5, d6, d7⟩, _⟩ := D10.cells
    have HN10 := Lib.hid N10
    have HD10 := Lib.hid D10
    clear N10 D10 RO10 RD10 hne
    go_wp2_with fail
    refine HSM1.out.mono ?_
    rintro e w11 ⟨rfl, b11⟩
    have N11 := HN10.out.below b11
    have D11 := HD10.out.below b11
    have HSM3 := Lib.hid (HSM2.out w11 b11)
    clear c0 c1 c2 c3 c4 c5 c6 c7 d0 d1 d2 d3 d4 d5 d6 d7
    obtain ⟨⟨c0, c1, c2, c3, c4, c5, c6, c7⟩, _⟩ := N11.cells
    obtain ⟨⟨d0, d1, d2, d3, d4, d5, d6, d7⟩, _⟩ := D11.cells
    have B11 := B10.trans (b11.mono B10.size)
    clear N11 D11 b11
    go_wp2_with fail
    refine HSM3.out.mono ?_
    rintro e w12 ⟨rfl, b12⟩
    go_wp2_with fail
    go_ret
    exact ⟨rfl, B11.trans (b12.mono B11.size)⟩
  | 6, _ =>
    have D10 := CmB.put6 D9 (!x)
    have N10 := N9.set (b := db) (i := 6) (u := .bool (!x)) (show cb ≠ db by omega)
    have RO10 := HO.out.below (B9.setCell (p := ⟨db, 6, none⟩) hdb0 (.bool (!x)))
    have O10 := O9.set (b := db) (i := 6) (u := .bool (!x)) (Nat.lt_succ_self _)
    have B10 := B9.setCell (p := ⟨db, 6, none⟩) hdb0 (.bool (!x))
    have RD10 : OpsR _ (.slice a7 L.length cp7) L := O10.opsR hlL HLO.out
    have hne : ¬ (⟨k, s, q, n, L, p, x, y⟩ : Cm) = ⟨k, s, q, n, L, p, !x, y⟩ := fun e => by injection e with _ _ _ _ _ _ e7 _; cases x <;> cases e7
    clear HSM D9 N9 O9 B9 O10
    go_upto_region 29 with fail
    obtain ⟨w10, hw10⟩ : ∃ w10, w10 = w9.setCell ⟨db, 6, none⟩ (.bool (!x)) := ⟨_, rfl⟩
    rw [← hw10] at D10 N10 RO10 RD10 B10 ⊢
    clear hw10 c0 c1 c2 c3 c4 c5 c6 c7 d0 d1 d2 d3 d4 d5 d6 d7 f0 f1 f2 f3 f4 f5 f6 f7
    have HNE := Lib.hid hne
    have HSM1 := Lib.hid (same_any (.slice a L.length cap) (.slice a7 L.length cp7) ⟨k, s, q, n, L, p, x, y⟩ ⟨k, s, q, n, L, p, !x, y⟩ w10 RO10 RD10)
    have HSM2 := Lib.hid (fun (W : World) (hW : Below w10.heap.size w10 W) => same_any (.slice a7 L.length cp7) (.slice a L.length cap) ⟨k, s, q, n, L, p, !x, y⟩ ⟨k, s, q, n, L, p, x, y⟩ W (RD10.below hW) (RO10.below hW))
    rw [eqB_ne hne] at HSM1
    rw [eqB_ne (fun e => hne e.symm)] at HSM2
    unfold cmV at HSM1 HSM2
    simp only at HSM1 HSM2
    obtain ⟨⟨c0, c1, c2, c3, c4, c5, c6, c7⟩, _⟩ := N10.cells
    obtain ⟨⟨d0, d1, d2, d3, d4, d5, d6, d7⟩, _⟩ := D10.cells
    have HN10 := Lib.hid N10
    have HD10 := Lib.hid D10
    clear N10 D10 RO10 RD10 hne
    go_wp2_with fail
    refine HSM1.out.mono ?_
    rintro e w11 ⟨rfl, b11⟩
    have N11 := HN10.out.below b11
    have D11 := HD10.out.below b11
    have HSM3 := Lib.hid (HSM2.out w11 b11)
    clear c0 c1 c2 c3 c4 c5 c6 c7 d0 d1 d2 d3 d4 d5 d6 d7
    obtain ⟨⟨c0, c1, c2, c3, c4, c5, c6, c7⟩, _⟩ := N11.cells
    obtain ⟨⟨d0, d1, d2, d3, d4, d5, d6, d7⟩, _⟩ := D11.cells
    have B11 := B10.trans (b11.mono B10.size)
    clear N11 D11 b11
    go_wp2_with fail
    refine HSM3.out.mono ?_
    rintro e w12 ⟨rfl, b12⟩
    go_wp2_with fail
    go_ret
    exact ⟨rfl, B11.trans (b12.mono B11.size)⟩
  | 7, _ =>
    have D10 := CmB.put7 D9 (!y)
    have N10 := N9.set (b := db) (i := 7) (u := .bool (!y)) (show cb ≠ db by omega)
    have RO10 := HO.out.below (B9.setCell (p := ⟨db, 7, none⟩) hdb0 (.bool (!y)))
    have O10 := O9.set (b := db) (i := 7) (u := .bool (!y)) (Nat.lt_succ_self _)
    have B10 := B9.setCell (p := ⟨db, 7, none⟩) hdb0 (.bool (!y))
    have RD10 : OpsR _ (.slice a7 L.length cp7) L := O10.opsR hlL HLO.out
    have hne : ¬ (⟨k, s, q, n, L, p, x, y⟩ : Cm) = ⟨k, s, q, n, L, p, x, !y⟩ := fun e => by injection e with _ _ _ _ _ _ _ e8; cases y <;> cases e8
    clear HSM D9 N9 O9 B9 O10
    go_upto_region 29 with fail
    obtain ⟨w10, hw10⟩ : ∃ w10, w10 = w9.setCell ⟨db, 7, none⟩ (.bool (!y)) := ⟨_, rfl⟩
    rw [← hw10] at D10 N10 RO10 RD10 B10 ⊢
    clear hw10 c0 c1 c2 c3 c4 c5 c6 c7 d0 d1 d2 d3 d4 d5 d6 d7 f0 f1 f2 f3 f4 f5 f6 f7
    have HNE := Lib.hid hne
    have HSM1 := Lib.hid (same_any (.slice a L.length cap) (.slice a7 L.length cp7) ⟨k, s, q, n, L, p, x, y⟩ ⟨k, s, q, n, L, p, x, !y⟩ w10 RO10 RD10)
    have HSM2 := Lib.hid (fun (W : World) (hW : Below w10.heap.size w10 W) => same_any (.slice a7 L.length cp7) (.slice a L.length cap) ⟨k, s, q, n, L, p, x, !y⟩ ⟨k, s, q, n, L, p, x, y⟩ W (RD10.below hW) (RO10.below hW))
    rw [eqB_ne hne] at HSM1
    rw [eqB_ne (fun e => hne e.symm)] at HSM2
    unfold cmV at HSM1 HSM2
    simp only at HSM1 HSM2
    obtain ⟨⟨c0, c1, c2, c3, c4, c5, c6, c7⟩, _⟩ := N10.cells
    obtain ⟨⟨d0, d1, d2, d3, d4, d5, d6, d7⟩, _⟩ := D10.cells
    have HN10 := Lib.hid N10
    have HD10 := Lib.hid D10
    clear N10 D10 RO10 RD10 hne
    go_wp2_with fail
    refine HSM1.out.mono ?_
    rintro e w11 ⟨rfl, b11⟩
    have N11 := HN10.out.below b11
    have D11 := HD10.out.below b11
    have HSM3 := Lib.hid (HSM2.out w11 b11)
    clear c0 c1 c2 c3 c4 c5 c6 c7 d0 d1 d2 d3 d4 d5 d6 d7
    obtain ⟨⟨c0, c1, c2, c3, c4, c5, c6, c7⟩, _⟩ := N11.cells
    obtain ⟨⟨d0, d1, d2, d3, d4, d5, d6, d7⟩, _⟩ := D11.cells
    have B11 := B10.trans (b11.mono B10.size)
    clear N11 D11 b11
    go_wp2_with fail
    refine HSM3.out.mono ?_
    rintro e w12 ⟨rfl, b12⟩
    go_wp2_with fail
    go_ret
    exact ⟨rfl, B11.trans (b12.mono B11.size)⟩
  | 8, _ =>
    have hlz : L.length = 0 ∨ 0 < L.length := by omega
    rcases hlz with hlz | hlz
    · have hl0 : ((L.length : Int) == 0) = true := by simp [hlz]
      go_wp2_with fail
      go_ret
      exact ⟨rfl, B9⟩
    · have hl0 : ((L.length : Int) == 0) = false := beq_eq_false_iff_ne.2 (by omega)
      obtain ⟨g, hga, hgw⟩ : ∃ g, a7 = some ⟨g, 0, none⟩ ∧ db + 1 ≤ g := by
        obtain ⟨a', c', hv, hg⟩ := O9.form
        obtain ⟨e1, _, _⟩ : a7 = a' ∧ L.length = L.length ∧ cp7 = c' := by injection hv with e1 e2 e3; exact ⟨e1, e2, e3⟩
        obtain ⟨g, hg1, _⟩ := hg hlz
        exact ⟨g, by rw [e1, hg1], (O9.own (by rw [e1, hg1]; rfl)).1⟩
      subst hga
      obtain ⟨z0, hz0⟩ : ∃ z0, z0 = L.getD 0 Opr.zero := ⟨_, rfl⟩
      have hx0' : L[0]? = some z0 := by rw [hz0, List.getD_eq_getElem?_getD, List.getElem?_eq_getElem hlz]; rfl
      have hcell := (O9.opC (j := 0) hlz).2.2.2.2.2
      rw [← hz0] at hcell
      rw [show 0 * 6 + 5 = 5 from rfl] at hcell
      have hfrz : w9.frozen? ⟨g, 5, none⟩ = false := ORow.frz O9
      obtain ⟨hst, hgr⟩ := World.ownsRow.stored O9 5 (.bool (!z0.own))
      obtain ⟨L', hL'⟩ : ∃ L', L' = L.set 0 { z0 with own := !z0.own } := ⟨_, rfl⟩
      have hln : L'.length = L.length := by rw [hL', List.length_set]
      have O10 : ORow (w9.setCell ⟨g, 5, none⟩ (.bool (!z0.own))) (db + 1) (.slice (some ⟨g, 0, none⟩) L.length cp7) L' := by
        unfold ORow
        rw [hln, hL']
        have := cellsK_set opOne_len L 0 5 z0 { z0 with own := !z0.own } (.bool (!z0.own)) hx0' (by decide) rfl
        rw [← this]; exact hst
      have D10 := D9.kept hgr (fun e => by have := Option.some.inj e; omega)
      have N10 := N9.kept hgr (fun e => by have := Option.some.inj e; omega)
      have B10 := B9.setCell (p := ⟨g, 5, none⟩) (by show w.heap.size ≤ g; omega) (.bool (!z0.own))
      have RO10 := HO.out.below B10
      have RD10 : OpsR (w9.setCell ⟨g, 5, none⟩ (.bool (!z0.own))) (.slice (some ⟨g, 0, none⟩) L.length cp7) L' := by
        have h := O10
        rw [← hln] at h ⊢
        refine h.opsR (by rw [hln]; exact hlL) (fun y hy => ?_)
        rw [hL'] at hy
        rcases List.mem_or_eq_of_mem_set hy with hy | hy
        · exact HLO.out y hy
        · have := HLO.out z0 (by rw [hz0]; exact getD_mem hlz)
          rw [hy]; exact ⟨this.does, this.path, this.data, this.ver⟩
      have hne : ¬ (⟨k, s, q, n, L, p, x, y⟩ : Cm) = ⟨k, s, q, n, L', p, x, y⟩ := fun e => by
        injection e with e1 e2 e3 e4 e5
        have h2 : L'[0]? = some { z0 with own := !z0.own } := by rw [hL', List.getElem?_set_self hlz]
        rw [← e5, hx0'] at h2
        injection h2 with h2
        have := congrArg Opr.own h2
        cases hzo : z0.own <;> rw [hzo] at this <;> cases this
      have D10' : CmB (w9.setCell ⟨g, 5, none⟩ (.bool (!z0.own))) db (.slice (some ⟨g, 0, none⟩) L.length cp7) ⟨k, s, q, n, L', p, x, y⟩ := D10
      have HX4 : Hid (w9.cell? ⟨db, 4, none⟩ = some (.slice (some ⟨g, 0, none⟩) L.length cp7)) := Lib.hid d4
      have HX5 : Hid (w9.cell? ⟨g, 5, none⟩ = some (.bool z0.own)) := Lib.hid hcell
      have HX6 := Lib.hid hfrz
      have HSZ : Hid (0 < L.length ∧ L.length ≤ 1000) := Lib.hid ⟨hlz, by omega⟩
      clear HSM D9 N9 O9 B9 O10 hst hgr hz0 hx0' hcell hfrz hL' D10
      go_upto_region 12 with fail
      refine wp_region_inv_last 10 (IFJ (FSw db g L.length cp7 z0.own) (fun _ _ W => W = w9.drew)) (by kernel_rfl) (by kernel_rfl) (by kernel_rfl) (by kernel_rfl) (by kernel_rfl) ?_ ?_ ?_
      · intro z
        exact ⟨fun j hj => (by cases hj), rfl⟩
      · intro j o hj ho b z w1 hI hbi hW
        obtain rfl := hI.2
        match j, ho with
        | 0, ho =>
          obtain rfl := Option.some.inj ho
          exact gstep_field rfl (wanted0 rfl) _ _ _ rfl _ (eval_of 5 _ (by kernel_rfl) rfl) _ (run_fC4 _ _) ⟨_, rfl, IFJ.step hI rfl rfl⟩
        | 1, ho =>
          obtain rfl := Option.some.inj ho
          exact gstep_load rfl (wanted0 rfl) _ _ rfl _ (eval_at 29 0 _ (by kernel_rfl) (show 29 < 99 by decide) (hI.1 0 (hW 0 (by kernel_rfl)))) _ (run_loadOps _ _ _ _ _ HX4.out) ⟨_, rfl, IFJ.step hI rfl rfl⟩
        | 2, ho =>
          obtain rfl := Option.some.inj ho
          exact gstep_field rfl (wanted0 rfl) _ _ _ rfl _ (eval_of 5 _ (by kernel_rfl) rfl) _ (run_fC4 _ _) ⟨_, rfl, IFJ.step hI rfl rfl⟩
        | 3, ho =>
          obtain rfl := Option.some.inj ho
          exact gstep_load rfl (wanted0 rfl) _ _ rfl _ (eval_at 31 2 _ (by kernel_rfl) (show 31 < 99 by decide) (hI.1 2 (hW 2 (by kernel_rfl)))) _ (run_loadOps _ _ _ _ _ HX4.out) ⟨_, rfl, IFJ.step hI rfl rfl⟩
        | 4, ho =>
          obtain rfl := Option.some.inj ho
          exact gstep_index rfl (wanted0 rfl) _ _ _ rfl _ _ (eval_at 32 3 _ (by kernel_rfl) (show 32 < 99 by decide) (hI.1 3 (hW 3 (by kernel_rfl)))) rfl _ (run_idxO _ _ _ _ HSZ.out) ⟨_, rfl, IFJ.step hI rfl rfl⟩
        | 5, ho =>
          obtain rfl := Option.some.inj ho
          exact gstep_field rfl (wanted0 rfl) _ _ _ rfl _ (eval_at 33 4 _ (by kernel_rfl) (show 33 < 99 by decide) (hI.1 4 (hW 4 (by kernel_rfl)))) _ (run_fO5 _ _) ⟨_, rfl, IFJ.step hI rfl rfl⟩
        | 6, ho =>
          obtain rfl := Option.some.inj ho
          exact gstep_load rfl (wanted0 rfl) _ _ rfl _ (eval_at 34 5 _ (by kernel_rfl) (show 34 < 99 by decide) (hI.1 5 (hW 5 (by kernel_rfl)))) _ (run_loadB _ _ _ HX5.out) ⟨_, rfl, IFJ.step hI rfl rfl⟩
        | 7, ho =>
          obtain rfl := Option.some.inj ho
          exact gstep_not rfl (wanted0 rfl) _ _ rfl _ (eval_at 35 6 _ (by kernel_rfl) (show 35 < 99 by decide) (hI.1 6 (hW 6 (by kernel_rfl)))) ⟨_, rfl, IFJ.step hI rfl rfl⟩
        | 8, ho =>
          obtain rfl := Option.some.inj ho
          exact gstep_index rfl (wanted0 rfl) _ _ _ rfl _ _ (eval_at 30 1 _ (by kernel_rfl) (show 30 < 99 by decide) (hI.1 1 (hW 1 (by kernel_rfl)))) rfl _ (run_idxO _ _ _ _ HSZ.out) ⟨_, rfl, IFJ.step hI rfl rfl⟩
        | 9, ho =>
          obtain rfl := Option.some.inj ho
          exact gstep_field rfl (wanted0 rfl) _ _ _ rfl _ (eval_at 37 8 _ (by kernel_rfl) (show 37 < 99 by decide) (hI.1 8 (hW 8 (by kernel_rfl)))) _ (run_fO5 _ _) ⟨_, rfl, IFJ.step hI rfl rfl⟩
        | n + 10, ho => omega
      · intro o ho b z w1 hI hA
        obtain rfl := hI.2
        obtain rfl := Option.some.inj ho
        have hF9 : z 9 = .pointer (some ⟨g, 5, none⟩) := hI.1 9 (hA 9 (by decide))
        have hF7 : z 7 = .bool (!z0.own) := hI.1 7 (hA 7 (by decide))
        refine gstep_store rfl (wanted0 rfl) _ _ _ rfl _ _ (eval_at 38 9 _ (by kernel_rfl) (show 38 < 99 by decide) hF9) (eval_at 36 7 _ (by kernel_rfl) (show 36 < 99 by decide) hF7) _ (run_storeB _ _ _ _ HX5.out HX6.out) ?_
        simp only [putAll, Act.put, List.setIfInBounds_toArray, List.set_cons_succ, List.set_cons_zero]
        clear hI hA hF9 hF7
        obtain ⟨w10, hw10⟩ : ∃ w10, w10 = w9.drew.setCell ⟨g, 5, none⟩ (.bool (!z0.own)) := ⟨_, rfl⟩
        have D10 : CmB w10 db (.slice (some ⟨g, 0, none⟩) L.length cp7) ⟨k, s, q, n, L', p, x, y⟩ := by rw [hw10]; exact D10'
        have N10 : CmB w10 cb (.slice a L.length cap) ⟨k, s, q, n, L, p, x, y⟩ := by rw [hw10]; exact N10
        have RO10 : OpsR w10 (.slice a L.length cap) L := by rw [hw10]; exact RO10
        have RD10 : OpsR w10 (.slice (some ⟨g, 0, none⟩) L.length cp7) L' := by rw [hw10]; exact RD10
        have B10 : Below w.heap.size w w10 := by rw [hw10]; exact ⟨B10.os, B10.tape, B10.output, B10.size, B10.block⟩
        rw [← hw10]
        rw [← hln] at RD10 D10
        clear hln HSZ
        clear hw10 c0 c1 c2 c3 c4 c5 c6 c7 d0 d1 d2 d3 d4 d5 d6 d7 f0 f1 f2 f3 f4 f5 f6 f7 D10' HX4 HX5 HX6
        have HNE := Lib.hid hne
        have HSM1 := Lib.hid (same_any (.slice a L.length cap) (.slice (some ⟨g, 0, none⟩) L'.length cp7) ⟨k, s, q, n, L, p, x, y⟩ ⟨k, s, q, n, L', p, x, y⟩ w10 RO10 RD10)
        have HSM2 := Lib.hid (fun (W : World) (hW : Below w10.heap.size w10 W) => same_any (.slice (some ⟨g, 0, none⟩) L'.length cp7) (.slice a L.length cap) ⟨k, s, q, n, L', p, x, y⟩ ⟨k, s, q, n, L, p, x, y⟩ W (RD10.below hW) (RO10.below hW))
        rw [eqB_ne hne] at HSM1
        rw [eqB_ne (fun e => hne e.symm)] at HSM2
        unfold cmV at HSM1 HSM2
        simp only at HSM1 HSM2
        obtain ⟨⟨c0, c1, c2, c3, c4, c5, c6, c7⟩, _⟩ := N10.cells
        obtain ⟨⟨d0, d1, d2, d3, d4, d5, d6, d7⟩, _⟩ := D10.cells
        have HN10 := Lib.hid N10
        have HD10 := Lib.hid D10
        clear N10 D10 RO10 RD10 hne
        go_wp2_with fail
        refine HSM1.out.mono ?_
        rintro e w11 ⟨rfl, b11⟩
        have N11 := HN10.out.below b11
        have D11 := HD10.out.below b11
        have HSM3 := Lib.hid (HSM2.out w11 b11)
        clear c0 c1 c2 c3 c4 c5 c6 c7 d0 d1 d2 d3 d4 d5 d6 d7
        obtain ⟨⟨c0, c1, c2, c3, c4, c5, c6, c7⟩, _⟩ := N11.cells
        obtain ⟨⟨d0, d1, d2, d3, d4, d5, d6, d7⟩, _⟩ := D11.cells
        have B11 := B10.trans (b11.mono B10.size)
        clear N11 D11 b11
        go_wp2_with fail
        refine HSM3.out.mono ?_
        rintro e w12 ⟨rfl, b12⟩
        go_wp2_with fail
        go_ret
        exact ⟨rfl, B11.trans (b12.mono B11.size)⟩
  | 9, _ =>
    have hlz : L.length = 0 ∨ 0 < L.length := by omega
    rcases hlz with hlz | hlz
    · have hl0 : ((L.length : Int) == 0) = true := by simp [hlz]
      go_wp2_with fail
      go_ret
      exact ⟨rfl, B9⟩
    · have hl0 : ((L.length : Int) == 0) = false := beq_eq_false_iff_ne.2 (by omega)
      obtain ⟨g, hga, hgw⟩ : ∃ g, a7 = some ⟨g, 0, none⟩ ∧ db + 1 ≤ g := by
        obtain ⟨a', c', hv, hg⟩ := O9.form
        obtain ⟨e1, _, _⟩ : a7 = a' ∧ L.length = L.length ∧ cp7 = c' := by injection hv with e1 e2 e3; exact ⟨e1, e2, e3⟩
        obtain ⟨g, hg1, _⟩ := hg hlz
        exact ⟨g, by rw [e1, hg1], (O9.own (by rw [e1, hg1]; rfl)).1⟩
      subst hga
      obtain ⟨z0, hz0⟩ : ∃ z0, z0 = L.getD 0 Opr.zero := ⟨_, rfl⟩
      have hx0' : L[0]? = some z0 := by rw [hz0, List.getD_eq_getElem?_getD, List.getElem?_eq_getElem hlz]; rfl
      have hcell := (O9.opC (j := 0) hlz).2.2.2.2.2
      rw [← hz0] at hcell
      rw [show 0 * 6 + 5 = 5 from rfl] at hcell
      have hfrz : w9.frozen? ⟨g, 5, none⟩ = false := ORow.frz O9
      obtain ⟨hst, hgr⟩ := World.ownsRow.stored O9 5 (.bool (!z0.own))
      obtain ⟨L', hL'⟩ : ∃ L', L' = L.set 0 { z0 with own := !z0.own } := ⟨_, rfl⟩
      have hln : L'.length = L.length := by rw [hL', List.length_set]
      have O10 : ORow (w9.setCell ⟨g, 5, none⟩ (.bool (!z0.own))) (db + 1) (.slice (some ⟨g, 0, none⟩) L.length cp7) L' := by
        unfold ORow
        rw [hln, hL']
        have := cellsK_set opOne_len L 0 5 z0 { z0 with own := !z0.own } (.bool (!z0.own)) hx0' (by decide) rfl
        rw [← this]; exact hst
      have D10 := D9.kept hgr (fun e => by have := Option.some.inj e; omega)
      have N10 := N9.kept hgr (fun e => by have := Option.some.inj e; omega)
      have B10 := B9.setCell (p := ⟨g, 5, none⟩) (by show w.heap.size ≤ g; omega) (.bool (!z0.own))
      have RO10 := HO.out.below B10
      have RD10 : OpsR (w9.setCell ⟨g, 5, none⟩ (.bool (!z0.own))) (.slice (some ⟨g, 0, none⟩) L.length cp7) L' := by
        have h := O10
        rw [← hln] at h ⊢
        refine h.opsR (by rw [hln]; exact hlL) (fun y hy => ?_)
        rw [hL'] at hy
        rcases List.mem_or_eq_of_mem_set hy with hy | hy
        · exact HLO.out y hy
        · have := HLO.out z0 (by rw [hz0]; exact getD_mem hlz)
          rw [hy]; exact ⟨this.does, this.path, this.data, this.ver⟩
      have hne : ¬ (⟨k, s, q, n, L, p, x, y⟩ : Cm) = ⟨k, s, q, n, L', p, x, y⟩ := fun e => by
        injection e with e1 e2 e3 e4 e5
        have h2 : L'[0]? = some { z0 with own := !z0.own } := by rw [hL', List.getElem?_set_self hlz]
        rw [← e5, hx0'] at h2
        injection h2 with h2
        have := congrArg Opr.own h2
        cases hzo : z0.own <;> rw [hzo] at this <;> cases this
      have D10' : CmB (w9.setCell ⟨g, 5, none⟩ (.bool (!z0.own))) db (.slice (some ⟨g, 0, none⟩) L.length cp7) ⟨k, s, q, n, L', p, x, y⟩ := D10
      have HX4 : Hid (w9.cell? ⟨db, 4, none⟩ = some (.slice (some ⟨g, 0, none⟩) L.length cp7)) := Lib.hid d4
      have HX5 : Hid (w9.cell? ⟨g, 5, none⟩ = some (.bool z0.own)) := Lib.hid hcell
      have HX6 := Lib.hid hfrz
      have HSZ : Hid (0 < L.length ∧ L.length ≤ 1000) := Lib.hid ⟨hlz, by omega⟩
      clear HSM D9 N9 O9 B9 O10 hst hgr hz0 hx0' hcell hfrz hL' D10
      go_upto_region 12 with fail
      refine wp_region_inv_last 10 (IFJ (FSw db g L.length cp7 z0.own) (fun _ _ W => W = w9.drew)) (by kernel_rfl) (by kernel_rfl) (by kernel_rfl) (by kernel_rfl) (by kernel_rfl) ?_ ?_ ?_
      · intro z
        exact ⟨fun j hj => (by cases hj), rfl⟩
      · intro j o hj ho b z w1 hI hbi hW
        obtain rfl := hI.2
        match j, ho with
        | 0, ho =>
          obtain rfl := Option.some.inj ho
          exact gstep_field rfl (wanted0 rfl) _ _ _ rfl _ (eval_of 5 _ (by kernel_rfl) rfl) _ (run_fC4 _ _) ⟨_, rfl, IFJ.step hI rfl rfl⟩
        | 1, ho =>
          obtain rfl := Option.some.inj ho
          exact gstep_load rfl (wanted0 rfl) _ _ rfl _ (eval_at 29 0 _ (by kernel_rfl) (show 29 < 99 by decide) (hI.1 0 (hW 0 (by kernel_rfl)))) _ (run_loadOps _ _ _ _ _ HX4.out) ⟨_, rfl, IFJ.step hI rfl rfl⟩
        | 2, ho =>
          obtain rfl := Option.some.inj ho
          exact gstep_field rfl (wanted0 rfl) _ _ _ rfl _ (eval_of 5 _ (by kernel_rfl) rfl) _ (run_fC4 _ _) ⟨_, rfl, IFJ.step hI rfl rfl⟩
        | 3, ho =>
          obtain rfl := Option.some.inj ho
          exact gstep_load rfl (wanted0 rfl) _ _ rfl _ (eval_at 31 2 _ (by kernel_rfl) (show 31 < 99 by decide) (hI.1 2 (hW 2 (by kernel_rfl)))) _ (run_loadOps _ _ _ _ _ HX4.out) ⟨_, rfl, IFJ.step hI rfl rfl⟩
        | 4, ho =>
          obtain rfl := Option.some.inj ho
          exact gstep_index rfl (wanted0 rfl) _ _ _ rfl _ _ (eval_at 32 3 _ (by kernel_rfl) (show 32 < 99 by decide) (hI.1 3 (hW 3 (by kernel_rfl)))) rfl _ (run_idxO _ _ _ _ HSZ.out) ⟨_, rfl, IFJ.step hI rfl rfl⟩
        | 5, ho =>
          obtain rfl := Option.some.inj ho
          exact gstep_field rfl (wanted0 rfl) _ _ _ rfl _ (eval_at 33 4 _ (by kernel_rfl) (show 33 < 99 by decide) (hI.1 4 (hW 4 (by kernel_rfl)))) _ (run_fO5 _ _) ⟨_, rfl, IFJ.step hI rfl rfl⟩
        | 6, ho =>
          obtain rfl := Option.some.inj ho
          exact gstep_load rfl (wanted0 rfl) _ _ rfl _ (eval_at 34 5 _ (by kernel_rfl) (show 34 < 99 by decide) (hI.1 5 (hW 5 (by kernel_rfl)))) _ (run_loadB _ _ _ HX5.out) ⟨_, rfl, IFJ.step hI rfl rfl⟩
        | 7, ho =>
          obtain rfl := Option.some.inj ho
          exact gstep_not rfl (wanted0 rfl) _ _ rfl _ (eval_at 35 6 _ (by kernel_rfl) (show 35 < 99 by decide) (hI.1 6 (hW 6 (by kernel_rfl)))) ⟨_, rfl, IFJ.step hI rfl rfl⟩
        | 8, ho =>
          obtain rfl := Option.some.inj ho
          exact gstep_index rfl (wanted0 rfl) _ _ _ rfl _ _ (eval_at 30 1 _ (by kernel_rfl) (show 30 < 99 by decide) (hI.1 1 (hW 1 (by kernel_rfl)))) rfl _ (run_idxO _ _ _ _ HSZ.out) ⟨_, rfl, IFJ.step hI rfl rfl⟩
        | 9, ho =>
          obtain rfl := Option.some.inj ho
          exact gstep_field rfl (wanted0 rfl) _ _ _ rfl _ (eval_at 37 8 _ (by kernel_rfl) (show 37 < 99 by decide) (hI.1 8 (hW 8 (by kernel_rfl)))) _ (run_fO5 _ _) ⟨_, rfl, IFJ.step hI rfl rfl⟩
        | n + 10, ho => omega
      · intro o ho b z w1 hI hA
        obtain rfl := hI.2
        obtain rfl := Option.some.inj ho
        have hF9 : z 9 = .pointer (some ⟨g, 5, none⟩) := hI.1 9 (hA 9 (by decide))
        have hF7 : z 7 = .bool (!z0.own) := hI.1 7 (hA 7 (by decide))
        refine gstep_store rfl (wanted0 rfl) _ _ _ rfl _ _ (eval_at 38 9 _ (by kernel_rfl) (show 38 < 99 by decide) hF9) (eval_at 36 7 _ (by kernel_rfl) (show 36 < 99 by decide) hF7) _ (run_storeB _ _ _ _ HX5.out HX6.out) ?_
        simp only [putAll, Act.put, List.setIfInBounds_toArray, List.set_cons_succ, List.set_cons_zero]
        clear hI hA hF9 hF7
        obtain ⟨w10, hw10⟩ : ∃ w10, w10 = w9.drew.setCell ⟨g, 5, none⟩ (.bool (!z0.own)) := ⟨_, rfl⟩
        have D10 : CmB w10 db (.slice (some ⟨g, 0, none⟩) L.length cp7) ⟨k, s, q, n, L', p, x, y⟩ := by rw [hw10]; exact D10'
        have N10 : CmB w10 cb (.slice a L.length cap) ⟨k, s, q, n, L, p, x, y⟩ := by rw [hw10]; exact N10
        have RO10 : OpsR w10 (.slice a L.length cap) L := by rw [hw10]; exact RO10
        have RD10 : OpsR w10 (.slice (some ⟨g, 0, none⟩) L.length cp7) L' := by rw [hw10]; exact RD10
        have B10 : Below w.heap.size w w10 := by rw [hw10]; exact ⟨B10.os, B10.tape, B10.output, B10.size, B10.block⟩
        rw [← hw10]
        rw [← hln] at RD10 D10
        clear hln HSZ
        clear hw10 c0 c1 c2 c3 c4 c5 c6 c7 d0 d1 d2 d3 d4 d5 d6 d7 f0 f1 f2 f3 f4 f5 f6 f7 D10' HX4 HX5 HX6
        have HNE := Lib.hid hne
        have HSM1 := Lib.hid (same_any (.slice a L.length cap) (.slice (some ⟨g, 0, none⟩) L'.length cp7) ⟨k, s, q, n, L, p, x, y⟩ ⟨k, s, q, n, L', p, x, y⟩ w10 RO10 RD10)
        have HSM2 := Lib.hid (fun (W : World) (hW : Below w10.heap.size w10 W) => same_any (.slice (some ⟨g, 0, none⟩) L'.length cp7) (.slice a L.length cap) ⟨k, s, q, n, L', p, x, y⟩ ⟨k, s, q, n, L, p, x, y⟩ W (RD10.below hW) (RO10.below hW))
        rw [eqB_ne hne] at HSM1
        rw [eqB_ne (fun e => hne e.symm)] at HSM2
        unfold cmV at HSM1 HSM2
        simp only at HSM1 HSM2
        obtain ⟨⟨c0, c1, c2, c3, c4, c5, c6, c7⟩, _⟩ := N10.cells
        obtain ⟨⟨d0, d1, d2, d3, d4, d5, d6, d7⟩, _⟩ := D10.cells
        have HN10 := Lib.hid N10
        have HD10 := Lib.hid D10
        clear N10 D10 RO10 RD10 hne
        go_wp2_with fail
        refine HSM1.out.mono ?_
        rintro e w11 ⟨rfl, b11⟩
        have N11 := HN10.out.below b11
        have D11 := HD10.out.below b11
        have HSM3 := Lib.hid (HSM2.out w11 b11)
        clear c0 c1 c2 c3 c4 c5 c6 c7 d0 d1 d2 d3 d4 d5 d6 d7
        obtain ⟨⟨c0, c1, c2, c3, c4, c5, c6, c7⟩, _⟩ := N11.cells
        obtain ⟨⟨d0, d1, d2, d3, d4, d5, d6, d7⟩, _⟩ := D11.cells
        have B11 := B10.trans (b11.mono B10.size)
        clear N11 D11 b11
        go_wp2_with fail
        refine HSM3.out.mono ?_
        rintro e w12 ⟨rfl, b12⟩
        go_wp2_with fail
        go_ret
        exact ⟨rfl, B11.trans (b12.mono B11.size)⟩
  | z + 10, hz => omega

theorem own : ownKnob Try.prog.godebug = none := by kernel_rfl
theorem laidOut : laidOutB Try.prog = true := by kernel_rfl

set_option maxRecDepth 100000 in
theorem lifted (os : Os) (started : os.Started) (H : Type) (enc : TypeId × Value → H) :
    ReturnsInHanded {} Try.checked os 5 .any (Rows.opApartSpec.pre6 enc Try.prog Try.f5 Rows.opApartRow.domain false) (Rows.opApartSpec.post enc Try.prog Try.f5 false true false false) := by
  refine returnsInHanded_of_change (C := Try.checked) own started (by kernel_rfl) Try.func5
    (ChangeSpec.witness6 (enc := enc) (C := Try.checked) false ⟨#[], #[.agg #[.int .i64 0, .int .i64 0, .int .i64 0, .int .i64 0, .slice none 0 0, .string ByteArray.empty, .bool false, .bool false], .int .i64 0], []⟩ 8 (by kernel_rfl) (by kernel_rfl) (by kernel_rfl) (by kernel_rfl)) ?_
  intro W base args ds gs before hval0 hW hcnd _
  have hval : ∀ (j : Nat) t v, Try.f5.params[j]? = some t → args[j]? = some v → Value.okWide Try.prog W .any base t v := hval0
  have hW' := hW
  obtain ⟨p, q, hA0, hV, rfl, hfz, hnd⟩ := hW
  have hA : DataW.TrodAll enc Try.prog W 0 (fun _ => true) true Try.f5.params.toList args.toList ds p := hA0
  rw [Try.params5] at hA hval
  obtain ⟨v0, vs0, d0, ds0, p0, q0, hargs, rfl, rfl, h0, r0⟩ := trodAll_cons hA
  obtain ⟨v1, vs1, d1, ds1, p1, q1, rfl, rfl, rfl, h1, r1⟩ := trodAll_cons r0
  obtain ⟨rfl, rfl, rfl⟩ := trodAll_nil r1
  obtain rfl : args = #[v0, v1] := by cases args; simp_all
  obtain ⟨rfl, rfl⟩ := trodVars_none hV
  have k0 := h0
  have lt0 : ∀ x ∈ p0, x.block < W.heap.size := by obtain ⟨m, hm⟩ := k0; exact DataW.trod_lt m _ _ _ hm
  obtain ⟨z0, w0⟩ := cmd_of (hval 0 26 v0 rfl rfl) h0
  obtain ⟨a1, rfl, rfl, rfl, w1⟩ := open_int Try.underlying3 (hval 1 3 v1 rfl rfl) h1
  clear hA0 hval0
  refine (walk v0 z0 a1 W w0 w1).mono fun e W' ⟨he, bel⟩ => ?_
  subst he
  exact ⟨_, rfl, _, _, _, [], _, [], hW', trodAll_mk1 (shut_bool Try.underlying4 _), (trodAll_cons_mk (Below.trod laidOut (by kernel_rfl) (of_decide_eq_true (by kernel_rfl)) k0 bel lt0) (trodAll_cons_mk (shut_int Try.underlying3 w1) trodAll_mk0)), rfl, bel.frame _, fun h => by cases h⟩

theorem over : Rows.opApartRow.holds Try.pinned (OpenSpec.ofChange Rows.opApartSpec) :=
  OpenClaim.holds_of_wide 5 Try.f5 rfl rfl rfl rfl rfl rfl rfl ⟨rfl, rfl, rfl, rfl, rfl⟩ rfl rfl rfl rfl rfl (by kernel_rfl) Try.func5 (by kernel_rfl)
    (of_decide_eq_true (by kernel_rfl)) (by unfold Func.isWrapper; first | (rw [if_pos (by decide +kernel)]; kernel_rfl) | (rw [if_neg (by decide +kernel)]; exact ⟨rfl, rfl⟩))
    (fun os started H enc _ => lifted os started H enc)

theorem proved : Rows.OpApartSaid := over
end Go.Proofs.Ytkdbkbfloiponaa.opApart
