/- The law's head: the document's example holds. No conditions beyond those in each statement. -/
import Derived.Test.YtddkbninkncbeaaMGood
import Derived.Test.YtddkbninkncbeaaMSame
import Derived.Test.YtddkbninkncbeaaMRead
namespace Go.Proofs.Ytddkbninkncbeaa
open Go.RowKit
set_option linter.unusedVariables false
set_option linter.unusedSimpArgs false
set_option maxRecDepth 100000

theorem wpList_load_g {P : Program} {w : World} {ops : Array Oper} {rest : List Oper} {o : Oper} {a : Act} {Q : Exit → Act → World → Prop} {t : TypeId} {x : Operand} {v v' : Value} (hr : (Instr.loadAt t v).run P w = .ok v' w) (ho : o.op = .load t x) (hx : a.eval x = v) (hw : Region.wanted o (yielded ops a.tmps) = true)
    (h : wpList P ops Q rest (a.put o.dst v') w) : wpList P ops Q (o :: rest) a w :=
  wpList_step fun K hK => by
    rw [if_pos hw]
    unfold Oper.wp execOp
    simp only [ho, hx, Sem.run_bind, Sem.run_pure, Result.andThen_ok, hr]
    exact hK _ _ h
/-- A message in a new block, written as one step. -/
theorem newM (W : World) (n c k sc : Nat) (a sa : Option Addr) (m : Mg) : ∃ W', (Instr.storeAt 29 (.pointer (some ⟨W.heap.size, 0, none⟩)) (mgV (.slice a n c) (.slice sa k sc) m)).run Try.prog (W.alloc (.cells #[.int .i64 0, .int .i64 0, .int .i64 0, .int .i64 0, .int .i64 0, .int .i64 0, .int .i64 0, .int .i64 0, .slice none 0 0, .bool false, .int .i64 0, .int .i64 0, .int .i64 0, .int .i64 0, .slice none 0 0, .int .i64 0, .string ⟨#[]⟩] 29)) = .ok () W' ∧ MgB W' W.heap.size (.slice a n c) (.slice sa k sc) m ∧ Below W.heap.size W W' := by
  obtain ⟨W', h1, h2, h3, _⟩ := storeM (MgB.new W (.slice none 0 0) (.slice none 0 0) Mg.zero) m (a := a) (n := n) (c := c) (sa := sa) (k := k) (sc := sc)
  exact ⟨W', h1, h2, h3 _ _ (Nat.le_refl _) ((Below.refl _ W).alloc (Nat.le_refl _) _)⟩
/-- The example's entry; its message. -/
def enH : Ent := ⟨1, 3, ⟨#[120]⟩⟩
def mgH : Mg := ⟨3, 1, 2, 3, 0, 0, 0, 0, [enH], false, 0, 0, 0, 0, [], 0, ⟨#[]⟩⟩
theorem enH_ok : enH.Ok := ⟨by unfold InR enH; simp only; omega, by unfold InR enH; simp only; omega, by unfold enH maxLen; decide⟩
theorem mgH_right : rightM mgH = true := by decide
theorem mgH_ok : mgH.Ok := (rightM_parts mgH_right).ok
theorem mgH_bytes : bytesM mgH = (⟨(encM mgH).toArray⟩, 0) := by
  unfold bytesM; rw [if_pos mgH_right]
theorem mgH_len : (encM mgH).length ≤ 1000 := by decide
set_option maxHeartbeats 8000000 in
theorem head_any (w : World) :
    Calls Try.prog 8 #[] w fun e w' => e = .returned (.bool true) ∧ Below w.heap.size w w' := by
  have bA := (Below.refl w.heap.size w).alloc (Nat.le_refl _) (.cells (entA enH) 39)
  have E1 := EnB.new w enH
  obtain ⟨W1, hst1, N1, b1⟩ := newM (w.alloc (.cells (entA enH) 39)) 1 1 0 0 (some ⟨w.heap.size, 0, none⟩) none mgH
  have bB := bA.trans (b1.mono bA.size)
  have E2 := E1.below b1
  have R1 : EnsR W1 (.slice (some ⟨w.heap.size, 0, none⟩) 1 1) mgH.es := E2.ensR enH_ok
  have S1 : SmsR W1 (.slice none 0 0) mgH.ss := SmsR.nil _
  have hld1 := run_loadM N1
  obtain ⟨S, hS⟩ : ∃ S : ByteArray, S = ⟨(encM mgH).toArray⟩ := ⟨_, rfl⟩
  have hSl : S.data.toList = encM mgH := by rw [hS]
  have hSz : S.size ≤ 1000 := by rw [hS, size_arr]; exact mgH_len
  have HBY := Lib.hid (mbytes_any _ _ mgH W1 mgH_ok R1 S1)
  rw [mgH_bytes, ← hS] at HBY
  have HRD := Lib.hid (fun W : World => mread_any S W (by omega))
  rw [hSl, readM_good mgH mgH_right (fun z hz => by cases hz)] at HRD
  obtain ⟨bk1, hbk1⟩ : ∃ b, b = (w.alloc (.cells (entA enH) 39)).heap.size := ⟨_, rfl⟩
  rw [← hbk1] at hst1 N1 hld1
  have hbk1' : bk1 = w.heap.size + 1 := by rw [hbk1]; simp
  rw [hbk1'] at hst1 hld1
  have HN1 := Lib.hid N1
  have HR1 := Lib.hid R1
  have HS1 := Lib.hid S1
  have HOK : Hid (∀ x ∈ mgH.es, x.Ok) := Lib.hid (fun x hx => by rw [List.mem_singleton.1 hx]; exact enH_ok)
  obtain ⟨M0, hM0⟩ : ∃ M : Mg, M = mgH := ⟨_, rfl⟩
  have HLE : Hid (mgH.es.length = 1) := Lib.hid rfl
  have HLS : Hid (mgH.ss.length = 0) := Lib.hid rfl
  have HSB : Hid (∀ u v, mgV u v mgH = .agg #[.int .i64 3, .int .i64 1, .int .i64 2, .int .i64 3, .int .i64 0, .int .i64 0, .int .i64 0, .int .i64 0, u, .bool false, .int .i64 0, .int .i64 0, .int .i64 0, .int .i64 0, v, .int .i64 0, .string ⟨#[]⟩]) := Lib.hid (fun u v => rfl)
  rw [HSB.out] at hst1 hld1 HBY
  simp only at HBY
  simp only [entA, enH] at hst1
  have HST := Lib.hid hst1
  have HLD := Lib.hid hld1
  clear hst1 hld1 N1 R1 S1 E1 E2 bA b1 hS hSl hbk1 hM0
  go_enter Try.func8, Try.ntmps8
  go_wp2_with (first | (refine wpList_store_run HST.out rfl rfl rfl rfl ?_) | (refine wpList_load_run HLD.out rfl rfl rfl ?_))
  refine HBY.out.mono ?_
  rintro e w4 ⟨rfl, b4⟩
  have N4 := HN1.out.below b4
  have R4 := HR1.out.below b4
  have bC := bB.trans (b4.mono bB.size)
  clear HST HLD HBY HN1 HR1 bB b4
  go_wp2_with fail
  refine (HRD.out _).mono ?_
  rintro e w5 ⟨u5, v5, rfl, O5, S5, b5⟩
  obtain ⟨a5, c5, rfl, _⟩ := RowG.form O5
  obtain ⟨sa5, sc5, rfl, _⟩ := RowG.form S5
  have R5 := ERow.ensR O5 (by rw [HLE.out]; decide) HOK.out
  have T5 := SRow.smsR S5 (by rw [HLS.out]; decide) (fun z hz => by cases hz)
  rw [HLE.out] at R5
  rw [HLS.out] at T5
  rw [HLE.out, HLS.out]
  obtain ⟨W6, hst6, N6, b6⟩ := newM w5 1 c5 0 sc5 a5 sa5 mgH
  have hld6 := run_loadM N6
  have N56 := (N4.below b5).below b6
  have hldm := run_loadM N56
  have R56 := (R4.below b5).below b6
  have bD := bC.trans (b5.mono bC.size)
  have bE := bD.trans (b6.mono bD.size)
  have HSM := Lib.hid (msame_any (.slice a5 1 c5) (.slice sa5 0 sc5) _ _ mgH mgH W6 (R5.below b6) (T5.below b6) R56 (SmsR.nil _))
  rw [eqB_self, HSB.out, HSB.out] at HSM
  rw [HSB.out] at hst6 hld6 hldm ⊢
  have HST6 := Lib.hid hst6
  have HLD6 := Lib.hid hld6
  have HLDM := Lib.hid hldm
  have HN6 := Lib.hid N6
  rw [hbk1'] at HLDM
  clear hst6 hld6 hldm N6 b6 b5 N4 R4 N56 R56 bC bD O5 S5 R5 T5 HRD
  go_wp2_with (first | (refine wpList_store_run HST6.out rfl rfl rfl rfl ?_) | (refine wpList_load_g HLD6.out rfl rfl (by rfl) ?_) | (refine wpList_load_g HLDM.out rfl rfl (by rfl) ?_))
  refine HSM.out.mono ?_
  rintro e w7 ⟨rfl, b7⟩
  have N7 := HN6.out.below b7
  obtain ⟨⟨_, _, _, _, _, _, _, _, d8, _⟩, _⟩ := MgB.cells N7
  have bF := bE.trans (b7.mono bE.size)
  clear HST6 HLD6 HLDM HSM HN6 N7 b7 bE
  go_wp2_with fail
  go_ret
  exact ⟨rfl, bF⟩
end Go.Proofs.Ytddkbninkncbeaa
