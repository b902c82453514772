/- Do: an act of the book and of the model. No conditions beyond those in each statement. -/
import Derived.Test.YtbbdokfankgllaaGreatDoorWDoM
namespace Go.Proofs.YtbbdokfankgllaaGreatDoor
open Go.RowKit Go.Maps Go.Shelf
set_option linter.unusedVariables false
set_option linter.unusedSimpArgs false
set_option maxRecDepth 100000

theorem call_badd (W : World) (v1 v2 : Value) : (callFunc 16 #[v1, v2]).run Tryz.prog W = .ok (.enter 16 #[v1, v2]) W := by kernel_rfl
theorem call_madd (W : World) (v1 v2 : Value) : (callFunc 20 #[v1, v2]).run Tryz.prog W = .ok (.enter 20 #[v1, v2]) W := by kernel_rfl
theorem run_eqE (W : World) (x y : Int) (s1 s2 : Operand) : (do eqGuard .eql 42 s1 s2 (.int .i64 x) (.int .i64 y); binOp .eql 42 (.int .i64 x) (.int .i64 y) : Sem Value).run Tryz.prog W = .ok (.bool (x == y)) W := by go_simp
def FDo (bb mb : Nat) (X : Wa) (E E2 : Int) : Nat → Value → Prop
  | 0, v => v = .pointer (some ⟨bb, 0, none⟩)
  | 1, v => v = waV X
  | 2, v => v = .int .i64 E
  | 3, v => v = .pointer (some ⟨mb, 0, none⟩)
  | 4, v => v = waV X
  | 5, v => v = .int .i64 E2
  | 6, v => v = .bool (E == E2)
  | _, _ => True
/-- What has run of the region that adds to both. -/
structure JDo (wd : World) (base bb mb kk : Nat) (O : Nat → Prop) (S T : Sb) (X : Wa) (tb : Nat) (b : Nat → Bool) (x : Nat → Value) (w : World) : Prop where
  pr : ∃ O', PairW w base bb mb kk O' (if b 2 = true then addL S.ws X else S.ws) S.es S.n (if b 5 = true then addL T.ws X else T.ws) T.es T.n ∧ FrO wd w O O' ∧ Oth w O' tb
  wa : WaB w tb X
section
variable {wd w w' : World} {base bb mb kk : Nat} {O O1 O2 : Nat → Prop} {S T : Sb} {X : Wa} {tb : Nat} {b : Nat → Bool} {x : Nat → Value}
theorem JDo.pure {i : Nat} {v : Value} (h : JDo wd base bb mb kk O S T X tb b x w) (hi : ¬ 2 = i ∧ ¬ 5 = i) : JDo wd base bb mb kk O S T X tb (setB b i) (setX x i v) w := by
  obtain ⟨h1, h2⟩ := hi
  refine ⟨?_, h.wa⟩
  rw [setB_ne h1, setB_ne h2]
  exact h.pr
theorem JDo.s2 {v : Value} (h : JDo wd base bb mb kk O S T X tb b x w) (hf : FrO wd w O O1) (ho : Oth w O1 tb) (hp : PairW w' base bb mb kk O2 (addL S.ws X) S.es S.n (if b 5 = true then addL T.ws X else T.ws) T.es T.n) (hf2 : FrO w w' O1 O2) : JDo wd base bb mb kk O S T X tb (setB b 2) (setX x 2 v) w' := by
  obtain ⟨k1, k2⟩ := ho.keep hf2
  refine ⟨⟨O2, ?_, hf.trans hf2, k2⟩, k1.trans h.wa⟩
  rw [setB_same, setB_ne (by decide), if_pos rfl]
  exact hp
theorem JDo.s5 {v : Value} (h : JDo wd base bb mb kk O S T X tb b x w) (hf : FrO wd w O O1) (ho : Oth w O1 tb) (hp : PairW w' base bb mb kk O2 (if b 2 = true then addL S.ws X else S.ws) S.es S.n (addL T.ws X) T.es T.n) (hf2 : FrO w w' O1 O2) : JDo wd base bb mb kk O S T X tb (setB b 5) (setX x 5 v) w' := by
  obtain ⟨k1, k2⟩ := ho.keep hf2
  refine ⟨⟨O2, ?_, hf.trans hf2, k2⟩, k1.trans h.wa⟩
  rw [setB_same, setB_ne (by decide), if_pos rfl]
  exact hp
end
/-- Does an act answer the same to both. -/
def doB (q : Ac) (S T : Sb) : Bool := if kdo q = 0 ∨ kdo q = 1 then addE S.ws (waO q) == addE T.ws (waO q) else true
theorem doB_self (q : Ac) (S : Sb) : doB q S S = true := by unfold doB; split <;> simp
set_option maxHeartbeats 16000000 in
theorem do_gen (base bb mb kk : Nat) (O : Nat → Prop) (S T : Sb) (q : Ac) (pa : Option Addr) (pc : Nat) (when : Int) (w : World) (h : PairW w base bb mb kk O S.ws S.es S.n T.ws T.es T.n) (hs : SbOk S kk) (ht : SbOk T kk) (hk : kk ≤ 40000) (hI : IntsR w (.slice pa q.path.length pc) q.path) (hp : q.path.length ≤ 12) :
    Calls Tryz.prog 7 #[.pointer (some ⟨bb, 0, none⟩), .pointer (some ⟨mb, 0, none⟩), .agg #[.int .i64 q.k, .int .i64 q.ses, .int .i64 q.n, .slice pa q.path.length pc, .bool q.kids, .bool q.once], .int .i64 when] w fun e w' => e = .returned (.bool (doB q S T)) ∧ ∃ O', PairW w' base bb mb (kk + 80) O' (doS q when S).ws (doS q when S).es (doS q when S).n (doS q when T).ws (doS q when T).es (doS q when T).n ∧ FrO w w' O O' := by
  have HP := Lib.hid h
  have HSB := Lib.hid hs
  have HTB2 := Lib.hid ht
  have HLO := Lib.hid h.lo
  have bA := (Below.refl w.heap.size w).alloc (Nat.le_refl _) (.cells #[.int .i64 q.k, .int .i64 q.ses, .int .i64 q.n, .slice pa q.path.length pc, .bool q.kids, .bool q.once] 35)
  have NA := heap_alloc_new w (.cells #[.int .i64 q.k, .int .i64 q.ses, .int .i64 q.n, .slice pa q.path.length pc, .bool q.kids, .bool q.once] 35)
  obtain ⟨w1, hw1⟩ : ∃ w1, w1 = w.alloc (.cells #[.int .i64 q.k, .int .i64 q.ses, .int .i64 q.n, .slice pa q.path.length pc, .bool q.kids, .bool q.once] 35) := ⟨_, rfl⟩
  obtain ⟨ab, hab⟩ : ∃ ab, ab = w.heap.size := ⟨_, rfl⟩
  have hmade := made_any (.slice pa q.path.length pc) q.path w1 (by rw [hw1]; exact hI.1.below bA) (by omega) hI.2
  rw [show bs (madeL (wsOf q.path)) = mkP q.path from rfl] at hmade
  have HMD := Lib.hid hmade
  rw [← hw1] at bA NA
  rw [← hab] at NA
  have HW1 := Lib.hid hw1
  have HAB := Lib.hid hab
  have HB1 := Lib.hid bA
  have HNA := Lib.hid NA
  have x3 : w1.cell? ⟨ab, 3, none⟩ = some (.slice pa q.path.length pc) := by simp [World.cell?, NA]
  obtain ⟨la, hup⟩ := upM_spec q.path hp
  have HUP := Lib.hid hup
  have HOK := Lib.hid (waO_ok q hp)
  obtain ⟨ku, hk7, hkv⟩ := pick7 q.k
  have hand7 := i64_and7 q.ses
  have hand15 := i64_and15 q.n
  have hse : q.ses % 8 = sesO q := rfl
  rw [hse] at hand7
  have HDO : Hid (kdo q = (ku : Int)) := Lib.hid hkv
  have HSE : Hid (InR (sesO q)) := Lib.hid (by unfold InR sesO; omega)
  obtain ⟨no, hno⟩ : ∃ no, no = q.n % 16 := ⟨_, rfl⟩
  rw [← hno] at hand15
  have HNO := Lib.hid hno
  clear h hs ht hI hw1 hab bA NA hmade hup hse hno
  go_enter Tryz.func7, Tryz.ntmps7
  go_upto_region 1 with fail
  rw [← HW1.out, ← HAB.out]
  go_wp2_with fail
  refine HMD.out.mono ?_
  rintro e w2 ⟨rfl, b2⟩
  have N2 := (b2.block ab (Array.getElem?_eq_some_iff.1 HNA.out).1).trans HNA.out
  have y1 : w2.cell? ⟨ab, 1, none⟩ = some (.int .i64 q.ses) := by simp [World.cell?, N2]
  have hal2 : ab < w2.heap.size := (Array.getElem?_eq_some_iff.1 N2).1
  have HN2 := Lib.hid N2
  have HB2 : Hid (Below w.heap.size w w2) := Lib.hid (HB1.out.trans (b2.mono HB1.out.size))
  clear x3 N2 b2 HMD HNA HB1
  go_upto_region 3 with fail
  have b3 := (Below.refl w2.heap.size w2).alloc (Nat.le_refl _) (.cells #[.int .i64 (sesO q)] 3)
  have N3 := heap_alloc_new w2 (.cells #[.int .i64 (sesO q)] 3)
  obtain ⟨w3, hw3⟩ : ∃ w3, w3 = w2.alloc (.cells #[.int .i64 (sesO q)] 3) := ⟨_, rfl⟩
  obtain ⟨sb, hsb⟩ : ∃ sb, sb = w2.heap.size := ⟨_, rfl⟩
  rw [← hw3] at b3 N3 ⊢
  rw [← hsb] at N3 ⊢
  have A3 := (b3.block ab hal2).trans HN2.out
  have HB3 : Hid (Below w.heap.size w w3) := Lib.hid (HB2.out.trans (b3.mono HB2.out.size))
  have HP3 := Lib.hid (HP.out.below HB3.out)
  have HOA : Hid (Oth w3 O ab) := Lib.hid ⟨(Array.getElem?_eq_some_iff.1 A3).1, fun e => by have := (HLO.out.1 ab e).2; have := HAB.out; omega⟩
  have HOS : Hid (Oth w3 O sb) := Lib.hid ⟨(Array.getElem?_eq_some_iff.1 N3).1, fun e => by have := (HLO.out.1 sb e).2; have := HB2.out.size; omega⟩
  have c0 : w3.cell? ⟨ab, 0, none⟩ = some (.int .i64 q.k) := by simp [World.cell?, A3]
  have c2 : w3.cell? ⟨ab, 2, none⟩ = some (.int .i64 q.n) := by simp [World.cell?, A3]
  have c4 : w3.cell? ⟨ab, 4, none⟩ = some (.bool q.kids) := by simp [World.cell?, A3]
  have c5 : w3.cell? ⟨ab, 5, none⟩ = some (.bool q.once) := by simp [World.cell?, A3]
  have s0 : w3.cell? ⟨sb, 0, none⟩ = some (.int .i64 (sesO q)) := by simp [World.cell?, N3]
  have HA3 := Lib.hid A3
  have HN3 := Lib.hid N3
  clear b3 N3 A3 hw3 hsb y1 HN2 HB2 hal2 HP hand7
  have hor : ku = 0 ∨ ku = 1 ∨ ku = 2 ∨ ku = 3 ∨ ku = 4 ∨ ku = 5 ∨ ku = 6 := by omega
  clear hk7
  by_cases hadd : ku = 0 ∨ ku = 1
  · have HD : Hid (doS q when S = ⟨addL S.ws (waO q), S.es, S.n⟩) := Lib.hid (by
      unfold doS
      rw [HDO.out, if_pos (by omega)])
    have HE : Hid (doS q when T = ⟨addL T.ws (waO q), T.es, T.n⟩) := Lib.hid (by
      unfold doS
      rw [HDO.out, if_pos (by omega)])
    have HDB : Hid (doB q S T = (addE S.ws (waO q) == addE T.ws (waO q))) := Lib.hid (by unfold doB; rw [HDO.out, if_pos (by omega)])
    obtain ⟨X, hX⟩ : ∃ X, X = waO q := ⟨_, rfl⟩
    have HXS : Hid (X.ses ≤ 281474976710655) := Lib.hid (by rw [hX]; exact HOK.out.ses.2)
    have hx0 : X.ses = sesO q := by rw [hX]; rfl
    have hx1 : X.path = mkP q.path := by rw [hX]; rfl
    have hx2 : X.kids = q.kids := by rw [hX]; rfl
    have hx3 : X.once = q.once := by rw [hX]; rfl
    rw [← hX] at HD HE HDB
    rw [← hx0] at s0
    rw [← hx1]
    rw [← hx2] at c4
    rw [← hx3] at c5
    have HDO2 := HDO
    clear hX hx0 hx1 hx2 hx3 hor hand15
    have HTWO : Hid (∀ w5 : World, Below w3.heap.size w3 w5 → ∀ tb, WaB w5 tb X → w3.heap.size ≤ tb → JDo w5.drew base bb mb kk O S T X tb (fun _ => false) (fun _ => undef) w5.drew) := Lib.hid fun w5 h5 tb ht hlt => by
      have hd := h5.trans ((Below.refl _ w5).drew.mono h5.size)
      exact ⟨⟨O, HP3.out.below hd, FrO.low (Below.refl _ _), ⟨by have := ht.lt; exact this, fun e => by have := (HP3.out.lo.1 tb e).2; omega⟩⟩, ht⟩
    have bX := (Below.refl w3.heap.size w3).alloc (Nat.le_refl _) (.cells #[.int .i64 X.ses, .string X.path, .bool X.kids, .bool X.once] 49)
    have NX : WaB (w3.alloc (.cells #[.int .i64 X.ses, .string X.path, .bool X.kids, .bool X.once] 49)) w3.heap.size X := heap_alloc_new w3 _
    have HJ := Lib.hid (HTWO.out _ bX _ NX (Nat.le_refl _))
    have HB5 : Hid (FrO w (w3.alloc (.cells #[.int .i64 X.ses, .string X.path, .bool X.kids, .bool X.once] 49)).drew O O) := Lib.hid (FrO.low ((HB3.out.trans (bX.mono HB3.out.size)).drew))
    obtain ⟨wd, hwd⟩ : ∃ wd, wd = (w3.alloc (.cells #[.int .i64 X.ses, .string X.path, .bool X.kids, .bool X.once] 49)).drew := ⟨_, rfl⟩
    obtain ⟨tb, htb⟩ : ∃ tb, tb = w3.heap.size := ⟨_, rfl⟩
    rw [← hwd, ← htb] at HJ
    rw [← hwd] at HB5
    have HWD := Lib.hid hwd
    have HTB := Lib.hid htb
    clear bX NX HTWO hwd htb
    rcases hadd with rfl | rfl <;>
    · clear HDO HDO2
      go_upto_region 10 with fail
      rw [← HTB.out]
      refine wp_region_inv_last 7 (IFJ (FDo bb mb X (addE S.ws X) (addE T.ws X)) (JDo wd base bb mb kk O S T X tb)) (by kernel_rfl) (by kernel_rfl) (by kernel_rfl) (by kernel_rfl) (by kernel_rfl) ?_ ?_ ?_
      · intro z
        rw [← HWD.out]
        exact ⟨fun j hj => (by cases hj), ⟨HJ.out.pr, HJ.out.wa⟩⟩
      · intro i o hi ho b z w1 hI hbi hW
        match i, ho with
          | 0, ho =>
            obtain rfl := Option.some.inj ho
            exact gstep_move rfl (wanted0 rfl) _ rfl _ (eval_of 0 _ (by kernel_rfl) rfl) ⟨_, rfl, IFJ.step hI rfl (hI.2.pure (by decide))⟩
          | 1, ho =>
            obtain rfl := Option.some.inj ho
            exact gstep_load rfl (wanted0 rfl) _ _ rfl _ (eval_of 12 _ (by kernel_rfl) rfl) _ (run_lwa w1 _ 0 _ hI.2.wa.cells) ⟨_, rfl, IFJ.step hI rfl (hI.2.pure (by decide))⟩
          | 2, ho =>
            obtain rfl := Option.some.inj ho
            refine gstep_call2 rfl (wanted0 rfl) _ _ _ _ rfl _ _ (eval_at 41 0 _ (by kernel_rfl) (show 41 < 75 by decide) (hI.1 0 (hW 0 (by kernel_rfl)))) (eval_at 42 1 _ (by kernel_rfl) (show 42 < 75 by decide) (hI.1 1 (hW 1 (by kernel_rfl)))) (call_badd w1 _ _) ?_
            obtain ⟨O1, hp1, hf1, ho1⟩ := hI.2.pr
            rw [hbi, if_neg (show ¬ (false = true) by decide)] at hp1
            refine (padd_b hp1 X HSB.out.ws (by have := HSB.out.l40; omega)).mono ?_
            rintro e w2 ⟨rfl, O2, hp2, hf2⟩
            exact ⟨_, rfl, _, rfl, IFJ.step hI rfl (hI.2.s2 hf1 ho1 hp2 hf2)⟩
          | 3, ho =>
            obtain rfl := Option.some.inj ho
            exact gstep_move rfl (wanted0 rfl) _ rfl _ (eval_of 1 _ (by kernel_rfl) rfl) ⟨_, rfl, IFJ.step hI rfl (hI.2.pure (by decide))⟩
          | 4, ho =>
            obtain rfl := Option.some.inj ho
            exact gstep_load rfl (wanted0 rfl) _ _ rfl _ (eval_of 12 _ (by kernel_rfl) rfl) _ (run_lwa w1 _ 0 _ hI.2.wa.cells) ⟨_, rfl, IFJ.step hI rfl (hI.2.pure (by decide))⟩
          | 5, ho =>
            obtain rfl := Option.some.inj ho
            refine gstep_call2 rfl (wanted0 rfl) _ _ _ _ rfl _ _ (eval_at 44 3 _ (by kernel_rfl) (show 44 < 75 by decide) (hI.1 3 (hW 3 (by kernel_rfl)))) (eval_at 45 4 _ (by kernel_rfl) (show 45 < 75 by decide) (hI.1 4 (hW 4 (by kernel_rfl)))) (call_madd w1 _ _) ?_
            obtain ⟨O1, hp1, hf1, ho1⟩ := hI.2.pr
            rw [hbi, if_neg (show ¬ (false = true) by decide)] at hp1
            refine (padd_m hp1 X HTB2.out.ws (by have := HTB2.out.l40; omega) HXS.out).mono ?_
            rintro e w2 ⟨rfl, O2, hp2, hf2⟩
            exact ⟨_, rfl, _, rfl, IFJ.step hI rfl (hI.2.s5 hf1 ho1 hp2 hf2)⟩
          | 6, ho =>
            obtain rfl := Option.some.inj ho
            exact gstep_bin rfl (wanted0 rfl) _ _ _ _ _ rfl _ _ (eval_at 43 2 _ (by kernel_rfl) (show 43 < 75 by decide) (hI.1 2 (hW 2 (by kernel_rfl)))) (eval_at 46 5 _ (by kernel_rfl) (show 46 < 75 by decide) (hI.1 5 (hW 5 (by kernel_rfl)))) _ (run_eqE w1 _ _ _ _) ⟨_, rfl, IFJ.step hI rfl (hI.2.pure (by decide))⟩
          | n + 7, ho => omega
      · intro o ho b z w1 hI hA
        obtain rfl := Option.some.inj ho
        have hF6 : z 6 = .bool (addE S.ws X == addE T.ws X) := hI.1 6 (hA 6 (by decide))
        obtain ⟨O9, hp9, hf9, _⟩ := hI.2.pr
        rw [hA 2 (by decide), hA 5 (by decide), if_pos rfl] at hp9
        have HP9 := Lib.hid hp9
        have HF9 := Lib.hid (HB5.out.trans hf9)
        refine gstep_assign rfl (wanted0 rfl) _ rfl _ (eval_at 47 6 _ (by kernel_rfl) (show 47 < 75 by decide) hF6) ?_
        simp only [putAll, Act.put, List.setIfInBounds_toArray, List.set_cons_succ, List.set_cons_zero]
        clear hI hA hF6 hp9 hf9
        go_wp2_with fail
        go_ret
        rw [HD.out, HE.out, HDB.out]
        exact ⟨rfl, O9, HP9.out.mono (by omega), HF9.out⟩
  · have HDBT : Hid (doB q S T = true) := Lib.hid (by unfold doB; rw [HDO.out, if_neg (by omega)])
    by_cases hfire : ku = 2 ∨ ku = 3 ∨ ku = 4
    · obtain ⟨wt, hwt⟩ : ∃ wt : Int, wt = (ku : Int) - 1 := ⟨_, rfl⟩
      have HD : Hid (doS q when S = ⟨fireW (mkP q.path) (upM q.path) wt S.ws, (fireS (mkP q.path) (upM q.path) wt when S.ws (S.es, S.n)).1, (fireS (mkP q.path) (upM q.path) wt when S.ws (S.es, S.n)).2⟩) := Lib.hid (by
        unfold doS
        rw [HDO.out, if_neg (by omega), if_pos (by omega), hwt])
      have HE : Hid (doS q when T = ⟨fireW (mkP q.path) (upM q.path) wt T.ws, (fireS (mkP q.path) (upM q.path) wt when T.ws (T.es, T.n)).1, (fireS (mkP q.path) (upM q.path) wt when T.ws (T.es, T.n)).2⟩) := Lib.hid (by
        unfold doS
        rw [HDO.out, if_neg (by omega), if_pos (by omega), hwt])
      have HFB := Lib.hid (pfire_b HP3.out (mkP q.path) (upM q.path) la wt when HUP.out HSB.out.inr HSB.out.l40 (by have := HSB.out.les; omega) (by omega))
      have HFM : Hid (∀ (W : World) (O1 : Nat → Prop) (Wb : List Wa) (Eb : List Ev) (Nb : Int → Option Int), PairW W base bb mb (kk + 40) O1 Wb Eb Nb T.ws T.es T.n → Calls Tryz.prog 21 #[.pointer (some ⟨mb, 0, none⟩), .string (mkP q.path), .int .i64 wt, .int .i64 when] W fun e w' => e = .returned (.tuple #[]) ∧ ∃ O', PairW w' base bb mb (kk + 40 + 40) O' Wb Eb Nb (fireW (mkP q.path) (upM q.path) wt T.ws) (fireS (mkP q.path) (upM q.path) wt when T.ws (T.es, T.n)).1 (fireS (mkP q.path) (upM q.path) wt when T.ws (T.es, T.n)).2 ∧ FrO W w' O1 O') := Lib.hid fun W O1 Wb Eb Nb hP =>
        pfire_m hP (mkP q.path) (upM q.path) la wt when HUP.out HTB2.out.inr HTB2.out.l40 (by have := HTB2.out.les; omega) (by omega) (by omega)
      clear hor hand15 hadd HDO
      rcases hfire with rfl | rfl | rfl
      · obtain rfl : wt = 1 := by omega
        clear hwt
        go_wp2_with fail
        refine HFB.out.mono ?_
        rintro e w4 ⟨rfl, O4, hp4, hf4⟩
        have HFM2 := Lib.hid (HFM.out w4 O4 _ _ _ hp4)
        have HF4 := Lib.hid ((FrO.low HB3.out).trans hf4)
        clear c0 c2 c4 c5 s0 HFB HFM hp4 hf4
        go_wp2_with fail
        refine HFM2.out.mono ?_
        rintro e w5 ⟨rfl, O5, hp5, hf5⟩
        have HP5 := Lib.hid hp5
        have HF5 := Lib.hid (HF4.out.trans hf5)
        clear hp5 hf5 HFM2
        go_wp2_with fail
        go_ret
        rw [HD.out, HE.out, HDBT.out]
        exact ⟨rfl, O5, HP5.out, HF5.out⟩
      · obtain rfl : wt = 2 := by omega
        clear hwt
        go_wp2_with fail
        refine HFB.out.mono ?_
        rintro e w4 ⟨rfl, O4, hp4, hf4⟩
        have HFM2 := Lib.hid (HFM.out w4 O4 _ _ _ hp4)
        have HF4 := Lib.hid ((FrO.low HB3.out).trans hf4)
        clear c0 c2 c4 c5 s0 HFB HFM hp4 hf4
        go_wp2_with fail
        refine HFM2.out.mono ?_
        rintro e w5 ⟨rfl, O5, hp5, hf5⟩
        have HP5 := Lib.hid hp5
        have HF5 := Lib.hid (HF4.out.trans hf5)
        clear hp5 hf5 HFM2
        go_wp2_with fail
        go_ret
        rw [HD.out, HE.out, HDBT.out]
        exact ⟨rfl, O5, HP5.out, HF5.out⟩
      · obtain rfl : wt = 3 := by omega
        clear hwt
        go_wp2_with fail
        refine HFB.out.mono ?_
        rintro e w4 ⟨rfl, O4, hp4, hf4⟩
        have HFM2 := Lib.hid (HFM.out w4 O4 _ _ _ hp4)
        have HF4 := Lib.hid ((FrO.low HB3.out).trans hf4)
        clear c0 c2 c4 c5 s0 HFB HFM hp4 hf4
        go_wp2_with fail
        refine HFM2.out.mono ?_
        rintro e w5 ⟨rfl, O5, hp5, hf5⟩
        have HP5 := Lib.hid hp5
        have HF5 := Lib.hid (HF4.out.trans hf5)
        clear hp5 hf5 HFM2
        go_wp2_with fail
        go_ret
        rw [HD.out, HE.out, HDBT.out]
        exact ⟨rfl, O5, HP5.out, HF5.out⟩
    · by_cases hno5 : ku = 5
      · have HD : Hid (doS q when S = ⟨S.ws, S.es.filter fun x => !notB (sesO q) no x, S.n⟩) := Lib.hid (by
          unfold doS
          rw [HDO.out, if_neg (by omega), if_neg (by omega), if_pos (by omega), HNO.out])
        have HE : Hid (doS q when T = ⟨T.ws, T.es.filter fun x => !notB (sesO q) no x, T.n⟩) := Lib.hid (by
          unfold doS
          rw [HDO.out, if_neg (by omega), if_neg (by omega), if_pos (by omega), HNO.out])
        have HNB := Lib.hid (pnoted_b HP3.out (sesO q) no (by have := HSB.out.les; omega))
        have HLT : Hid (∀ (W : World) (O1 : Nat → Prop) (Wb : List Wa) (Eb : List Ev) (Nb : Int → Option Int), W.heap[ab]? = w3.heap[ab]? → W.heap[sb]? = w3.heap[sb]? → PairW W base bb mb kk O1 Wb Eb Nb T.ws T.es T.n → Calls Tryz.prog 23 #[.pointer (some ⟨mb, 0, none⟩), .func (.func 24) #[] #[.pointer (some ⟨sb, 0, none⟩), .pointer (some ⟨ab, 0, none⟩)]] W fun e w' => e = .returned (.tuple #[]) ∧ ∃ O', PairW w' base bb mb kk O' Wb Eb Nb T.ws (T.es.filter fun x => !notB (sesO q) no x) T.n ∧ FrO W w' O1 O') := Lib.hid fun W O1 Wb Eb Nb hA hS hP =>
          plet_m hP 24 #[.pointer (some ⟨sb, 0, none⟩), .pointer (some ⟨ab, 0, none⟩)] (enters_of Tryz.func24 (by kernel_rfl) rfl) (notB (sesO q) no) (by have := HTB2.out.les; omega) (fun V x hV => by
            have hA2 := hA.trans HA3.out
            have hS2 := hS.trans HN3.out
            have hA3 := (hV.block ab (Array.getElem?_eq_some_iff.1 hA2).1).trans hA2
            have hS3 := (hV.block sb (Array.getElem?_eq_some_iff.1 hS2).1).trans hS2
            exact doc_any (sesO q) q.n no sb ab x V (by simp [World.cell?, hS3]) (by simp [World.cell?, hA3]) (by rw [HNO.out]; exact i64_and15 q.n))
        clear hor hadd hfire HDO
        subst hno5
        go_wp2_with fail
        refine HNB.out.mono ?_
        rintro e w4 ⟨rfl, O4, hp4, hf4⟩
        obtain ⟨kA, _⟩ := HOA.out.keep hf4
        obtain ⟨kS, oS⟩ := HOS.out.keep hf4
        have HLT2 := Lib.hid (HLT.out w4 O4 _ _ _ kA kS hp4)
        have HF4 := Lib.hid ((FrO.low HB3.out).trans hf4)
        clear c0 c2 c4 c5 s0 hand15 HNB HLT kA kS oS hp4 hf4
        go_wp2_with fail
        refine HLT2.out.mono ?_
        rintro e w5 ⟨rfl, O5, hp5, hf5⟩
        have HP5 := Lib.hid hp5
        have HF5 := Lib.hid (HF4.out.trans hf5)
        clear hp5 hf5 HLT2
        go_wp2_with fail
        go_ret
        rw [HD.out, HE.out, HDBT.out]
        exact ⟨rfl, O5, HP5.out.mono (by omega), HF5.out⟩
      · have HD : Hid (doS q when S = ⟨S.ws.filter fun x => !(x.ses == sesO q), S.es.filter fun x => !(x.ses == sesO q), updN S.n (sesO q) none⟩) := Lib.hid (by
          unfold doS
          rw [HDO.out, if_neg (by omega), if_neg (by omega), if_neg (by omega)])
        have HE : Hid (doS q when T = ⟨T.ws.filter fun x => !(x.ses == sesO q), T.es.filter fun x => !(x.ses == sesO q), updN T.n (sesO q) none⟩) := Lib.hid (by
          unfold doS
          rw [HDO.out, if_neg (by omega), if_neg (by omega), if_neg (by omega)])
        obtain rfl : ku = 6 := by omega
        have HDB := Lib.hid (pdrop_b HP3.out (sesO q) HSE.out (by have := HSB.out.l40; omega) (by have := HSB.out.les; omega))
        have HDM : Hid (∀ (W : World) (O1 : Nat → Prop) (Wb : List Wa) (Eb : List Ev) (Nb : Int → Option Int), PairW W base bb mb kk O1 Wb Eb Nb T.ws T.es T.n → Calls Tryz.prog 26 #[.pointer (some ⟨mb, 0, none⟩), .int .i64 (sesO q)] W fun e w' => e = .returned (.tuple #[]) ∧ ∃ O', PairW w' base bb mb kk O' Wb Eb Nb (T.ws.filter fun x => !(x.ses == sesO q)) (T.es.filter fun x => !(x.ses == sesO q)) (updN T.n (sesO q) none) ∧ FrO W w' O1 O') := Lib.hid fun W O1 Wb Eb Nb hP =>
          pdrop_m hP (sesO q) HSE.out (by have := HTB2.out.l40; omega) (by have := HTB2.out.les; omega)
        clear hor hadd hfire HDO hno5 hand15
        go_wp2_with fail
        refine HDB.out.mono ?_
        rintro e w4 ⟨rfl, O4, hp4, hf4⟩
        obtain ⟨kS, oS⟩ := HOS.out.keep hf4
        have HDM2 := Lib.hid (HDM.out w4 O4 _ _ _ hp4)
        have hS4 := kS.trans HN3.out
        have s4 : w4.cell? ⟨sb, 0, none⟩ = some (.int .i64 (sesO q)) := by simp [World.cell?, hS4]
        have HF4 := Lib.hid ((FrO.low HB3.out).trans hf4)
        clear c0 c2 c4 c5 s0 HDB HDM kS oS hp4 hf4 hS4
        go_wp2_with fail
        refine HDM2.out.mono ?_
        rintro e w5 ⟨rfl, O5, hp5, hf5⟩
        have HP5 := Lib.hid hp5
        have HF5 := Lib.hid (HF4.out.trans hf5)
        clear hp5 hf5 HDM2 s4
        go_wp2_with fail
        go_ret
        rw [HD.out, HE.out, HDBT.out]
        exact ⟨rfl, O5, HP5.out.mono (by omega), HF5.out⟩
theorem do_any (base bb mb kk : Nat) (O : Nat → Prop) (S : Sb) (q : Ac) (pa : Option Addr) (pc : Nat) (when : Int) (w : World) (h : PairW w base bb mb kk O S.ws S.es S.n S.ws S.es S.n) (hs : SbOk S kk) (hk : kk ≤ 40000) (hI : IntsR w (.slice pa q.path.length pc) q.path) (hp : q.path.length ≤ 12) :
    Calls Tryz.prog 7 #[.pointer (some ⟨bb, 0, none⟩), .pointer (some ⟨mb, 0, none⟩), .agg #[.int .i64 q.k, .int .i64 q.ses, .int .i64 q.n, .slice pa q.path.length pc, .bool q.kids, .bool q.once], .int .i64 when] w fun e w' => e = .returned (.bool true) ∧ ∃ O', PairW w' base bb mb (kk + 80) O' (doS q when S).ws (doS q when S).es (doS q when S).n (doS q when S).ws (doS q when S).es (doS q when S).n ∧ FrO w w' O O' := by
  refine (do_gen base bb mb kk O S S q pa pc when w h hs hs hk hI hp).mono ?_
  rintro e w' ⟨rfl, h2⟩
  rw [doB_self]
  exact ⟨rfl, h2⟩
end Go.Proofs.YtbbdokfankgllaaGreatDoor
