/- WatchNumbers: the numbers of a session's events. No conditions beyond those in each statement. -/
import Derived.Test.YtbbdokfankgllaaDoorWActsW
import Derived.Test.YtbbdokfankgllaaDoorWNumM
namespace Go.Proofs.YtbbdokfankgllaaDoor
open Go.RowKit Go.Maps Go.Shelf
set_option linter.unusedVariables false
set_option linter.unusedSimpArgs false
set_option maxRecDepth 100000

theorem run_fE0 (W : World) (b : Nat) : (Instr.fieldAt 50 (.pointer (some ⟨b, 0, none⟩)) 0).run Tryd.prog W = .ok (.pointer (some ⟨b, 0, none⟩)) W := by go_simp
theorem run_fE1 (W : World) (b : Nat) : (Instr.fieldAt 50 (.pointer (some ⟨b, 0, none⟩)) 1).run Tryd.prog W = .ok (.pointer (some ⟨b, 1, none⟩)) W := by go_simp
theorem run_fE4 (W : World) (b : Nat) : (Instr.fieldAt 50 (.pointer (some ⟨b, 0, none⟩)) 4).run Tryd.prog W = .ok (.pointer (some ⟨b, 4, none⟩)) W := by go_simp
theorem run_iix (W : World) (g s : Nat) (h : s < 8) : (Instr.indexAt 33 (.slice (some ⟨g, 0, none⟩) 8 8) (.int .i64 (s : Int))).run Tryd.prog W = .ok (.pointer (some ⟨g, s, none⟩)) W := by
  have h0 : (0 : Int) ≤ (s : Int) := by omega
  have h1 : (s : Int) < 8 := by omega
  go_simp
theorem run_neqF (W : World) (x y : Int) (h : x = y) (s1 s2 : Operand) : (do eqGuard .neq 3 s1 s2 (.int .i64 x) (.int .i64 y); binOp .neq 3 (.int .i64 x) (.int .i64 y) : Sem Value).run Tryd.prog W = .ok (.bool false) W := by
  subst h
  go_simp
theorem run_lssF (W : World) (x y : Int) (h : decide (x < y) = false) (s1 s2 : Operand) : (do eqGuard .lss 3 s1 s2 (.int .i64 x) (.int .i64 y); binOp .lss 3 (.int .i64 x) (.int .i64 y) : Sem Value).run Tryd.prog W = .ok (.bool false) W := by go_simp
/-- A book, a model and two rows of eight numbers. -/
structure NmW (w0 w : World) (bb mb kk : Nat) (O : Nat → Prop) (S : Sb) (lb tb : Nat) (gl gt : Nat → Int) : Prop where
  pr : PairW w bb bb mb kk O S.ws S.es S.n S.ws S.es S.n
  rl : Row8 w lb gl
  rt : Row8 w tb gt
  nl : ¬ O lb
  nt : ¬ O tb
  ne : lb ≠ tb
  bel : Below w0.heap.size w0 w
  ll : w0.heap.size ≤ lb
  lt : w0.heap.size ≤ tb
section
variable {w0 w w' : World} {bb mb kk k2 : Nat} {O O' : Nat → Prop} {S S' : Sb} {lb tb s : Nat} {gl gt : Nat → Int} {v : Int}
theorem NmW.below (h : NmW w0 w bb mb kk O S lb tb gl gt) (hb : Below w.heap.size w w') : NmW w0 w' bb mb kk O S lb tb gl gt :=
  ⟨h.pr.below hb, h.rl.below hb, h.rt.below hb, h.nl, h.nt, h.ne, h.bel.trans (hb.mono h.bel.size), h.ll, h.lt⟩
theorem NmW.mono (h : NmW w0 w bb mb kk O S lb tb gl gt) (hk : kk ≤ k2) : NmW w0 w bb mb k2 O S lb tb gl gt :=
  ⟨h.pr.mono hk, h.rl, h.rt, h.nl, h.nt, h.ne, h.bel, h.ll, h.lt⟩
theorem NmW.keepO {b i : Nat} {u : Value} (h : NmW w0 w bb mb kk O S lb tb gl gt) (hb : ¬ O b) : PairW (w.setCell ⟨b, i, none⟩ u) bb bb mb kk O S.ws S.es S.n S.ws S.es S.n :=
  h.pr.keep (fun q hq => Below.heap_setCell w ⟨b, i, none⟩ u q (fun e => hb (by have e2 : q = b := e; rw [← e2]; exact hq))) (by simp)
theorem NmW.setL (h : NmW w0 w bb mb kk O S lb tb gl gt) (hs : s < 8) : NmW w0 (w.setCell ⟨lb, s, none⟩ (.int .i64 v)) bb mb kk O S lb tb (upd8 gl s v) gt :=
  ⟨h.keepO h.nl, h.rl.set hs, h.rt.other h.ne.symm, h.nl, h.nt, h.ne, h.bel.setCell (p := ⟨lb, s, none⟩) h.ll _, h.ll, h.lt⟩
theorem NmW.setT (h : NmW w0 w bb mb kk O S lb tb gl gt) (hs : s < 8) : NmW w0 (w.setCell ⟨tb, s, none⟩ (.int .i64 v)) bb mb kk O S lb tb gl (upd8 gt s v) :=
  ⟨h.keepO h.nt, h.rl.other h.ne, h.rt.set hs, h.nl, h.nt, h.ne, h.bel.setCell (p := ⟨tb, s, none⟩) h.lt _, h.ll, h.lt⟩
theorem NmW.act (h : NmW w0 w bb mb kk O S lb tb gl gt) (hp : PairW w' bb bb mb k2 O' S'.ws S'.es S'.n S'.ws S'.es S'.n) (hf : FrO w w' O O') (hbb : w0.heap.size ≤ bb) : NmW w0 w' bb mb k2 O' S' lb tb gl gt := by
  obtain ⟨r1, o1⟩ := h.rl.kept ⟨h.rl.lt, h.nl⟩ hf
  obtain ⟨r2, o2⟩ := h.rt.kept ⟨h.rt.lt, h.nt⟩ hf
  have hlo := h.pr.lo
  exact ⟨hp, r1, r2, o1.2, o2.2, h.ne, h.bel.trans ((hf.below (fun b hb => (hlo.1 b hb).1) hlo.2).mono hbb), h.ll, h.lt⟩
theorem row8_new (w : World) : Row8 (w.alloc (.cells #[.int .i64 0, .int .i64 0, .int .i64 0, .int .i64 0, .int .i64 0, .int .i64 0, .int .i64 0, .int .i64 0] 3)) w.heap.size (fun _ => 0) := heap_alloc_new w _
theorem NumI.mono (h : NumI S kk) (hk : kk ≤ k2) : NumI S k2 := ⟨h.le, fun z => ⟨(h.bd z).1, by have := (h.bd z).2; omega⟩⟩
theorem erow_set {base b i : Nat} {va : Value} {F : List Ev} {u : Value} {f : Nat → Int} (h : ERow w base va F) (hb : Row8 w b f) : ERow (w.setCell ⟨b, i, none⟩ u) base va F :=
  h.kept (set_grown w b i u) (fun g e e2 => by
    obtain ⟨c1, h1, _⟩ := row_own h e
    exact cells_ne h1 hb (by decide) (Option.some.inj e2).symm)
end
def FN20 (n : Nat → Value → Prop) : Nat → Value → Prop := n
def FNu (eb lb tb s : Nat) (ls ts no wh i1 : Int) (i : Int) : Nat → Value → Prop
  | 0, v => v = .pointer (some ⟨eb, 1, none⟩)
  | 1, v => v = .int .i64 no
  | 2, v => v = .slice (some ⟨lb, 0, none⟩) 8 8
  | 3, v => v = .int .i64 (s : Int)
  | 4, v => v = .pointer (some ⟨lb, s, none⟩)
  | 5, v => v = .int .i64 ls
  | 6, v => v = .int .i64 no
  | 7, v => v = .bool false
  | 8, v => v = .bool false
  | 9, v => v = .pointer (some ⟨eb, 4, none⟩)
  | 10, v => v = .int .i64 wh
  | 11, v => v = .slice (some ⟨tb, 0, none⟩) 8 8
  | 12, v => v = .int .i64 (s : Int)
  | 13, v => v = .pointer (some ⟨tb, s, none⟩)
  | 14, v => v = .int .i64 ts
  | 15, v => v = .bool false
  | 16, v => v = .bool false
  | 17, v => v = .bool false
  | 18, v => v = .pointer (some ⟨eb, 0, none⟩)
  | 19, v => v = .int .i64 (s : Int)
  | 20, v => v = .int .i64 (s : Int)
  | 21, v => v = .bool false
  | 22, v => v = .bool false
  | 23, v => v = .bool false
  | 24, v => v = .pointer (some ⟨eb, 4, none⟩)
  | 25, v => v = .int .i64 wh
  | 26, v => v = .int .i64 i
  | 27, v => v = .int .i64 i1
  | 28, v => v = .bool false
  | _, _ => True
set_option maxHeartbeats 32000000 in
theorem nums_walk (a : Option Addr) (cap : Nat) (qs : List Aq) (w : World) (hA : Acts11 w (.slice a qs.length cap) qs) :
    Calls Tryd.prog 5 #[.slice a qs.length cap] w fun e w' => e = .returned (.bool true) ∧ Below w.heap.size w w' := by
  have HH := Lib.hid (fun W => head_any W)
  have HACT := Lib.hid hA
  clear hA
  go_enter Tryd.func5, Tryd.ntmps5
  go_wp2_with fail
  refine (HH.out _).mono ?_
  rintro e w2 ⟨rfl, b2⟩
  have HF := Lib.hid (few11_any a cap qs w2 (HACT.out.below b2))
  have HB2 := Lib.hid b2
  clear b2 HH
  go_wp2_with fail
  refine HF.out.mono ?_
  rintro e w3 ⟨rfl, b3⟩
  have HB3 : Hid (Below w.heap.size w w3) := Lib.hid (HB2.out.trans (b3.mono HB2.out.size))
  clear b3 HF HB2
  cases hfew : few11 qs with
  | false =>
    go_wp2_with fail
    go_ret
    exact ⟨rfl, HB3.out⟩
  | true =>
    have HFEW := Lib.hid hfew
    clear hfew
    have HN := Lib.hid (bnew_any w3)
    go_wp2_with fail
    refine HN.out.mono ?_
    rintro e w4 ⟨rfl, hk4, b4⟩
    obtain ⟨bb, hbb⟩ : ∃ bb, bb = w3.heap.size := ⟨_, rfl⟩
    have hbase : w.heap.size ≤ bb := by rw [hbb]; exact HB3.out.size
    rw [← hbb] at hk4 ⊢
    have hp := pair_new hk4
    have hlt4 := hk4.lt
    have bA := (Below.refl w4.heap.size w4).alloc (Nat.le_refl _) (.cells #[.slice none 0 0, .slice none 0 0, .map none] 32)
    have HB5 : Hid (Below w.heap.size w (w4.alloc (.cells #[.slice none 0 0, .slice none 0 0, .map none] 32))) := Lib.hid (HB3.out.trans ((b4.trans (bA.mono b4.size)).mono HB3.out.size))
    have hq60 : qs.length ≤ 60 := by
      by_cases h0 : 0 < qs.length
      · exact (few11_at HFEW.out h0).2
      · omega
    have HP5 := Lib.hid hp
    have hs5 : (w4.alloc (.cells #[.slice none 0 0, .slice none 0 0, .map none] 32)).heap.size = w4.heap.size + 1 := Array.size_push _
    have HS5 := Lib.hid hs5
    have HL4 : Hid (bb < w4.heap.size) := Lib.hid hlt4
    clear HN hk4 b4 hp bA hbb hs5 hlt4
    go_upto_region 7 with fail
    obtain ⟨w5, hw5⟩ : ∃ w5, w5 = w4.alloc (.cells #[.slice none 0 0, .slice none 0 0, .map none] 32) := ⟨_, rfl⟩
    obtain ⟨mb, hmb⟩ : ∃ mb, mb = w4.heap.size := ⟨_, rfl⟩
    rw [← hw5, ← hmb] at HP5 HS5
    rw [← hmb] at HL4
    rw [← hw5] at HB5 ⊢
    rw [← hmb]
    clear hw5 hmb
    have r6 := row8_new w5
    have bB := (Below.refl w5.heap.size w5).alloc (Nat.le_refl _) (.cells #[.int .i64 0, .int .i64 0, .int .i64 0, .int .i64 0, .int .i64 0, .int .i64 0, .int .i64 0, .int .i64 0] 3)
    go_upto_region 8 with fail
    obtain ⟨w6, hw6⟩ : ∃ w6, w6 = w5.alloc (.cells #[.int .i64 0, .int .i64 0, .int .i64 0, .int .i64 0, .int .i64 0, .int .i64 0, .int .i64 0, .int .i64 0] 3) := ⟨_, rfl⟩
    obtain ⟨lb, hlb⟩ : ∃ lb, lb = w5.heap.size := ⟨_, rfl⟩
    rw [← hw6, ← hlb] at r6
    rw [← hw6] at bB ⊢
    rw [← hlb]
    have r7 := row8_new w6
    have bC := (Below.refl w6.heap.size w6).alloc (Nat.le_refl _) (.cells #[.int .i64 0, .int .i64 0, .int .i64 0, .int .i64 0, .int .i64 0, .int .i64 0, .int .i64 0, .int .i64 0] 3)
    have hll := r6.lt
    have HNM : Hid (NmW w (w6.alloc (.cells #[.int .i64 0, .int .i64 0, .int .i64 0, .int .i64 0, .int .i64 0, .int .i64 0, .int .i64 0, .int .i64 0] 3)) bb mb 0 (fun b => b = bb ∨ b = mb) sb0 lb w6.heap.size (fun _ => 0) (fun _ => 0)) := Lib.hid
      ⟨(HP5.out.below bB).below bC, r6.below bC, r7, fun e => by have := HS5.out; have := HL4.out; omega, fun e => by have := HS5.out; have := HL4.out; have := bB.size; omega, by omega, HB5.out.trans ((bB.trans (bC.mono bB.size)).mono HB5.out.size), by rw [hlb]; exact HB5.out.size, Nat.le_trans HB5.out.size bB.size⟩
    clear r6 r7 bB bC hw6 hlb hll HP5 HS5 HL4 HB5
    go_upto_region 9 with fail
    obtain ⟨w7, hw7⟩ : ∃ w7, w7 = w6.alloc (.cells #[.int .i64 0, .int .i64 0, .int .i64 0, .int .i64 0, .int .i64 0, .int .i64 0, .int .i64 0, .int .i64 0] 3) := ⟨_, rfl⟩
    obtain ⟨tb, htb⟩ : ∃ tb, tb = w6.heap.size := ⟨_, rfl⟩
    rw [← hw7, ← htb] at HNM
    rw [← hw7, ← htb]
    clear hw7 htb
    go_wp2_with fail
    go_loopw [24] (fun iv wr => ∃ (j : Nat) (O : Nat → Prop) (S : Sb) (gl gt : Nat → Int), j ≤ qs.length ∧ iv = .int .i64 j ∧ Hid (NmW w wr bb mb (80 * j) O S lb tb gl gt) ∧ Hid (SbOk S (80 * j)) ∧ Hid (NumI S (40 * j)) ∧ Hid (∀ z : Nat, 1 ≤ z → z < 8 → gl z = (S.n (z : Int)).getD 0) ∧ Hid (∀ z, gt z ≤ (j : Int))) (fun iv _ => qs.length - (intOf iv).toNat)
    case atStart => exact ⟨0, _, sb0, _, _, by omega, rfl, HNM, Lib.hid sb0_ok, Lib.hid numI0, Lib.hid (fun z _ _ => rfl), Lib.hid (fun z => Int.le_refl _)⟩
    case round =>
      obtain ⟨j, O, S, gl, gt, hj, rfl, HM, HS, HNI, HGL, HGT⟩ := hrel
      clear HNM
      by_cases hlt : j < qs.length
      · have hlt2 : decide ((j : Int) < (qs.length : Int)) = true := by simp; omega
        obtain ⟨hok, hpv, ga, off, rfl, h0, h1, h2, h3, h4, h5⟩ := act11_at HACT.out HM.out.bel hlt
        have hf12 := (few11_at HFEW.out hlt).1
        have HPV := Lib.hid hpv
        have t2 : IntKind.i64.wrap ((j : Int) + 1) = (j : Int) + 1 := IntWalk.i64_in _ (by omega)
        have hj0 : (0 : Int) ≤ (j : Int) := by omega
        have hji : (j : Int) < (qs.length : Int) := by omega
        clear hok
        generalize qs.getD j aq0 = y at *
        obtain ⟨fa, fcap, hfv, _, hfm, _⟩ := hpv.1
        obtain ⟨q, pv⟩ := y
        simp only at *
        subst hfv
        clear hpv hfm
        have bA := (Below.refl _ wr).alloc (Nat.le_refl _) (.cells #[.int .i64 q.k, .int .i64 q.ses, .int .i64 q.n, .slice fa q.path.length fcap, .bool q.kids, .bool q.once] 35)
        have N8 := heap_alloc_new wr (.cells #[.int .i64 q.k, .int .i64 q.ses, .int .i64 q.n, .slice fa q.path.length fcap, .bool q.kids, .bool q.once] 35)
        go_upto_region 12 with fail
        obtain ⟨w8, hw8⟩ : ∃ w8, w8 = wr.alloc (.cells #[.int .i64 q.k, .int .i64 q.ses, .int .i64 q.n, .slice fa q.path.length fcap, .bool q.kids, .bool q.once] 35) := ⟨_, rfl⟩
        rw [← hw8] at bA N8 ⊢
        have c0 : w8.cell? ⟨wr.heap.size, 0, none⟩ = some (.int .i64 q.k) := by simp [World.cell?, N8]
        have c1 : w8.cell? ⟨wr.heap.size, 1, none⟩ = some (.int .i64 q.ses) := by simp [World.cell?, N8]
        have c2 : w8.cell? ⟨wr.heap.size, 2, none⟩ = some (.int .i64 q.n) := by simp [World.cell?, N8]
        have c3 : w8.cell? ⟨wr.heap.size, 3, none⟩ = some (.slice fa q.path.length fcap) := by simp [World.cell?, N8]
        have c4 : w8.cell? ⟨wr.heap.size, 4, none⟩ = some (.bool q.kids) := by simp [World.cell?, N8]
        have c5 : w8.cell? ⟨wr.heap.size, 5, none⟩ = some (.bool q.once) := by simp [World.cell?, N8]
        have HM8 := Lib.hid (HM.out.below bA)
        have hkv : wrap64 ((IntKind.u64.wrap q.k).tmod 7) = kdo q := rfl
        obtain ⟨kv, hkv2⟩ : ∃ kv, kv = kdo q := ⟨_, rfl⟩
        rw [← hkv2] at hkv
        have HKV := Lib.hid hkv2
        by_cases h6 : kv = 6
        · have e6 : (kv == 6) = true := by simp [h6]
          clear hw8 h0 h1 h2 h3 h4 h5 N8 HM bA HPV hkv2
          have HM9 : Hid (NmW w w8 bb mb (80 * (j + 1)) O S lb tb gl gt) := Lib.hid (HM8.out.mono (by omega))
          have HS9 : Hid (SbOk S (80 * (j + 1))) := Lib.hid (HS.out.mono (by omega))
          have HI9 : Hid (NumI S (40 * (j + 1))) := Lib.hid (HNI.out.mono (by omega))
          have HT9 : Hid (∀ z, gt z ≤ ((j + 1 : Nat) : Int)) := Lib.hid (fun z => by have := HGT.out z; omega)
          clear h6
          go_wp2_with fail
          go_roundw
          case rel => exact ⟨j + 1, O, S, gl, gt, by omega, by go_num, HM9, HS9, HI9, HGL, HT9⟩
          case measure => simp [intOf]; omega
        · have e6 : (kv == 6) = false := by simp [h6]
          have hdo := do_any bb bb mb (80 * j) O S q fa fcap ((j : Int) + 1) w8 HM8.out.pr HS.out (by omega) ⟨HPV.out.1.below bA, HPV.out.2⟩ hf12
          have HDO := Lib.hid hdo
          have HS2 : Hid (SbOk (doS q ((j : Int) + 1) S) (80 * (j + 1))) := Lib.hid ((HS.out.step q _ hf12).mono (by omega))
          have HNS : Hid (∀ z, NumS S (doS q ((j : Int) + 1) S) ((j : Int) + 1) z) := Lib.hid (fun z => num_step HNI.out HS.out.l40 (by omega) q _ (by rw [← HKV.out]; exact h6) z)
          obtain ⟨S9, hS9⟩ : ∃ S9, S9 = doS q ((j : Int) + 1) S := ⟨_, rfl⟩
          rw [← hS9] at HDO HS2 HNS
          have HI9 : Hid (NumI S9 (40 * (j + 1))) := Lib.hid ((HNI.out.step HNS.out).mono (by omega))
          clear hw8 h0 h1 h2 h3 h4 h5 N8 HM bA HPV hdo HS hkv2 h6 hS9
          go_wp2_with fail
          refine HDO.out.mono ?_
          rintro e w9 ⟨rfl, O9, hp9, hf9⟩
          have HM9 : Hid (NmW w w9 bb mb (80 * (j + 1)) O9 S9 lb tb gl gt) := Lib.hid ((HM8.out.act hp9 hf9 hbase).mono (by omega))
          have HT9 : Hid (∀ z, gt z ≤ (j : Int) + 1) := Lib.hid (fun z => by have := HGT.out z; omega)
          have HG1 : Hid (∀ z : Nat, 1 ≤ z → z < 1 → gl z = (S9.n (z : Int)).getD 0) := Lib.hid (fun z h1 h2 => by omega)
          clear hp9 hf9 HDO HM8 c0 c1 c2 c3 c4 c5 HGT e6 hkv
          go_wp2_with fail
          go_loopw [9] (fun sv wx => ∃ (s : Nat) (gl gt : Nat → Int), 1 ≤ s ∧ s ≤ 8 ∧ sv = .int .i64 s ∧ Hid (∀ z : Nat, 1 ≤ z → z < s → gl z = (S9.n (z : Int)).getD 0) ∧ Hid (∀ z : Nat, s ≤ z → z < 8 → gl z = (S.n (z : Int)).getD 0) ∧ Hid (∀ z, gt z ≤ (j : Int) + 1) ∧ Hid (NmW w wx bb mb (80 * (j + 1)) O9 S9 lb tb gl gt)) (fun sv _ => 8 - (intOf sv).toNat)
          case atStart => exact ⟨1, gl, gt, by omega, by omega, rfl, HG1, Lib.hid (fun z h1 h2 => HGL.out z h1 h2), HT9, HM9⟩
          case round =>
            clear HG1 HGL HT9 HM9
            obtain ⟨s, fl, ft, hs1, hs8, rfl, HFL1, HFL2, HFT, HMS⟩ := hrel
            by_cases hs9 : s < 8
            · have hs2 : decide ((s : Int) < 8) = true := by simp; omega
              have ts : IntKind.i64.wrap ((s : Int) + 1) = (s : Int) + 1 := IntWalk.i64_in _ (by omega)
              have hsi0 : (0 : Int) ≤ (s : Int) := by omega
              have hsi8 : (s : Int) < 8 := by omega
              obtain ⟨A, B, hAB, hAl, hBc, hn9, hB40⟩ := HNS.out (s : Int)
              have hpr := HMS.out.pr
              obtain ⟨vw, ve, vm, kb, cb, uw, ue, um, k', c', hbk, _⟩ := hpr
              have hle := HS2.out.les
              have hev := events_any bb bb vw ve vm S9.ws S9.es kb cb S9.n (s : Int) wr hbk (by omega)
              rw [hAB] at hev
              have HE := Lib.hid hev
              have hll : (A ++ B).length ≤ 5000 := by
                rw [← hAB]
                exact Nat.le_trans (List.length_filter_le ..) (by omega)
              obtain ⟨n0, hn0⟩ : ∃ n0, n0 = (S.n (s : Int)).getD 0 := ⟨_, rfl⟩
              rw [← hn0] at hAl hBc hn9
              have hnb := HNI.out.bd (s : Int)
              rw [← hn0] at hnb
              have HNB : Hid (0 ≤ n0 ∧ n0 ≤ 100000) := Lib.hid ⟨hnb.1, by omega⟩
              have HAL := Lib.hid hAl
              have HBC := Lib.hid hBc
              have HN9 := Lib.hid hn9
              have HFS : Hid (fl s = n0) := Lib.hid (by rw [hn0]; exact HFL2.out s (Nat.le_refl _) hs9)
              obtain ⟨F, hF⟩ : ∃ F, F = A ++ B := ⟨_, rfl⟩
              rw [← hF] at HE hll
              have HFE := Lib.hid hF
              have HLL := Lib.hid hll
              clear hAB hAl hBc hn9 hB40 hbk hle hev hn0 hnb hF hll
              go_wp2_with fail
              refine HE.out.mono ?_
              rintro e w8 ⟨v8, rfl, hr8, b8⟩
              obtain ⟨ea, ec, rfl, hea, _⟩ := evV_form hr8
              have HEA := Lib.hid hea
              obtain ⟨lo8, hlo8⟩ : ∃ lo8, lo8 = wr.heap.size := ⟨_, rfl⟩
              rw [← hlo8] at hr8
              have HR8 := Lib.hid hr8
              have HM8 := Lib.hid (HMS.out.below b8)
              have HS0 : Hid (fl s = n0 + ((0 - A.length : Nat) : Int)) := Lib.hid (by rw [HFS.out]; simp)
              clear hea hr8 b8 HE HMS hlo8 HFS
              go_wp2_with fail
              go_loopw [49] (fun iv wx => ∃ (i : Nat) (gl gt : Nat → Int), i ≤ F.length ∧ iv = .int .i64 i ∧ Hid (gl s = n0 + ((i - A.length : Nat) : Int)) ∧ Hid (∀ z, z ≠ s → gl z = fl z) ∧ Hid (∀ z, gt z ≤ (j : Int) + 1) ∧ Hid (NmW w wx bb mb (80 * (j + 1)) O9 S9 lb tb gl gt) ∧ Hid (ERow wx lo8 (.slice ea F.length ec) F)) (fun iv _ => F.length - (intOf iv).toNat)
              case atStart => exact ⟨0, fl, ft, by omega, rfl, HS0, Lib.hid (fun z _ => rfl), HFT, HM8, HR8⟩
              case round =>
                clear HS0 HFT HM8 HR8
                obtain ⟨i, gl, gt, hi, rfl, HGS, HGO, HGT, HMX, HRX⟩ := hrel
                by_cases hli : i < F.length
                · have hli2 : decide ((i : Int) < (F.length : Int)) = true := by simp; omega
                  have ti : IntKind.i64.wrap ((i : Int) + 1) = (i : Int) + 1 := IntWalk.i64_in _ (by have := HLL.out; omega)
                  have hi0 : (0 : Int) ≤ (i : Int) := by omega
                  have hii : (i : Int) < (F.length : Int) := by omega
                  obtain ⟨y, hy⟩ : ∃ y, F[i]? = some y := ⟨F[i], by simp [hli]⟩
                  obtain ⟨gx, rfl, _, _⟩ := HEA.out (by omega)
                  have d0 := evC0 HRX.out hy rfl
                  have d1 := evC1 HRX.out hy rfl
                  have d2 := evC2 HRX.out hy rfl
                  have d3 := evC3 HRX.out hy rfl
                  have d4 := evC4 HRX.out hy rfl
                  have HWHO := Lib.hid (nums_at (i := i) (e := y) HAL.out HBC.out (by rw [← HFE.out]; exact hy))
                  clear hy
                  go_upto_region 20 with fail
                  have NA : EvB (wr.alloc (.cells #[.int .i64 y.ses, .int .i64 y.no, .string y.path, .int .i64 y.what, .int .i64 y.when] 50)) wr.heap.size y := heap_alloc_new wr _
                  have bA := (Below.refl wr.heap.size wr).alloc (Nat.le_refl _) (.cells #[.int .i64 y.ses, .int .i64 y.no, .string y.path, .int .i64 y.what, .int .i64 y.when] 50)
                  obtain ⟨w5, hw5⟩ : ∃ w5, w5 = wr.alloc (.cells #[.int .i64 y.ses, .int .i64 y.no, .string y.path, .int .i64 y.what, .int .i64 y.when] 50) := ⟨_, rfl⟩
                  obtain ⟨yb, hyb⟩ : ∃ yb, yb = wr.heap.size := ⟨_, rfl⟩
                  rw [← hw5] at NA bA ⊢
                  rw [← hyb] at NA ⊢
                  have HM5 := Lib.hid (HMX.out.below bA)
                  have HR5 := Lib.hid (HRX.out.below bA)
                  obtain ⟨q0, q1, q2, q3, q4⟩ := NA.cells
                  have HNA := Lib.hid NA
                  obtain ⟨ls, hls⟩ : ∃ ls, ls = gl s := ⟨_, rfl⟩
                  have l0 := HM5.out.rl.cell hs9
                  rw [← hls] at l0 HGS
                  have HLS := Lib.hid hls
                  clear hw5 hyb bA d0 d1 d2 d3 d4 HMX HRX NA hls
                  cases hle : decide (y.no ≤ ls) with
                  | true =>
                    have HGS2 : Hid (gl s = n0 + ((i + 1 - A.length : Nat) : Int)) := Lib.hid (by
                      have h1 := of_decide_eq_true hle
                      have h2 := HGS.out
                      rw [← HLS.out, h2]
                      rcases HWHO.out with ⟨h3, _⟩ | ⟨h3, _, h5, _⟩
                      · have e1 : i - A.length = 0 := by omega
                        have e2 : i + 1 - A.length = 0 := by omega
                        rw [e1, e2]
                      · omega)
                    go_quiet (fail)
                    have b9 : Below w5.heap.size w5 (w5.drewN nq) := below_drewN (Below.refl _ w5) nq
                    have HM9 := Lib.hid (HM5.out.below b9)
                    have HR9 := Lib.hid (HR5.out.below b9)
                    obtain ⟨w9, hw9⟩ : ∃ w9, w9 = w5.drewN nq := ⟨_, rfl⟩
                    rw [← hw9] at HM9 HR9 ⊢
                    clear hw9 b9 q0 q1 q2 q3 q4 l0 HM5 HR5 hle
                    go_wp2_with fail
                    go_roundw
                    case rel => exact ⟨i + 1, gl, gt, by omega, by go_num, HGS2, HGO, HGT, HM9, HR9⟩
                    case measure => simp [intOf]; omega
                  | false =>
                    have hnew : A.length ≤ i ∧ y.ses = (s : Int) ∧ y.no = ls + 1 ∧ y.when = (j : Int) + 1 := by
                      have h1 := of_decide_eq_false hle
                      have h2 := HGS.out
                      rcases HWHO.out with ⟨h3, h4⟩ | ⟨h3, h4, h5, h6⟩
                      · omega
                      · exact ⟨h3, h4, by omega, h6⟩
                    obtain ⟨hai, hyses, hyno, hywhen⟩ := hnew
                    have HAI := Lib.hid hai
                    have HYN := Lib.hid hyno
                    have HYW := Lib.hid hywhen
                    have HYS := Lib.hid hyses
                    have HLB : Hid (ls ≤ 1000000) := Lib.hid (by have := HGS.out; have := HNB.out; have := HLL.out; omega)
                    go_quiet (fail)
                    have b9 : Below w5.heap.size w5 (w5.drewN nq) := below_drewN (Below.refl _ w5) nq
                    have HM9 := Lib.hid (HM5.out.below b9)
                    have HR9 := Lib.hid (HR5.out.below b9)
                    have HN9a := Lib.hid (HNA.out.below b9)
                    obtain ⟨w9, hw9⟩ : ∃ w9, w9 = w5.drewN nq := ⟨_, rfl⟩
                    rw [← hw9] at HM9 HR9 HN9a ⊢
                    clear hw9 b9 q0 q1 q2 q3 q4 l0 HM5 HR5 hle HNA hai hyses hyno hywhen
                    go_upto_region 21 with fail
                    have HMd := Lib.hid (HM9.out.below (Below.refl _ w9).drew)
                    have HRd := Lib.hid (HR9.out.below (Below.refl _ w9).drew)
                    have HNd := Lib.hid (HN9a.out.below (Below.refl _ w9).drew)
                    obtain ⟨wm, hwm⟩ : ∃ wm, wm = w9.drew := ⟨_, rfl⟩
                    rw [← hwm] at HMd HRd HNd
                    have HWM := Lib.hid hwm
                    clear hwm HM9 HR9 HN9a
                    obtain ⟨tsv, htsv⟩ : ∃ tsv, tsv = gt s := ⟨_, rfl⟩
                    have HTS : Hid (decide (y.when < tsv) = false) := Lib.hid (by have := HGT.out s; have := HYW.out; simp; omega)
                    have HCC : Hid (wm.cell? ⟨yb, 0, none⟩ = some (.int .i64 y.ses) ∧ wm.cell? ⟨yb, 1, none⟩ = some (.int .i64 y.no) ∧ wm.cell? ⟨yb, 4, none⟩ = some (.int .i64 y.when) ∧ wm.cell? ⟨lb, s, none⟩ = some (.int .i64 ls) ∧ wm.cell? ⟨tb, s, none⟩ = some (.int .i64 tsv)) := Lib.hid ⟨HNd.out.cells.1, HNd.out.cells.2.1, HNd.out.cells.2.2.2.2, by rw [HLS.out]; exact HMd.out.rl.cell hs9, by rw [htsv]; exact HMd.out.rt.cell hs9⟩
                    have HS9 : Hid (s < 8) := Lib.hid hs9
                    have HYN2 : Hid (IntKind.i64.wrap (ls + 1) = y.no) := Lib.hid (by rw [HYN.out]; exact IntWalk.i64_in _ (by have := HLB.out; have := HGS.out; have := HNB.out; omega))
                    have HJJ : Hid (IntKind.i64.wrap ((j : Int) + 1) = (j : Int) + 1) := Lib.hid t2
                    clear htsv
                    refine wp_region_inv_last 29 (IFJ (FNu yb lb tb s ls tsv y.no y.when ((j : Int) + 1) (j : Int)) (fun _ _ W => W = wm)) (by kernel_rfl) (by kernel_rfl) (by kernel_rfl) (by kernel_rfl) (by kernel_rfl) ?_ ?_ ?_
                    · intro z
                      exact ⟨fun j hj => (by cases hj), HWM.out.symm⟩
                    · intro i o hi ho b z w1 hI hbi hW
                      obtain rfl := hI.2
                      match i, ho with
                      | 0, ho =>
                        obtain rfl := Option.some.inj ho
                        exact gstep_field rfl (wanted0 rfl) _ _ _ rfl _ (eval_of 11 _ (by kernel_rfl) rfl) _ (run_fE1 _ _) ⟨_, rfl, IFJ.step hI rfl rfl⟩
                      | 1, ho =>
                        obtain rfl := Option.some.inj ho
                        exact gstep_load rfl (wanted0 rfl) _ _ rfl _ (eval_at 60 0 _ (by kernel_rfl) (show 60 < 102 by decide) (hI.1 0 (hW 0 (by kernel_rfl)))) _ (run_lint _ _ _ HCC.out.2.1) ⟨_, rfl, IFJ.step hI rfl rfl⟩
                      | 2, ho =>
                        obtain rfl := Option.some.inj ho
                        exact gstep_move rfl (wanted0 rfl) _ rfl _ (eval_of 5 _ (by kernel_rfl) rfl) ⟨_, rfl, IFJ.step hI rfl rfl⟩
                      | 3, ho =>
                        obtain rfl := Option.some.inj ho
                        exact gstep_move rfl (wanted0 rfl) _ rfl _ (eval_of 9 _ (by kernel_rfl) rfl) ⟨_, rfl, IFJ.step hI rfl rfl⟩
                      | 4, ho =>
                        obtain rfl := Option.some.inj ho
                        exact gstep_index rfl (wanted0 rfl) _ _ _ rfl _ _ (eval_at 62 2 _ (by kernel_rfl) (show 62 < 102 by decide) (hI.1 2 (hW 2 (by kernel_rfl)))) (eval_at 63 3 _ (by kernel_rfl) (show 63 < 102 by decide) (hI.1 3 (hW 3 (by kernel_rfl)))) _ (run_iix _ _ _ HS9.out) ⟨_, rfl, IFJ.step hI rfl rfl⟩
                      | 5, ho =>
                        obtain rfl := Option.some.inj ho
                        exact gstep_load rfl (wanted0 rfl) _ _ rfl _ (eval_at 64 4 _ (by kernel_rfl) (show 64 < 102 by decide) (hI.1 4 (hW 4 (by kernel_rfl)))) _ (run_lint _ _ _ HCC.out.2.2.2.1) ⟨_, rfl, IFJ.step hI rfl rfl⟩
                      | 6, ho =>
                        obtain rfl := Option.some.inj ho
                        exact gstep_bin rfl (wanted0 rfl) _ _ _ _ _ rfl _ _ (eval_at 65 5 _ (by kernel_rfl) (show 65 < 102 by decide) (hI.1 5 (hW 5 (by kernel_rfl)))) rfl _ (run_addN _ _ _ HYN2.out _ _) ⟨_, rfl, IFJ.step hI rfl rfl⟩
                      | 7, ho =>
                        obtain rfl := Option.some.inj ho
                        exact gstep_bin rfl (wanted0 rfl) _ _ _ _ _ rfl _ _ (eval_at 61 1 _ (by kernel_rfl) (show 61 < 102 by decide) (hI.1 1 (hW 1 (by kernel_rfl)))) (eval_at 66 6 _ (by kernel_rfl) (show 66 < 102 by decide) (hI.1 6 (hW 6 (by kernel_rfl)))) _ (run_neqF _ _ _ rfl _ _) ⟨_, rfl, IFJ.step hI rfl rfl⟩
                      | 8, ho =>
                        obtain rfl := Option.some.inj ho
                        exact gstep_move rfl (wanted0 rfl) _ rfl _ (eval_at 67 7 _ (by kernel_rfl) (show 67 < 102 by decide) (hI.1 7 (hW 7 (by kernel_rfl)))) ⟨_, rfl, IFJ.step hI rfl rfl⟩
                      | 9, ho =>
                        obtain rfl := Option.some.inj ho
                        exact gstep_field rfl (wanted_at 68 8 false _ true rfl (by kernel_rfl) (show 68 < 102 by decide) (hI.1 8 (hW 8 (by kernel_rfl))) rfl) _ _ _ rfl _ (eval_of 11 _ (by kernel_rfl) rfl) _ (run_fE4 _ _) ⟨_, rfl, IFJ.step hI rfl rfl⟩
                      | 10, ho =>
                        obtain rfl := Option.some.inj ho
                        exact gstep_load rfl (wanted_at 68 8 false _ true rfl (by kernel_rfl) (show 68 < 102 by decide) (hI.1 8 (hW 8 (by kernel_rfl))) rfl) _ _ rfl _ (eval_at 69 9 _ (by kernel_rfl) (show 69 < 102 by decide) (hI.1 9 (hW 9 (by kernel_rfl)))) _ (run_lint _ _ _ HCC.out.2.2.1) ⟨_, rfl, IFJ.step hI rfl rfl⟩
                      | 11, ho =>
                        obtain rfl := Option.some.inj ho
                        exact gstep_move rfl (wanted_at 68 8 false _ true rfl (by kernel_rfl) (show 68 < 102 by decide) (hI.1 8 (hW 8 (by kernel_rfl))) rfl) _ rfl _ (eval_of 6 _ (by kernel_rfl) rfl) ⟨_, rfl, IFJ.step hI rfl rfl⟩
                      | 12, ho =>
                        obtain rfl := Option.some.inj ho
                        exact gstep_move rfl (wanted_at 68 8 false _ true rfl (by kernel_rfl) (show 68 < 102 by decide) (hI.1 8 (hW 8 (by kernel_rfl))) rfl) _ rfl _ (eval_of 9 _ (by kernel_rfl) rfl) ⟨_, rfl, IFJ.step hI rfl rfl⟩
                      | 13, ho =>
                        obtain rfl := Option.some.inj ho
                        exact gstep_index rfl (wanted_at 68 8 false _ true rfl (by kernel_rfl) (show 68 < 102 by decide) (hI.1 8 (hW 8 (by kernel_rfl))) rfl) _ _ _ rfl _ _ (eval_at 71 11 _ (by kernel_rfl) (show 71 < 102 by decide) (hI.1 11 (hW 11 (by kernel_rfl)))) (eval_at 72 12 _ (by kernel_rfl) (show 72 < 102 by decide) (hI.1 12 (hW 12 (by kernel_rfl)))) _ (run_iix _ _ _ HS9.out) ⟨_, rfl, IFJ.step hI rfl rfl⟩
                      | 14, ho =>
                        obtain rfl := Option.some.inj ho
                        exact gstep_load rfl (wanted_at 68 8 false _ true rfl (by kernel_rfl) (show 68 < 102 by decide) (hI.1 8 (hW 8 (by kernel_rfl))) rfl) _ _ rfl _ (eval_at 73 13 _ (by kernel_rfl) (show 73 < 102 by decide) (hI.1 13 (hW 13 (by kernel_rfl)))) _ (run_lint _ _ _ HCC.out.2.2.2.2) ⟨_, rfl, IFJ.step hI rfl rfl⟩
                      | 15, ho =>
                        obtain rfl := Option.some.inj ho
                        exact gstep_bin rfl (wanted_at 68 8 false _ true rfl (by kernel_rfl) (show 68 < 102 by decide) (hI.1 8 (hW 8 (by kernel_rfl))) rfl) _ _ _ _ _ rfl _ _ (eval_at 70 10 _ (by kernel_rfl) (show 70 < 102 by decide) (hI.1 10 (hW 10 (by kernel_rfl)))) (eval_at 74 14 _ (by kernel_rfl) (show 74 < 102 by decide) (hI.1 14 (hW 14 (by kernel_rfl)))) _ (run_lssF _ _ _ HTS.out _ _) ⟨_, rfl, IFJ.step hI rfl rfl⟩
                      | 16, ho =>
                        obtain rfl := Option.some.inj ho
                        exact gstep_pick rfl (wanted0 rfl) _ _ _ rfl _ (eval_at 68 8 _ (by kernel_rfl) (show 68 < 102 by decide) (hI.1 8 (hW 8 (by kernel_rfl)))) _ (by rw [if_neg (by decide)]; exact (eval_at 75 15 _ (by kernel_rfl) (show 75 < 102 by decide) (hI.1 15 (hW 15 (by kernel_rfl))))) ⟨_, rfl, IFJ.step hI rfl rfl⟩
                      | 17, ho =>
                        obtain rfl := Option.some.inj ho
                        exact gstep_move rfl (wanted0 rfl) _ rfl _ (eval_at 76 16 _ (by kernel_rfl) (show 76 < 102 by decide) (hI.1 16 (hW 16 (by kernel_rfl)))) ⟨_, rfl, IFJ.step hI rfl rfl⟩
                      | 18, ho =>
                        obtain rfl := Option.some.inj ho
                        exact gstep_field rfl (wanted_at 77 17 false _ true rfl (by kernel_rfl) (show 77 < 102 by decide) (hI.1 17 (hW 17 (by kernel_rfl))) rfl) _ _ _ rfl _ (eval_of 11 _ (by kernel_rfl) rfl) _ (run_fE0 _ _) ⟨_, rfl, IFJ.step hI rfl rfl⟩
                      | 19, ho =>
                        obtain rfl := Option.some.inj ho
                        exact gstep_load rfl (wanted_at 77 17 false _ true rfl (by kernel_rfl) (show 77 < 102 by decide) (hI.1 17 (hW 17 (by kernel_rfl))) rfl) _ _ rfl _ (eval_at 78 18 _ (by kernel_rfl) (show 78 < 102 by decide) (hI.1 18 (hW 18 (by kernel_rfl)))) _ (by have h9 := run_lint _ _ _ HCC.out.1; rw [HYS.out] at h9; exact h9) ⟨_, rfl, IFJ.step hI rfl rfl⟩
                      | 20, ho =>
                        obtain rfl := Option.some.inj ho
                        exact gstep_move rfl (wanted_at 77 17 false _ true rfl (by kernel_rfl) (show 77 < 102 by decide) (hI.1 17 (hW 17 (by kernel_rfl))) rfl) _ rfl _ (eval_of 9 _ (by kernel_rfl) rfl) ⟨_, rfl, IFJ.step hI rfl rfl⟩
                      | 21, ho =>
                        obtain rfl := Option.some.inj ho
                        exact gstep_bin rfl (wanted_at 77 17 false _ true rfl (by kernel_rfl) (show 77 < 102 by decide) (hI.1 17 (hW 17 (by kernel_rfl))) rfl) _ _ _ _ _ rfl _ _ (eval_at 79 19 _ (by kernel_rfl) (show 79 < 102 by decide) (hI.1 19 (hW 19 (by kernel_rfl)))) (eval_at 80 20 _ (by kernel_rfl) (show 80 < 102 by decide) (hI.1 20 (hW 20 (by kernel_rfl)))) _ (run_neqF _ _ _ rfl _ _) ⟨_, rfl, IFJ.step hI rfl rfl⟩
                      | 22, ho =>
                        obtain rfl := Option.some.inj ho
                        exact gstep_pick rfl (wanted0 rfl) _ _ _ rfl _ (eval_at 77 17 _ (by kernel_rfl) (show 77 < 102 by decide) (hI.1 17 (hW 17 (by kernel_rfl)))) _ (by rw [if_neg (by decide)]; exact (eval_at 81 21 _ (by kernel_rfl) (show 81 < 102 by decide) (hI.1 21 (hW 21 (by kernel_rfl))))) ⟨_, rfl, IFJ.step hI rfl rfl⟩
                      | 23, ho =>
                        obtain rfl := Option.some.inj ho
                        exact gstep_move rfl (wanted0 rfl) _ rfl _ (eval_at 82 22 _ (by kernel_rfl) (show 82 < 102 by decide) (hI.1 22 (hW 22 (by kernel_rfl)))) ⟨_, rfl, IFJ.step hI rfl rfl⟩
                      | 24, ho =>
                        obtain rfl := Option.some.inj ho
                        exact gstep_field rfl (wanted_at 83 23 false _ true rfl (by kernel_rfl) (show 83 < 102 by decide) (hI.1 23 (hW 23 (by kernel_rfl))) rfl) _ _ _ rfl _ (eval_of 11 _ (by kernel_rfl) rfl) _ (run_fE4 _ _) ⟨_, rfl, IFJ.step hI rfl rfl⟩
                      | 25, ho =>
                        obtain rfl := Option.some.inj ho
                        exact gstep_load rfl (wanted_at 83 23 false _ true rfl (by kernel_rfl) (show 83 < 102 by decide) (hI.1 23 (hW 23 (by kernel_rfl))) rfl) _ _ rfl _ (eval_at 84 24 _ (by kernel_rfl) (show 84 < 102 by decide) (hI.1 24 (hW 24 (by kernel_rfl)))) _ (run_lint _ _ _ HCC.out.2.2.1) ⟨_, rfl, IFJ.step hI rfl rfl⟩
                      | 26, ho =>
                        obtain rfl := Option.some.inj ho
                        exact gstep_move rfl (wanted_at 83 23 false _ true rfl (by kernel_rfl) (show 83 < 102 by decide) (hI.1 23 (hW 23 (by kernel_rfl))) rfl) _ rfl _ (eval_of 7 _ (by kernel_rfl) rfl) ⟨_, rfl, IFJ.step hI rfl rfl⟩
                      | 27, ho =>
                        obtain rfl := Option.some.inj ho
                        exact gstep_bin rfl (wanted_at 83 23 false _ true rfl (by kernel_rfl) (show 83 < 102 by decide) (hI.1 23 (hW 23 (by kernel_rfl))) rfl) _ _ _ _ _ rfl _ _ (eval_at 86 26 _ (by kernel_rfl) (show 86 < 102 by decide) (hI.1 26 (hW 26 (by kernel_rfl)))) rfl _ (run_addN _ _ _ HJJ.out _ _) ⟨_, rfl, IFJ.step hI rfl rfl⟩
                      | 28, ho =>
                        obtain rfl := Option.some.inj ho
                        exact gstep_bin rfl (wanted_at 83 23 false _ true rfl (by kernel_rfl) (show 83 < 102 by decide) (hI.1 23 (hW 23 (by kernel_rfl))) rfl) _ _ _ _ _ rfl _ _ (eval_at 85 25 _ (by kernel_rfl) (show 85 < 102 by decide) (hI.1 25 (hW 25 (by kernel_rfl)))) (eval_at 87 27 _ (by kernel_rfl) (show 87 < 102 by decide) (hI.1 27 (hW 27 (by kernel_rfl)))) _ (run_neqF _ _ _ HYW.out _ _) ⟨_, rfl, IFJ.step hI rfl rfl⟩
                      | n + 29, ho => omega
                    · intro o ho b z w1 hI hA
                      have hw1 := hI.2
                      obtain rfl := Option.some.inj ho
                      have hF23 : z 23 = .bool false := hI.1 23 (hA 23 (by decide))
                      have hF28 : z 28 = .bool false := hI.1 28 (hA 28 (by decide))
                      rw [hw1]
                      refine gstep_pick rfl (wanted0 rfl) _ _ _ rfl _ (eval_at 83 23 _ (by kernel_rfl) (show 83 < 102 by decide) hF23) (.bool false) (by rw [if_neg (by decide)]; exact (eval_at 88 28 _ (by kernel_rfl) (show 88 < 102 by decide) hF28)) ?_
                      simp only [putAll, Act.put, List.setIfInBounds_toArray, List.set_cons_succ, List.set_cons_zero]
                      clear hI hA hF23 hF28 hw1
                      obtain ⟨q0, q1, q2, q3, q4⟩ := HNd.out.cells
                      have l0 := HMd.out.rl.cell hs9
                      have f0 := HMd.out.rl.frz s
                      clear HCC HTS HYN2 HJJ
                      go_upto_region 24 with fail
                      have HM10 := Lib.hid (HMd.out.setL (s := s) (v := y.no) hs9)
                      have HR10 := Lib.hid (erow_set (b := lb) (i := s) (u := .int .i64 y.no) HRd.out HMd.out.rl)
                      have HN10 : Hid (EvB (wm.setCell ⟨lb, s, none⟩ (.int .i64 y.no)) yb y) := Lib.hid ((Below.heap_setCell wm ⟨lb, s, none⟩ _ yb (cells_ne HNd.out HMd.out.rl (by decide))).trans HNd.out)
                      obtain ⟨w10, hw10⟩ : ∃ w10, w10 = wm.setCell ⟨lb, s, none⟩ (.int .i64 y.no) := ⟨_, rfl⟩
                      rw [← hw10] at HM10 HR10 HN10 ⊢
                      clear hw10 q0 q1 q2 q3 q4 l0 f0 HMd HRd HNd
                      obtain ⟨q0, q1, q2, q3, q4⟩ := HN10.out.cells
                      have m0 := HM10.out.rt.cell hs9
                      have f1 := HM10.out.rt.frz s
                      have HM11 := Lib.hid (HM10.out.setT (s := s) (v := y.when) hs9)
                      have HR11 := Lib.hid (erow_set (b := tb) (i := s) (u := .int .i64 y.when) HR10.out HM10.out.rt)
                      have HGS2 : Hid (upd8 gl s y.no s = n0 + ((i + 1 - A.length : Nat) : Int)) := Lib.hid (by
                        have h1 := HGS.out
                        have h2 := HAI.out
                        have h3 := HYN.out
                        simp only [upd8, if_true]
                        omega)
                      have HGO2 : Hid (∀ z, z ≠ s → upd8 gl s y.no z = fl z) := Lib.hid (fun z hz => by simp only [upd8, if_neg hz]; exact HGO.out z hz)
                      have HGT2 : Hid (∀ z, upd8 gt s y.when z ≤ (j : Int) + 1) := Lib.hid (fun z => by
                        have h1 := HYW.out
                        have h2 := HGT.out z
                        unfold upd8
                        split <;> omega)
                      clear HM10 HR10 HN10
                      go_wp2_with fail
                      go_roundw
                      case rel => exact ⟨i + 1, _, _, by omega, by go_num, HGS2, HGO2, HGT2, HM11, HR11⟩
                      case measure => simp [intOf]; omega
                · have hli2 : decide ((i : Int) < (F.length : Int)) = false := by simp; omega
                  have HF1 : Hid (∀ z : Nat, 1 ≤ z → z < s + 1 → gl z = (S9.n (z : Int)).getD 0) := Lib.hid (fun z h1 h2 => by
                    by_cases hz : z = s
                    · subst hz
                      have h3 := HGS.out
                      have h4 := HN9.out
                      have h5 : F.length = A.length + B.length := by rw [HFE.out, List.length_append]
                      rw [h3, h4]
                      omega
                    · rw [HGO.out z hz]; exact HFL1.out z h1 (by omega))
                  have HF2 : Hid (∀ z : Nat, s + 1 ≤ z → z < 8 → gl z = (S.n (z : Int)).getD 0) := Lib.hid (fun z h1 h2 => by
                    rw [HGO.out z (by omega)]; exact HFL2.out z (by omega) h2)
                  go_wp2_with fail
                  go_roundw
                  case rel => exact ⟨s + 1, gl, gt, by omega, by omega, by go_num, HF1, HF2, HGT, HMX⟩
                  case measure => simp [intOf]; omega
            · have hs2 : decide ((s : Int) < 8) = false := by simp; omega
              have HF9 : Hid (∀ z : Nat, 1 ≤ z → z < 8 → fl z = (S9.n (z : Int)).getD 0) := Lib.hid (fun z h1 h2 => HFL1.out z h1 (by omega))
              have HT9 : Hid (∀ z, ft z ≤ ((j + 1 : Nat) : Int)) := Lib.hid (fun z => by have := HFT.out z; push_cast; exact this)
              go_wp2_with fail
              go_roundw
              case rel => exact ⟨j + 1, O9, S9, fl, ft, by omega, by go_num, HMS, HS2, HI9, HF9, HT9⟩
              case measure => simp [intOf]; omega
      · have hlt2 : decide ((j : Int) < (qs.length : Int)) = false := by simp; omega
        go_wp2_with fail
        go_ret
        exact ⟨rfl, HM.out.bel⟩
end Go.Proofs.YtbbdokfankgllaaDoor
