/- readEvents: the events from the reader. No conditions beyond those in each statement. -/
import Derived.Test.YtbbdokfankgllaaGreatDoorWRdL
namespace Go.Proofs.YtbbdokfankgllaaGreatDoor
open Go.RowKit Go.Maps
set_option linter.unusedVariables false
set_option linter.unusedSimpArgs false
set_option maxRecDepth 100000

theorem clr_num (W : World) (v m : Value) : (callFunc 59 #[v, m]).run Tryz.prog W = .ok (.enter 59 #[v, m]) W := by kernel_rfl
theorem clr_text (W : World) (v m : Value) : (callFunc 60 #[v, m]).run Tryz.prog W = .ok (.enter 60 #[v, m]) W := by kernel_rfl
def FRe (bb rb : Nat) (ve : Value) (e : Ev) : Nat → Value → Prop
  | 0, v => v = .pointer (some ⟨bb, 0, none⟩)
  | 1, v => v = .pointer (some ⟨bb, 0, none⟩)
  | 2, v => v = .pointer (some ⟨bb, 0, none⟩)
  | 3, v => v = .pointer (some ⟨bb, 1, none⟩)
  | 4, v => v = ve
  | 5, v => v = .pointer (some ⟨rb, 0, none⟩)
  | 6, v => v = .int .i64 e.ses
  | 7, v => v = .pointer (some ⟨rb, 0, none⟩)
  | 8, v => v = .int .i64 e.no
  | 9, v => v = .pointer (some ⟨rb, 0, none⟩)
  | 10, v => v = .string e.path
  | 11, v => v = .pointer (some ⟨rb, 0, none⟩)
  | 12, v => v = .int .i64 e.what
  | 13, v => v = .pointer (some ⟨rb, 0, none⟩)
  | 14, v => v = .int .i64 e.when
  | 15, v => v = evV e
  | 18, v => v = .pointer (some ⟨bb, 0, none⟩)
  | 19, v => v = .pointer (some ⟨bb, 1, none⟩)
  | _, _ => True
/-- What has run before what. -/
structure ChE (b : Nat → Bool) : Prop where
  c8 : b 8 = true → b 6 = true
  c10 : b 10 = true → b 8 = true
  c12 : b 12 = true → b 10 = true
  c14 : b 14 = true → b 12 = true
  c17 : b 17 = true → b 14 = true ∧ b 16 = true ∧ b 4 = true
theorem ChE.set {b : Nat → Bool} {i : Nat} (h : ChE b) (h8 : i = 8 → b 6 = true) (h10 : i = 10 → b 8 = true) (h12 : i = 12 → b 10 = true) (h14 : i = 14 → b 12 = true) (h17 : i = 17 → b 14 = true ∧ b 16 = true ∧ b 4 = true) : ChE (setB b i) := by
  refine ⟨fun q => ?_, fun q => ?_, fun q => ?_, fun q => ?_, fun q => ?_⟩
  · by_cases e : i = 8
    · exact setB_up (h8 e)
    · rw [setB_ne (fun x => e x.symm)] at q; exact setB_up (h.c8 q)
  · by_cases e : i = 10
    · exact setB_up (h10 e)
    · rw [setB_ne (fun x => e x.symm)] at q; exact setB_up (h.c10 q)
  · by_cases e : i = 12
    · exact setB_up (h12 e)
    · rw [setB_ne (fun x => e x.symm)] at q; exact setB_up (h.c12 q)
  · by_cases e : i = 14
    · exact setB_up (h14 e)
    · rw [setB_ne (fun x => e x.symm)] at q; exact setB_up (h.c14 q)
  · by_cases e : i = 17
    · exact ⟨setB_up (h17 e).1, setB_up (h17 e).2.1, setB_up (h17 e).2.2⟩
    · rw [setB_ne (fun x => e x.symm)] at q; exact ⟨setB_up (h.c17 q).1, setB_up (h.c17 q).2.1, setB_up (h.c17 q).2.2⟩
theorem not_of {p q : Bool} (h : p = true → q = true) (hq : q = false) : p = false := by cases p; rfl; rw [h rfl] at hq; cases hq
section
variable {b : Nat → Bool}
theorem ChE.n14 (h : ChE b) (hb : b 14 = false) : b 17 = false := not_of (fun q => (h.c17 q).1) hb
theorem ChE.n16 (h : ChE b) (hb : b 16 = false) : b 17 = false := not_of (fun q => (h.c17 q).2.1) hb
theorem ChE.n4 (h : ChE b) (hb : b 4 = false) : b 17 = false := not_of (fun q => (h.c17 q).2.2) hb
theorem ChE.n12 (h : ChE b) (hb : b 12 = false) : b 14 = false := not_of h.c14 hb
theorem ChE.n10 (h : ChE b) (hb : b 10 = false) : b 12 = false := not_of h.c12 hb
theorem ChE.n8 (h : ChE b) (hb : b 8 = false) : b 10 = false := not_of h.c10 hb
theorem ChE.n6 (h : ChE b) (hb : b 6 = false) : b 8 = false := not_of h.c8 hb
end
def stE (s0 s1 s2 s3 s4 s5 : RS) (b : Nat → Bool) : RS := if b 14 then s5 else if b 12 then s4 else if b 10 then s3 else if b 8 then s2 else if b 6 then s1 else s0
/-- What has run of the region that adds an event. -/
structure JRe (base bb rb : Nat) (wd : World) (vw ve vm : Value) (Ws : List Wa) (Es : List Ev) (k c : Nat) (N : Int → Option Int) (e : Ev) (s0 s1 s2 s3 s4 s5 : RS) (b : Nat → Bool) (x : Nat → Value) (w : World) : Prop where
  ch : ChE b
  pre : b 17 = false → BkW w base bb vw ve vm Ws Es k c N
  rd : Rs w rb (stE s0 s1 s2 s3 s4 s5 b)
  low : LowR base rb wd w
  r16 : b 16 = true → b 17 = false → ∃ g, x 16 = .slice (some ⟨g, 0, none⟩) 1 1 ∧ base ≤ g ∧ w.heap[g]? = some (.cells #[.int .i64 e.ses, .int .i64 e.no, .string e.path, .int .i64 e.what, .int .i64 e.when] 54 (0, 0))
  post : b 17 = true → ∃ w', BkW w' base bb vw ve vm Ws Es k c N ∧ w'.grownBy w ve.ownBlock ∧ ERow w base (x 17) (Es ++ [e])
section
variable {base bb rb : Nat} {wd w w' : World} {vw ve vm : Value} {Ws : List Wa} {Es : List Ev} {k c : Nat} {N : Int → Option Int} {e : Ev} {s0 s1 s2 s3 s4 s5 : RS} {b : Nat → Bool} {x : Nat → Value}
theorem stE_ne {i : Nat} (h : 14 ≠ i ∧ 12 ≠ i ∧ 10 ≠ i ∧ 8 ≠ i ∧ 6 ≠ i) : stE s0 s1 s2 s3 s4 s5 (setB b i) = stE s0 s1 s2 s3 s4 s5 b := by
  obtain ⟨h1, h2, h3, h4, h5⟩ := h
  unfold stE
  rw [setB_ne h1, setB_ne h2, setB_ne h3, setB_ne h4, setB_ne h5]
theorem JRe.pure {i : Nat} {v : Value} (h : JRe base bb rb wd vw ve vm Ws Es k c N e s0 s1 s2 s3 s4 s5 b x w) (hi : (14 ≠ i ∧ 12 ≠ i ∧ 10 ≠ i ∧ 8 ≠ i ∧ 6 ≠ i) ∧ 16 ≠ i ∧ 17 ≠ i) : JRe base bb rb wd vw ve vm Ws Es k c N e s0 s1 s2 s3 s4 s5 (setB b i) (setX x i v) w := by
  obtain ⟨h1, h16, h17⟩ := hi
  refine ⟨h.ch.set (fun e => absurd e.symm h1.2.2.2.1) (fun e => absurd e.symm h1.2.2.1) (fun e => absurd e.symm h1.2.1) (fun e => absurd e.symm h1.1) (fun e => absurd e.symm h17), ?_, by rw [stE_ne h1]; exact h.rd, h.low, ?_, ?_⟩
  · rw [setB_ne h17]; exact h.pre
  · rw [setB_ne h16, setB_ne h17, setX_ne h16]; exact h.r16
  · rw [setB_ne h17, setX_ne h17]; exact h.post
theorem JRe.call {i : Nat} {v : Value} {s' : RS} (h : JRe base bb rb wd vw ve vm Ws Es k c N e s0 s1 s2 s3 s4 s5 b x w) (h17 : b 17 = false) (hi : 16 ≠ i ∧ 17 ≠ i) (hch : ChE (setB b i)) (hd : rb < base ∧ base ≤ wd.heap.size) (hr : Rs w' rb s') (hg : w.grownBy w' (some rb)) (hst : stE s0 s1 s2 s3 s4 s5 (setB b i) = s') : JRe base bb rb wd vw ve vm Ws Es k c N e s0 s1 s2 s3 s4 s5 (setB b i) (setX x i v) w' := by
  refine ⟨hch, fun _ => (h.pre h17).reader hg hd.1, by rw [hst]; exact hr, h.low.grown hg hd.2, ?_, ?_⟩
  · rw [setB_ne hi.1, setB_ne hi.2, setX_ne hi.1]
    intro q1 q2
    obtain ⟨g, g1, g2, g3⟩ := h.r16 q1 q2
    have hlt := (Array.getElem?_eq_some_iff.1 g3).1
    exact ⟨g, g1, g2, (hg.block g hlt (fun e => by have := Option.some.inj e; omega)).trans g3⟩
  · rw [setB_ne hi.2, h17]; intro q; cases q
theorem JRe.s16 (h : JRe base bb rb wd vw ve vm Ws Es k c N e s0 s1 s2 s3 s4 s5 b x w) (h16 : b 16 = false) (hd : rb < base ∧ base ≤ wd.heap.size) : JRe base bb rb wd vw ve vm Ws Es k c N e s0 s1 s2 s3 s4 s5 (setB b 16) (setX x 16 (.slice (some ⟨w.heap.size, 0, none⟩) 1 1)) (w.alloc (.cells #[.int .i64 e.ses, .int .i64 e.no, .string e.path, .int .i64 e.what, .int .i64 e.when] 54)) := by
  have h17 := h.ch.n16 h16
  have hk := h.pre h17
  have bA := (Below.refl w.heap.size w).alloc (Nat.le_refl _) (.cells #[.int .i64 e.ses, .int .i64 e.no, .string e.path, .int .i64 e.what, .int .i64 e.when] 54)
  refine ⟨h.ch.set (fun e => (by cases e)) (fun e => (by cases e)) (fun e => (by cases e)) (fun e => (by cases e)) (fun e => (by cases e)), fun _ => hk.below bA, by rw [stE_ne (by decide)]; exact h.rd.below bA, h.low.low (bA.mono hk.lo.2), ?_, ?_⟩
  · intro _ _; exact ⟨w.heap.size, setX_same _ _ _, hk.lo.2, heap_alloc_new w _⟩
  · rw [setB_ne (by decide), h17]; intro q; cases q
theorem JRe.s17 {v : Value} (h : JRe base bb rb wd vw ve vm Ws Es k c N e s0 s1 s2 s3 s4 s5 b x w) (h4 : b 4 = true) (h14 : b 14 = true) (h16 : b 16 = true) (h17 : b 17 = false) (hd : rb < base ∧ base ≤ wd.heap.size) (hr : ERow w' base v (Es ++ [e])) (hg : w.grownBy w' ve.ownBlock) : JRe base bb rb wd vw ve vm Ws Es k c N e s0 s1 s2 s3 s4 s5 (setB b 17) (setX x 17 v) w' := by
  have hk := h.pre h17
  have ho : ∀ g, ve.ownBlock = some g → base ≤ g := fun g hg => by
    obtain ⟨_, _, h1⟩ := row_own hk.es hg
    exact h1
  refine ⟨h.ch.set (fun e => (by cases e)) (fun e => (by cases e)) (fun e => (by cases e)) (fun e => (by cases e)) (fun _ => ⟨h14, h16, h4⟩), ?_, ?_, h.low.low ((Below.refl base w).grown hg hk.lo.2 ho), ?_, ?_⟩
  · rw [setB_same]; intro q; cases q
  · rw [stE_ne (by decide)]; exact Rs.kept h.rd hg (fun q => by have := ho rb q.symm; omega)
  · rw [setB_same]; intro _ q; cases q
  · intro _; exact ⟨w, hk, hg, by rw [setX_same]; exact hr⟩
end
set_option maxHeartbeats 16000000 in
theorem revents_any (base bb rb : Nat) (vw vm : Value) (Ws : List Wa) (k c : Nat) (N : Int → Option Int) (st : RS) (w : World) (h : BkW w base bb vw (.slice none 0 0) vm Ws [] k c N) (hr : Rs w rb st) (hrb : rb < base) :
    Calls Tryz.prog 33 #[.pointer (some ⟨bb, 0, none⟩), .pointer (some ⟨rb, 0, none⟩)] w fun e w' => e = .returned (.tuple #[]) ∧ ∃ ve, BkW w' base bb vw ve vm Ws (readEs st).L k c N ∧ Rs w' rb (readEs st).st ∧ LowR base rb w w' ∧ (readEs st).L.length ≤ 1024 := by
  have hlo := h.lo.2
  obtain ⟨n, s0, hn⟩ : ∃ a b, numF 6 1024 st = (a, b) := ⟨_, _, rfl⟩
  have hnb := numF_most st 1024 (by decide)
  rw [hn] at hnb
  simp only at hnb
  obtain ⟨m, rfl⟩ := Int.eq_ofNat_of_zero_le hnb.1
  have hm : m ≤ 1024 := by omega
  have HEND : Hid (readEs st = rdEs m [] s0) := Lib.hid (by unfold readEs; rw [hn]; rfl)
  have HNM := Lib.hid (num_rs rb 1024 st w hr)
  rw [show max (1024 : Int) 0 = 1024 by decide, hn] at HNM
  have HH := Lib.hid h
  clear hn hnb h hr
  go_enter Tryz.func33, Tryz.ntmps33
  go_wp2_with fail
  refine HNM.out.mono ?_
  rintro e w2 ⟨rfl, R2, g2⟩
  have H2 := Lib.hid (HH.out.reader g2 hrb)
  have HR2 := Lib.hid R2
  have HG2 := Lib.hid ((LowR.refl base rb w).grown g2 hlo)
  clear R2 g2 HH HNM
  go_wp2_with fail
  go_loopw [6] (fun iv wr => ∃ (j : Nat) (ve : Value) (L : List Ev) (S : RS), j ≤ m ∧ iv = .int .i64 j ∧ L.length = j ∧ Hid (BkW wr base bb vw ve vm Ws L k c N) ∧ Hid (Rs wr rb S) ∧ Hid (readEs st = rdEs (m - j) L S) ∧ Hid (LowR base rb w wr)) (fun iv _ => m - (intOf iv).toNat)
  case atStart => exact ⟨0, _, [], s0, by omega, rfl, rfl, H2, HR2, HEND, HG2⟩
  case round =>
    obtain ⟨j, ve', L, S, hj, rfl, hLj, HB, HR, HEQ, HG⟩ := hrel
    clear H2 HR2 HG2 HEND
    by_cases hlt : j < m
    · have hlt2 : decide ((j : Int) < (m : Int)) = true := by simp; omega
      have t2 : IntKind.i64.wrap ((j : Int) + 1) = (j : Int) + 1 := IntWalk.i64_in _ (by omega)
      obtain ⟨q, hq⟩ : ∃ q, m - j = q + 1 := ⟨m - j - 1, by omega⟩
      have HQ2 : Hid (m - (j + 1) = q) := Lib.hid (by omega)
      rw [hq, rdEs] at HEQ
      obtain ⟨a1, s1, h1⟩ : ∃ a b, numS S = (a, b) := ⟨_, _, rfl⟩
      obtain ⟨a2, s2, h2⟩ : ∃ a b, numS s1 = (a, b) := ⟨_, _, rfl⟩
      obtain ⟨a3, s3, h3⟩ : ∃ a b, textF 60 s2 = (a, b) := ⟨_, _, rfl⟩
      obtain ⟨a4, s4, h4⟩ : ∃ a b, numF 6 4 s3 = (a, b) := ⟨_, _, rfl⟩
      obtain ⟨a5, s5, h5⟩ : ∃ a b, numS s4 = (a, b) := ⟨_, _, rfl⟩
      have hrd : rdEv S = (⟨a1, a2, bs a3, a4, a5⟩, s5) := by unfold rdEv; simp only [h1, h2, h3, h4, h5]
      rw [hrd] at HEQ
      simp only at HEQ
      obtain ⟨x, hx⟩ : ∃ x : Ev, x = ⟨a1, a2, bs a3, a4, a5⟩ := ⟨_, rfl⟩
      have HN1 : Hid (∀ W : World, Rs W rb S → Calls Tryz.prog 59 #[.pointer (some ⟨rb, 0, none⟩), .int .i64 281474976710655] W fun e w' => e = .returned (.int .i64 x.ses) ∧ Rs w' rb s1 ∧ W.grownBy w' (some rb)) := Lib.hid (fun W hW => by have := numS_rs rb S W hW; rw [h1] at this; rw [hx]; exact this)
      have HN2 : Hid (∀ W : World, Rs W rb s1 → Calls Tryz.prog 59 #[.pointer (some ⟨rb, 0, none⟩), .int .i64 281474976710655] W fun e w' => e = .returned (.int .i64 x.no) ∧ Rs w' rb s2 ∧ W.grownBy w' (some rb)) := Lib.hid (fun W hW => by have := numS_rs rb s1 W hW; rw [h2] at this; rw [hx]; exact this)
      have HN3 : Hid (∀ W : World, Rs W rb s2 → Calls Tryz.prog 60 #[.pointer (some ⟨rb, 0, none⟩), .int .i64 60] W fun e w' => e = .returned (.string x.path) ∧ Rs w' rb s3 ∧ W.grownBy w' (some rb)) := Lib.hid (fun W hW => by have := text_rs rb 60 s2 W hW; rw [h3] at this; rw [hx]; exact this)
      have HN4 : Hid (∀ W : World, Rs W rb s3 → Calls Tryz.prog 59 #[.pointer (some ⟨rb, 0, none⟩), .int .i64 4] W fun e w' => e = .returned (.int .i64 x.what) ∧ Rs w' rb s4 ∧ W.grownBy w' (some rb)) := Lib.hid (fun W hW => by have := num_rs rb 4 s3 W hW; rw [show max (4 : Int) 0 = 4 by decide, h4] at this; rw [hx]; exact this)
      have HN5 : Hid (∀ W : World, Rs W rb s4 → Calls Tryz.prog 59 #[.pointer (some ⟨rb, 0, none⟩), .int .i64 281474976710655] W fun e w' => e = .returned (.int .i64 x.when) ∧ Rs w' rb s5 ∧ W.grownBy w' (some rb)) := Lib.hid (fun W hW => by have := numS_rs rb s4 W hW; rw [h5] at this; rw [hx]; exact this)
      rw [← hx] at HEQ
      have HVE : Hid (∃ a n c, ve' = .slice a n c) := Lib.hid (by obtain ⟨a, cc, h1, _⟩ := evV_form HB.out.es; exact ⟨a, _, cc, h1⟩)
      have HLL : Hid (L.length ≤ 1024) := Lib.hid (by omega)
      have HD : Hid (rb < base ∧ base ≤ wr.drew.heap.size) := Lib.hid ⟨hrb, HB.out.lo.2⟩
      obtain ⟨i1, hi1, hz1, hz2, hz3⟩ := info_parts info_ev
      clear h1 h2 h3 h4 h5 hrd hx
      go_upto_region 2 with fail
      refine wp_region_inv_last 20 (IFJ (FRe bb rb ve' x) (JRe base bb rb wr.drew vw ve' vm Ws L k c N x S s1 s2 s3 s4 s5)) (by kernel_rfl) (by kernel_rfl) (by kernel_rfl) (by kernel_rfl) (by kernel_rfl) ?_ ?_ ?_
      · intro z
        exact ⟨fun k hk => (by cases hk), ⟨⟨fun hk => (by cases hk), fun hk => (by cases hk), fun hk => (by cases hk), fun hk => (by cases hk), fun hk => (by cases hk)⟩, fun _ => HB.out.below ((Below.refl _ wr).drew), HR.out.below ((Below.refl _ wr).drew), LowR.refl _ _ _, fun hk => (by cases hk), fun hk => (by cases hk)⟩⟩
      · intro i o hi ho b zz w1 hI hbi hW
        match i, ho with
        | 0, ho =>
          obtain rfl := Option.some.inj ho
          exact gstep_move rfl (wanted0 rfl) _ rfl _ (eval_of 0 _ (by kernel_rfl) rfl) ⟨_, rfl, IFJ.step hI rfl (hI.2.pure (by decide))⟩
        | 1, ho =>
          obtain rfl := Option.some.inj ho
          exact gstep_move rfl (wanted0 rfl) _ rfl _ (eval_of 0 _ (by kernel_rfl) rfl) ⟨_, rfl, IFJ.step hI rfl (hI.2.pure (by decide))⟩
        | 2, ho =>
          obtain rfl := Option.some.inj ho
          exact gstep_nil rfl (wanted0 rfl) _ rfl _ (eval_at 9 1 _ (by kernel_rfl) (show 9 < 29 by decide) (hI.1 1 (hW 1 (by kernel_rfl)))) ⟨_, rfl, IFJ.step hI rfl (hI.2.pure (by decide))⟩
        | 3, ho =>
          obtain rfl := Option.some.inj ho
          exact gstep_field rfl (wanted0 rfl) _ _ _ rfl _ (eval_at 10 2 _ (by kernel_rfl) (show 10 < 29 by decide) (hI.1 2 (hW 2 (by kernel_rfl)))) _ (run_bkF1 _ _) ⟨_, rfl, IFJ.step hI rfl (hI.2.pure (by decide))⟩
        | 4, ho =>
          obtain rfl := Option.some.inj ho
          have h17 := hI.2.ch.n4 hbi
          exact gstep_load rfl (wanted0 rfl) _ _ rfl _ (eval_at 11 3 _ (by kernel_rfl) (show 11 < 29 by decide) (hI.1 3 (hW 3 (by kernel_rfl)))) _ (run_les _ _ _ HVE.out (hI.2.pre h17).c1) ⟨_, rfl, IFJ.step hI rfl (hI.2.pure (by decide))⟩
        | 5, ho =>
          obtain rfl := Option.some.inj ho
          exact gstep_move rfl (wanted0 rfl) _ rfl _ (eval_of 1 _ (by kernel_rfl) rfl) ⟨_, rfl, IFJ.step hI rfl (hI.2.pure (by decide))⟩
        | 6, ho =>
          obtain rfl := Option.some.inj ho
          have h6 := hbi
          have h8 := hI.2.ch.n6 h6
          have h10 := hI.2.ch.n8 h8
          have h12 := hI.2.ch.n10 h10
          have h14 := hI.2.ch.n12 h12
          have h17 := hI.2.ch.n14 h14
          refine gstep_call2 rfl (wanted0 rfl) _ _ _ _ rfl _ _ (eval_at 13 5 _ (by kernel_rfl) (show 13 < 29 by decide) (hI.1 5 (hW 5 (by kernel_rfl)))) rfl (clr_num w1 _ _) ?_
          refine (HN1.out w1 (by have := hI.2.rd; unfold stE at this; simp only [h6, h8, h10, h12, h14, Bool.false_eq_true, if_false] at this; exact this)).mono ?_
          rintro e w2 ⟨rfl, hr, hg⟩
          exact ⟨_, rfl, _, rfl, IFJ.step hI rfl (hI.2.call h17 (by decide) (hI.2.ch.set (fun e => (by cases e)) (fun e => (by cases e)) (fun e => (by cases e)) (fun e => (by cases e)) (fun e => (by cases e))) HD.out hr hg (by unfold stE; simp [setB, h6, h8, h10, h12, h14, Bool.false_eq_true, if_false]))⟩
        | 7, ho =>
          obtain rfl := Option.some.inj ho
          exact gstep_move rfl (wanted0 rfl) _ rfl _ (eval_of 1 _ (by kernel_rfl) rfl) ⟨_, rfl, IFJ.step hI rfl (hI.2.pure (by decide))⟩
        | 8, ho =>
          obtain rfl := Option.some.inj ho
          have h6 : b 6 = true := hW 6 (by kernel_rfl)
          have h8 := hbi
          have h10 := hI.2.ch.n8 h8
          have h12 := hI.2.ch.n10 h10
          have h14 := hI.2.ch.n12 h12
          have h17 := hI.2.ch.n14 h14
          refine gstep_call2 rfl (wanted0 rfl) _ _ _ _ rfl _ _ (eval_at 15 7 _ (by kernel_rfl) (show 15 < 29 by decide) (hI.1 7 (hW 7 (by kernel_rfl)))) rfl (clr_num w1 _ _) ?_
          refine (HN2.out w1 (by have := hI.2.rd; unfold stE at this; simp only [h6, h8, h10, h12, h14, Bool.false_eq_true, if_false, if_true] at this; exact this)).mono ?_
          rintro e w2 ⟨rfl, hr, hg⟩
          exact ⟨_, rfl, _, rfl, IFJ.step hI rfl (hI.2.call h17 (by decide) (hI.2.ch.set (fun _ => h6) (fun e => (by cases e)) (fun e => (by cases e)) (fun e => (by cases e)) (fun e => (by cases e))) HD.out hr hg (by unfold stE; simp [setB, h6, h8, h10, h12, h14, Bool.false_eq_true, if_false, if_true]))⟩
        | 9, ho =>
          obtain rfl := Option.some.inj ho
          exact gstep_move rfl (wanted0 rfl) _ rfl _ (eval_of 1 _ (by kernel_rfl) rfl) ⟨_, rfl, IFJ.step hI rfl (hI.2.pure (by decide))⟩
        | 10, ho =>
          obtain rfl := Option.some.inj ho
          have h8 : b 8 = true := hW 8 (by kernel_rfl)
          have h10 := hbi
          have h12 := hI.2.ch.n10 h10
          have h14 := hI.2.ch.n12 h12
          have h17 := hI.2.ch.n14 h14
          refine gstep_call2 rfl (wanted0 rfl) _ _ _ _ rfl _ _ (eval_at 17 9 _ (by kernel_rfl) (show 17 < 29 by decide) (hI.1 9 (hW 9 (by kernel_rfl)))) rfl (clr_text w1 _ _) ?_
          refine (HN3.out w1 (by have := hI.2.rd; unfold stE at this; simp only [h8, h10, h12, h14, Bool.false_eq_true, if_false, if_true] at this; exact this)).mono ?_
          rintro e w2 ⟨rfl, hr, hg⟩
          exact ⟨_, rfl, _, rfl, IFJ.step hI rfl (hI.2.call h17 (by decide) (hI.2.ch.set (fun e => (by cases e)) (fun _ => h8) (fun e => (by cases e)) (fun e => (by cases e)) (fun e => (by cases e))) HD.out hr hg (by unfold stE; simp [setB, h8, h10, h12, h14, Bool.false_eq_true, if_false, if_true]))⟩
        | 11, ho =>
          obtain rfl := Option.some.inj ho
          exact gstep_move rfl (wanted0 rfl) _ rfl _ (eval_of 1 _ (by kernel_rfl) rfl) ⟨_, rfl, IFJ.step hI rfl (hI.2.pure (by decide))⟩
        | 12, ho =>
          obtain rfl := Option.some.inj ho
          have h10 : b 10 = true := hW 10 (by kernel_rfl)
          have h12 := hbi
          have h14 := hI.2.ch.n12 h12
          have h17 := hI.2.ch.n14 h14
          refine gstep_call2 rfl (wanted0 rfl) _ _ _ _ rfl _ _ (eval_at 19 11 _ (by kernel_rfl) (show 19 < 29 by decide) (hI.1 11 (hW 11 (by kernel_rfl)))) rfl (clr_num w1 _ _) ?_
          refine (HN4.out w1 (by have := hI.2.rd; unfold stE at this; simp only [h10, h12, h14, Bool.false_eq_true, if_false, if_true] at this; exact this)).mono ?_
          rintro e w2 ⟨rfl, hr, hg⟩
          exact ⟨_, rfl, _, rfl, IFJ.step hI rfl (hI.2.call h17 (by decide) (hI.2.ch.set (fun e => (by cases e)) (fun e => (by cases e)) (fun _ => h10) (fun e => (by cases e)) (fun e => (by cases e))) HD.out hr hg (by unfold stE; simp [setB, h10, h12, h14, Bool.false_eq_true, if_false, if_true]))⟩
        | 13, ho =>
          obtain rfl := Option.some.inj ho
          exact gstep_move rfl (wanted0 rfl) _ rfl _ (eval_of 1 _ (by kernel_rfl) rfl) ⟨_, rfl, IFJ.step hI rfl (hI.2.pure (by decide))⟩
        | 14, ho =>
          obtain rfl := Option.some.inj ho
          have h12 : b 12 = true := hW 12 (by kernel_rfl)
          have h14 := hbi
          have h17 := hI.2.ch.n14 h14
          refine gstep_call2 rfl (wanted0 rfl) _ _ _ _ rfl _ _ (eval_at 21 13 _ (by kernel_rfl) (show 21 < 29 by decide) (hI.1 13 (hW 13 (by kernel_rfl)))) rfl (clr_num w1 _ _) ?_
          refine (HN5.out w1 (by have := hI.2.rd; unfold stE at this; simp only [h12, h14, Bool.false_eq_true, if_false, if_true] at this; exact this)).mono ?_
          rintro e w2 ⟨rfl, hr, hg⟩
          exact ⟨_, rfl, _, rfl, IFJ.step hI rfl (hI.2.call h17 (by decide) (hI.2.ch.set (fun e => (by cases e)) (fun e => (by cases e)) (fun e => (by cases e)) (fun _ => h12) (fun e => (by cases e))) HD.out hr hg (by unfold stE; simp [setB, h12, h14, Bool.false_eq_true, if_false, if_true]))⟩
        | 15, ho =>
          obtain rfl := Option.some.inj ho
          exact gstep_build5 rfl (wanted0 rfl) _ _ _ _ _ _ _ _ _ _ _ rfl _ _ _ _ _ (eval_at 14 6 _ (by kernel_rfl) (show 14 < 29 by decide) (hI.1 6 (hW 6 (by kernel_rfl)))) (eval_at 16 8 _ (by kernel_rfl) (show 16 < 29 by decide) (hI.1 8 (hW 8 (by kernel_rfl)))) (eval_at 18 10 _ (by kernel_rfl) (show 18 < 29 by decide) (hI.1 10 (hW 10 (by kernel_rfl)))) (eval_at 20 12 _ (by kernel_rfl) (show 20 < 29 by decide) (hI.1 12 (hW 12 (by kernel_rfl)))) (eval_at 22 14 _ (by kernel_rfl) (show 22 < 29 by decide) (hI.1 14 (hW 14 (by kernel_rfl)))) _ (run_bEv _ x) ⟨_, rfl, IFJ.step hI rfl (hI.2.pure (by decide))⟩
        | 16, ho =>
          obtain rfl := Option.some.inj ho
          exact gstep_row1 rfl (wanted0 rfl) _ _ rfl _ (eval_at 23 15 _ (by kernel_rfl) (show 23 < 29 by decide) (hI.1 15 (hW 15 (by kernel_rfl)))) _ _ (run_rowE _ x) ⟨_, rfl, IFJ.step hI trivial (hI.2.s16 hbi HD.out)⟩
        | 17, ho =>
          obtain rfl := Option.some.inj ho
          have h16 : b 16 = true := hW 16 (by kernel_rfl)
          obtain ⟨gb, hx16, _, hblk⟩ := hI.2.r16 h16 hbi
          have hk := hI.2.pre hbi
          refine gstep_append rfl (wanted0 rfl) _ _ _ rfl base 54 i1 _ 5 48 und_evs hi1 hz1 hz2 hz3 rfl (by decide) ve' L.length (cellsK evOne L) (eval_at 12 4 _ (by kernel_rfl) (show 12 < 29 by decide) (hI.1 4 (hW 4 (by kernel_rfl)))) hk.es ⟨gb, 0, none⟩ 1 1 (evOne x) (eval_at 24 16 _ (by kernel_rfl) (show 24 < 29 by decide) hx16) rfl (fun i u hu => ev_cells x gb w1 hblk i u hu) (evOne_one x) (by have := HLL.out; unfold maxLen; omega) (by have := HLL.out; omega) hk.lo.2 ?_
          intro v8 w8 hown8 hgrow8
          refine ⟨_, rfl, IFJ.step hI trivial (hI.2.s17 (hW 4 (by kernel_rfl)) (hW 14 (by kernel_rfl)) h16 hbi HD.out ?_ hgrow8)⟩
          unfold ERow
          rw [cellsK_append, List.length_append]
          simpa [cellsK] using hown8
        | 18, ho =>
          obtain rfl := Option.some.inj ho
          exact gstep_nil rfl (wanted0 rfl) _ rfl _ (eval_at 8 0 _ (by kernel_rfl) (show 8 < 29 by decide) (hI.1 0 (hW 0 (by kernel_rfl)))) ⟨_, rfl, IFJ.step hI rfl (hI.2.pure (by decide))⟩
        | 19, ho =>
          obtain rfl := Option.some.inj ho
          exact gstep_field rfl (wanted0 rfl) _ _ _ rfl _ (eval_at 26 18 _ (by kernel_rfl) (show 26 < 29 by decide) (hI.1 18 (hW 18 (by kernel_rfl)))) _ (run_bkF1 _ _) ⟨_, rfl, IFJ.step hI rfl (hI.2.pure (by decide))⟩
        | n + 20, ho => omega
      · intro o ho b zz w9 hI hA
        obtain rfl := Option.some.inj ho
        have hF19 : zz 19 = .pointer (some ⟨bb, 1, none⟩) := hI.1 19 (hA 19 (by decide))
        obtain ⟨w0', hk0, hgr, hrow⟩ := hI.2.post (hA 17 (by decide))
        obtain ⟨a9, c9, hx17, _, _⟩ := evV_form hrow
        have hbk := hk0.turnE hgr hrow
        have hbox : w9.heap[bb]? = some (.cells #[vw, ve', vm] 56 (0, 0)) := (hgr.block bb hk0.lt (fun e => hk0.ne_e e.symm rfl)).trans hk0.box
        have hcell : w9.cell? ⟨bb, 1, none⟩ = some ve' := by simp [World.cell?, hbox]
        have hfrz : w9.frozen? ⟨bb, 1, none⟩ = false := by simp [World.frozen?, hbox]
        have hrd := hI.2.rd
        unfold stE at hrd
        rw [hA 14 (by decide), if_pos rfl] at hrd
        have hlow := hI.2.low.low ((Below.refl base w9).setCell (p := ⟨bb, 1, none⟩) hk0.lo.1 (zz 17))
        have hrd2 := hrd.lowB ((Below.refl base w9).setCell (p := ⟨bb, 1, none⟩) hk0.lo.1 (zz 17)) HD.out.1
        rw [show (L ++ [x]).length = j + 1 by rw [List.length_append]; show L.length + 1 = _; rw [hLj]] at hx17
        rw [hx17] at hbk hlow hrd2
        refine gstep_store rfl (wanted0 rfl) _ _ _ rfl _ _ (eval_at 27 19 _ (by kernel_rfl) (show 27 < 29 by decide) hF19) (eval_at 25 17 _ (by kernel_rfl) (show 25 < 29 by decide) hx17) _ (run_storeEs w9 _ _ _ _ _ hcell hfrz) ?_
        simp only [putAll, Act.put, List.setIfInBounds_toArray, List.set_cons_succ, List.set_cons_zero]
        have HKA := Lib.hid hbk
        have HRA := Lib.hid hrd2
        have HGA : Hid (LowR base rb w (w9.setCell ⟨bb, 1, none⟩ (.slice a9 (j + 1) c9))) := Lib.hid ((HG.out.low (Below.refl base wr).drew).trans hlow)
        clear hI hA hrow hgr hx17 hbk hbox hcell hfrz hrd hlow hrd2 hF19 hk0
        obtain ⟨wa, hwa⟩ : ∃ wa, wa = w9.setCell ⟨bb, 1, none⟩ (.slice a9 (j + 1) c9) := ⟨_, rfl⟩
        rw [← hwa] at HKA HRA HGA ⊢
        clear hwa
        go_wp2_with fail
        go_roundw
        case rel => exact ⟨j + 1, _, L ++ [x], s5, by omega, by go_num, by simp; omega, HKA, HRA, Lib.hid (by rw [HEQ.out, HQ2.out]), HGA⟩
        case measure => simp [intOf]; omega
    · obtain rfl : j = m := by omega
      have hlt2 : decide ((j : Int) < (j : Int)) = false := by simp
      rw [Nat.sub_self] at HEQ
      have HEQ : Hid (readEs st = ⟨L, S⟩) := HEQ
      have HLL : Hid (L.length ≤ 1024) := Lib.hid (by omega)
      go_wp2_with fail
      go_end0
      rw [HEQ.out]
      exact ⟨rfl, ve', HB.out, HR.out, HG.out, HLL.out⟩
end Go.Proofs.YtbbdokfankgllaaGreatDoor
