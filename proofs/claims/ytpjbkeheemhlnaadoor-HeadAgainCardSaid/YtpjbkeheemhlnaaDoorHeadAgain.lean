/- HeadAgain: whatever was half done when the power failed, whatever became of the writes: the head that was put last, or the one under way, is told, Scrub makes both copies the same, and from then on one of them is enough; no condition on the input (the two tables start as the program text lays them). -/
import Derived.Test.YtpjbkeheemhlnaaDoorHeadEq
import Derived.Test.YtpjbkeheemhlnaaDoorCards
import Derived.Test.YtpjbkeheemhlnaaDoorTie
import Derived.ProofKit
import Derived.OpenShut
import Derived.ShutString
import Derived.ChangeOld
import Derived.Deep.DeepHandedRow
import Derived.Lib.LaidTab
import Derived.Stop.LaidErr
namespace Go.Proofs.YtpjbkeheemhlnaaDoor.headAgain
open Go.ChangeShapes Go.WideShapes Go.ChangeAt Go.RowKit
open Go.ChangeMaps (open_string shut_string)
set_option linter.unusedVariables false
set_option maxRecDepth 100000
def FA1 (n ub wb : Nat) (q a b : Hd) : Nat → Value → World → Prop
  | 0, v, _ => v = .int .i64 0
  | 1, v, _ => v = .bool true
  | 2, v, _ => v = .bool true
  | 3, v, _ => v = .pointer (some ⟨ub, 0, none⟩)
  | 4, v, _ => v = headV q
  | 5, v, _ => v = headV q
  | 6, v, _ => v = .bool true
  | 7, v, _ => v = .bool true
  | 8, v, _ => v = .bool true
  | 9, v, _ => v = headV q
  | 10, v, _ => v = headV a
  | 11, v, _ => v = .bool true
  | 12, v, _ => v = .bool true
  | 13, v, _ => v = undef
  | 14, v, _ => v = undef
  | 15, v, _ => v = undef
  | 16, v, _ => v = .bool true
  | 17, v, _ => v = .bool true
  | 18, v, _ => v = .bool true
  | _, _, _ => True
theorem FA1_keep {n ub wb : Nat} {q a b : Hd} {v : Value} {w w' : World} : ∀ i : Nat, FA1 n ub wb q a b i v w → FA1 n ub wb q a b i v w'
  | 0, h => h
  | 1, h => h
  | 2, h => h
  | 3, h => h
  | 4, h => h
  | 5, h => h
  | 6, h => h
  | 7, h => h
  | 8, h => h
  | 9, h => h
  | 10, h => h
  | 11, h => h
  | 12, h => h
  | 13, h => h
  | 14, h => h
  | 15, h => h
  | 16, h => h
  | 17, h => h
  | 18, h => h
  | _ + 19, _ => trivial
def FA2 (n ub wb : Nat) (q a b : Hd) : Nat → Value → World → Prop
  | 0, v, _ => v = .int .i64 0
  | 1, v, _ => v = .bool true
  | 2, v, _ => v = .bool true
  | 3, v, _ => v = .pointer (some ⟨ub, 0, none⟩)
  | 4, v, _ => v = headV q
  | 5, v, _ => v = headV q
  | 6, v, _ => v = .bool true
  | 7, v, _ => v = .bool true
  | 8, v, _ => v = .bool true
  | 9, v, _ => v = headV q
  | 10, v, _ => v = headV a
  | 11, v, _ => v = .bool false
  | 12, v, _ => v = .bool false
  | 13, v, _ => v = headV q
  | 14, v, _ => v = headV b
  | 15, v, _ => v = .bool true
  | 16, v, _ => v = .bool true
  | 17, v, _ => v = .bool true
  | 18, v, _ => v = .bool true
  | _, _, _ => True
theorem FA2_keep {n ub wb : Nat} {q a b : Hd} {v : Value} {w w' : World} : ∀ i : Nat, FA2 n ub wb q a b i v w → FA2 n ub wb q a b i v w'
  | 0, h => h
  | 1, h => h
  | 2, h => h
  | 3, h => h
  | 4, h => h
  | 5, h => h
  | 6, h => h
  | 7, h => h
  | 8, h => h
  | 9, h => h
  | 10, h => h
  | 11, h => h
  | 12, h => h
  | 13, h => h
  | 14, h => h
  | 15, h => h
  | 16, h => h
  | 17, h => h
  | 18, h => h
  | _ + 19, _ => trivial

set_option maxHeartbeats 4000000 in
theorem main (a b : Hd) (k : Nat) (x2 : Int) (v3 : Value) (zs : List Int) (x4 : Int) (w : World) (ao : a.Ok) (bo : b.Ok) (hk : x2 % 8 = (k : Int)) (hzn : zs.length ≤ 20) (w3 : Fts w v3 zs) (hT : Tabs w) :
    Calls Tryd.prog 6 #[headV a, headV b, .int .i64 x2, v3, .int .i64 x4] w fun e w' => e = .returned (.bool true) ∧ Below w.heap.size w w' := by
  have b0 := (Below.refl _ w).alloc (Nat.le_refl _) (.cells #[.int .i64 a.term, .int .i64 a.vote, .int .i64 a.first, .int .i64 a.base] 23)
  have b1 := (Below.refl (w.alloc (.cells #[.int .i64 a.term, .int .i64 a.vote, .int .i64 a.first, .int .i64 a.base] 23)).heap.size _).alloc (Nat.le_refl _) (.cells #[.int .i64 b.term, .int .i64 b.vote, .int .i64 b.first, .int .i64 b.base] 23)
  have n0 := (HdB.new w a).below b1
  have m0 := HdB.new (w.alloc (.cells #[.int .i64 a.term, .int .i64 a.vote, .int .i64 a.first, .int .i64 a.base] 23)) b
  rw [World.size_alloc] at m0
  have B0 := b0.trans (b1.mono b0.size)
  have HB := Lib.hid (begin_any _ (hT.below B0))
  have HT := Lib.hid hT
  have HTb := Lib.hid (fun (W x : World) (h : Below w.heap.size w W) (k : Below w.heap.size W x) => hT.below (h.trans k))
  have HZ := Lib.hid (fun (W : World) (h : Below w.heap.size w W) => w3.below h)
  have HRA := Lib.hid (fun (W : World) => right_any a W true (by simpa using ao))
  have HRB := Lib.hid (fun (W : World) => right_any b W true (by simpa using bo))
  have h7 := i64_and7
  have h1 := i64_and1
  have HR1 := Lib.hid (show (copyR a 1).Ok from copy_ok ao (by decide))
  have H2 := Lib.hid (show (P2 blk0 blk0 0).two 0 (copyR a (rc0.index + 1)) = (0, P2 (good (copyR a 1)) (good (copyR a 1)) 0) from Dx_two0 HR1.out)
  obtain ⟨Y, hY⟩ : ∃ Y, Y = ((P2 (good (copyR a 1)) (good (copyR a 1)) 0).fall (k : Int)).two 0 (copyR b 2) := ⟨_, rfl⟩
  have HYw : Hid (Y.2.writes ≤ 2) := by
    show Y.2.writes ≤ 2
    rw [hY]
    exact two_writes _ 0 (copyR b 2)
  have HYd := Lib.hid hY
  obtain ⟨q, L, r, x, y, hqab, qo, hopen, hLq, hLi, hLs, hscrub, hrq, hrs, hop0, hop1⟩ := again_math ao bo k zs
  rw [← hY] at hopen hscrub
  have HO1 := Lib.hid hopen
  have HO2 := Lib.hid hscrub
  have HLQ := Lib.hid hLq
  have HLI := Lib.hid hLi
  have HRQ := Lib.hid hrq
  have HP0 := Lib.hid hop0
  have HP1 := Lib.hid hop1
  have HQO := Lib.hid qo
  have HAO := Lib.hid ao
  have HBO := Lib.hid bo
  have HQAB := Lib.hid hqab
  obtain ⟨c, hc⟩ : ∃ c : Int, x4 % 2 = c := ⟨_, rfl⟩
  have hkl : (k : Int) ≤ 9223372036854775807 := by omega
  have hz20 : decide ((20 : Int) < (zs.length : Int)) = false := by simp; omega
  obtain ⟨adr, cap, hv3, _⟩ := w3
  subst hv3
  clear hT b0 b1 hopen hscrub hLq hLi hrq hop0 hop1 qo ao bo hqab hY hzn
  unfold headV
  go_enter Tryd.func6, Tryd.ntmps6
  go_wp2_with fail
  refine HB.out.mono ?_
  rintro e w1 ⟨rfl, hb⟩
  have N1 := n0.below hb
  have M1 := m0.below hb
  have B1 := B0.trans (hb.mono B0.size)
  obtain ⟨⟨c0, c1, c2, c3⟩, _⟩ := N1.cells
  clear hb n0 m0 B0 HB
  go_wp2_with fail
  refine (HRA.out _).mono ?_
  rintro e w2 ⟨rfl, hb⟩
  have N2 := N1.below hb
  have M2 := M1.below hb
  have B2 := B1.trans (hb.mono B1.size)
  clear hb N1 M1 c0 c1 c2 c3 B1
  obtain ⟨⟨d0, d1, d2, d3⟩, _⟩ := M2.cells
  go_wp2_with fail
  refine (HRB.out _).mono ?_
  rintro e w3 ⟨rfl, hb⟩
  have N3 := N2.below hb
  have M3 := M2.below hb
  have B3 := B2.trans (hb.mono B2.size)
  clear hb N2 M2 d0 d1 d2 d3 B2
  go_wp2_with fail
  refine (new_any 2 w3).mono ?_
  rintro e w4 ⟨B, rfl, hd, hb⟩
  rw [show Dv.new 2 = P2 blk0 blk0 0 from P2_new 0 (by decide)] at hd
  have X4 : DevW w.heap.size (fun j => j = w.heap.size ∨ j = w.heap.size + 1) w4 B (P2 blk0 blk0 0) := devw_new hd B3.size (fun j hj => by rcases hj with hj | hj; rw [hj]; exact N3.lt; rw [hj]; exact M3.lt) hb.size
  have N4 := N3.below hb
  have M4 := M3.below hb
  have B4 := B3.trans (hb.mono B3.size)
  clear hd hb N3 M3 B3
  go_wp2_with fail
  refine (hw_open rc0 X4 (HT.out.below B4) (Nat.zero_le _) B4.size (P2_fresh 0)).mono ?_
  rintro e w5 ⟨sb, rfl, S5, hsb, X5, hb⟩
  have hnb := Nat.le_trans B4.size hsb
  have hne : w.heap.size ≠ sb := Nat.ne_of_lt (Nat.lt_of_lt_of_le N4.lt hsb)
  have hme : w.heap.size + 1 ≠ sb := Nat.ne_of_lt (Nat.lt_of_lt_of_le M4.lt hsb)
  have N5 := N4.below hb
  have M5 := M4.below hb
  have B5 := B4.trans (hb.mono B4.size)
  obtain ⟨⟨c0, c1, c2, c3⟩, _⟩ := N5.cells
  clear hb X4 hsb N4 M4 B4
  go_wp2_with fail
  refine (hw_put sb rc0 a 0 _ X5 S5 (.inr rfl) B5.size hnb (fun x k => HTb.out _ x B5 k) (by exact Nat.zero_le _) HAO.out (by decide) H2.out).mono ?_
  rintro e w6 ⟨rfl, X6, hb, S6, hk6⟩
  rw [lastL_zero rfl] at S6
  have S6 : StB w6 sb B (copyR a 1) := S6
  have N6 := N5.keep hk6 ⟨.inl (.inl rfl), hne⟩
  have M6 := M5.keep hk6 ⟨.inl (.inr rfl), hme⟩
  have B6 := B5.trans hb
  clear hb hk6 S5 X5 B5 N5 M5 c0 c1 c2 c3
  go_wp2_with fail
  refine (devw_fall (k : Int) hkl B6.size X6).mono ?_
  rintro e w7 ⟨rfl, X7, hb, hk7⟩
  have S7 := S6.keep hk7 (.inr rfl)
  have N7 := N6.keep hk7 (.inl (.inl rfl))
  have M7 := M6.keep hk7 (.inl (.inr rfl))
  have B7 := B6.trans hb
  clear hb hk7 S6 X6 B6 N6 M6
  obtain ⟨⟨d0, d1, d2, d3⟩, _⟩ := M7.cells
  go_wp2_with fail
  refine (hw_put sb (copyR a 1) b Y.1 Y.2 X7 S7 (.inr rfl) B7.size hnb (fun x k => HTb.out _ x B7 k) (by exact Nat.zero_le _) HBO.out (show (-1 : Int) ≤ 1 ∧ (1 : Int) ≤ 281474976710654 by decide) HYd.out.symm).mono ?_
  rintro e w8 ⟨rfl, X8, hb, S8, hk8⟩
  have N8 := N7.keep hk8 ⟨.inl (.inl rfl), hne⟩
  have M8 := M7.keep hk8 ⟨.inl (.inr rfl), hme⟩
  have B8 := B7.trans hb
  clear hb hk8 S7 S8 X7 B7 N7 M7 d0 d1 d2 d3 hne hme hnb
  go_wp2_with fail
  refine (devw_crash _ zs (Nat.le_trans HYw.out (by decide)) X8 (HZ.out _ B8)).mono ?_
  rintro e w9 ⟨C, rfl, hd, hb⟩
  have X9 : DevW w.heap.size (fun j => j = w.heap.size ∨ j = w.heap.size + 1) w9 C (Y.2.crash zs) := devw_new hd B8.size (fun j hj => by rcases hj with hj | hj; rw [hj]; exact N8.lt; rw [hj]; exact M8.lt) hb.size
  have N9 := N8.below hb
  have M9 := M8.below hb
  have B9 := B8.trans (hb.mono B8.size)
  clear hd hb N8 M8 B8 X8
  go_wp2_with fail
  refine (hw_open L X9 (HT.out.below B9) (Nat.zero_le _) B9.size HO1.out).mono ?_
  rintro e w10 ⟨tb, rfl, S10, hsb, X10, hb⟩
  have hnb := Nat.le_trans B9.size hsb
  have hne : w.heap.size ≠ tb := Nat.ne_of_lt (Nat.lt_of_lt_of_le N9.lt hsb)
  have hme : w.heap.size + 1 ≠ tb := Nat.ne_of_lt (Nat.lt_of_lt_of_le M9.lt hsb)
  have N10 := N9.below hb
  have M10 := M9.below hb
  have B10 := B9.trans (hb.mono B9.size)
  clear hb X9 hsb N9 M9 B9
  go_wp2_with fail
  refine (hw_scrub tb L 0 _ r X10 S10 (.inr rfl) B10.size hnb (fun x k => HTb.out _ x B10 k) (by exact Nat.zero_le _) (.inr (by rw [HLQ.out]; exact HQO.out)) HLI.out (by rw [hLs]; decide) HO2.out).mono ?_
  rintro e w10b ⟨rfl, X10b, hb, S10b, hk10⟩
  have N10b := N10.keep hk10 ⟨.inl (.inl rfl), hne⟩
  have M10b := M10.keep hk10 ⟨.inl (.inr rfl), hme⟩
  have B10b := B10.trans hb
  clear hb hk10 S10 X10 B10 N10 M10
  go_wp2_with fail
  refine (head_says tb C r q _ S10b HRQ.out (by rw [hrs]; decide)).mono ?_
  rintro e w11 ⟨rfl, hb⟩
  have b12 := (Below.refl w11.heap.size w11).alloc (Nat.le_refl _) (.cells #[.int .i64 q.term, .int .i64 q.vote, .int .i64 q.first, .int .i64 q.base] 23)
  have Q12 := HdB.new w11 q
  have N12 := (N10b.below hb).below b12
  have M12 := (M10b.below hb).below b12
  have X12 := (X10b.below hb).below b12
  have B12 := (B10b.trans (hb.mono B10b.size)).trans (b12.mono (B10b.trans (hb.mono B10b.size)).size)
  clear hb b12 N10b M10b X10b B10b S10b hnb hne hme
  unfold headV
  go_wp2_with fail
  refine (devw_crash _ [] (by exact Nat.zero_le _) X12 (Fts.nil _)).mono ?_
  rintro e w13 ⟨G, rfl, hd, hb⟩
  have X13 : DevW w.heap.size (fun j => j = w.heap.size ∨ j = w.heap.size + 1 ∨ j = w11.heap.size) w13 G ((P2 x y 0).crash []) := devw_new hd B12.size (fun j hj => by rcases hj with hj | hj | hj; rw [hj]; exact N12.lt; rw [hj]; exact M12.lt; rw [hj]; exact Q12.lt) hb.size
  have N13 := N12.below hb
  have M13 := M12.below hb
  have Q13 := Q12.below hb
  have B13 := B12.trans (hb.mono B12.size)
  clear hd hb N12 M12 Q12 B12 X12
  have HPC : Hid ((((P2 x y 0).crash []).onB c Blk.lose).hopen = (r, 0)) := by
    show (((P2 x y 0).crash []).onB c Blk.lose).hopen = (r, 0)
    obtain h | h : c = 0 ∨ c = 1 := by omega
    · rw [h]; exact HP0.out
    · rw [h]; exact HP1.out
  have HPW : Hid ((((P2 x y 0).crash []).onB c Blk.lose).writes ≤ 1073741824) := by
    show (((P2 x y 0).crash []).onB c Blk.lose).writes ≤ 1073741824
    rw [show (P2 x y 0).crash [] = P2 (x.crash []) (y.crash []) 0 from Dx_crash []]
    obtain h | h : c = 0 ∨ c = 1 := by omega
    · rw [h, show (P2 (x.crash []) (y.crash []) 0).onB 0 Blk.lose = P2 (x.crash []).lose (y.crash []) 0 from Dx_on0 _]
      exact Nat.zero_le _
    · rw [h, show (P2 (x.crash []) (y.crash []) 0).onB 1 Blk.lose = P2 (x.crash []) (y.crash []).lose 0 from Dx_on1 _]
      exact Nat.zero_le _
  go_wp2_with fail
  refine (devw_lose c B13.size X13).mono ?_
  rintro e w14 ⟨rfl, X14, hb, hk14⟩
  have N14 := N13.keep hk14 (.inl rfl)
  have M14 := M13.keep hk14 (.inr (.inl rfl))
  have Q14 := Q13.keep hk14 (.inr (.inr rfl))
  have B14 := B13.trans hb
  clear hb hk14 X13 B13 N13 M13 Q13
  go_wp2_with fail
  refine (hw_open r X14 (HT.out.below B14) HPW.out B14.size HPC.out).mono ?_
  rintro e w15 ⟨ub, rfl, S15, hsb, X15, hb⟩
  have N15 := N14.below hb
  have M15 := M14.below hb
  have Q15 := Q14.below hb
  have B15 := B14.trans (hb.mono B14.size)
  clear hb X14 X15 hsb N14 M14 Q14 B14
  go_wp2_with fail
  have HWA := Lib.hid (fun (W : World) (h : Below w15.drew.heap.size w15.drew W) => show HdB W w.heap.size a from HdB.below (w := w15.drew) N15 h)
  have HWB := Lib.hid (fun (W : World) (h : Below w15.drew.heap.size w15.drew W) => show HdB W (w.heap.size + 1) b from HdB.below (w := w15.drew) M15 h)
  have HWQ := Lib.hid (fun (W : World) (h : Below w15.drew.heap.size w15.drew W) => show HdB W w11.heap.size q from HdB.below (w := w15.drew) Q15 h)
  have HHD := Lib.hid (fun (W : World) (h : Below w15.drew.heap.size w15.drew W) => head_says ub G r q W (StB.below (w := w15.drew) S15 h) HRQ.out (by rw [hrs]; decide))
  by_cases hq : q = a
  · have hqa : true = true ↔ q = a := by simpa using hq
    refine wp_region_steps (FA1 w.heap.size ub w11.heap.size q a b) (fun w w' => Below w.heap.size w w') (by kernel_rfl) (by kernel_rfl) (by kernel_rfl) (Below.refl _ _) ?_ (fun u v w h1 h2 => h1.trans (h2.mono h1.size)) ?_ ?_
    · intro i v w w' _ h1 h2
      exact FA1_keep i h1
    · intro i o ho x w1 hR hF
      match i, ho with
      | 0, ho =>
        obtain rfl := Option.some.inj ho
        exact gstep_move rfl (wanted0 rfl) _ rfl _ (eval_of 18 _ (by kernel_rfl) rfl) ⟨_, rfl, rfl, Below.refl _ _⟩
      | 1, ho =>
        obtain rfl := Option.some.inj ho
        exact gstep_bin rfl (wanted0 rfl) _ _ _ _ _ rfl _ _ (eval_at 83 0 _ (by kernel_rfl) (show 83 < 101 by decide) (hF 0 (by kernel_rfl))) rfl _ (run_eqE w1 0 _ _) ⟨_, rfl, rfl, Below.refl _ _⟩
      | 2, ho =>
        obtain rfl := Option.some.inj ho
        exact gstep_move rfl (wanted0 rfl) _ rfl _ (eval_at 84 1 _ (by kernel_rfl) (show 84 < 101 by decide) (hF 1 (by kernel_rfl))) ⟨_, rfl, rfl, Below.refl _ _⟩
      | 3, ho =>
        obtain rfl := Option.some.inj ho
        exact gstep_move rfl (wanted_at 85 2 true _ true rfl (by kernel_rfl) (show 85 < 101 by decide) (hF 2 (by kernel_rfl)) rfl) _ rfl _ (eval_of 17 _ (by kernel_rfl) rfl) ⟨_, rfl, rfl, Below.refl _ _⟩
      | 4, ho =>
        obtain rfl := Option.some.inj ho
        refine gstep_call rfl (wanted_at 85 2 true _ true rfl (by kernel_rfl) (show 85 < 101 by decide) (hF 2 (by kernel_rfl)) rfl) _ _ _ rfl _ (eval_at 86 3 _ (by kernel_rfl) (show 86 < 101 by decide) (hF 3 (by kernel_rfl))) (call_head w1 _) ?_
        refine (HHD.out w1 hR).mono ?_
        rintro e w9 ⟨rfl, hb9⟩
        exact ⟨_, rfl, _, rfl, rfl, hb9⟩
      | 5, ho =>
        obtain rfl := Option.some.inj ho
        exact gstep_load rfl (wanted_at 85 2 true _ true rfl (by kernel_rfl) (show 85 < 101 by decide) (hF 2 (by kernel_rfl)) rfl) _ _ rfl _ (eval_of 16 _ (by kernel_rfl) rfl) _ (run_loadH w1 _ _ (HWQ.out w1 hR)) ⟨_, rfl, rfl, Below.refl _ _⟩
      | 6, ho =>
        obtain rfl := Option.some.inj ho
        exact gstep_bin rfl (wanted_at 85 2 true _ true rfl (by kernel_rfl) (show 85 < 101 by decide) (hF 2 (by kernel_rfl)) rfl) _ _ _ _ _ rfl _ _ (eval_at 87 4 _ (by kernel_rfl) (show 87 < 101 by decide) (hF 4 (by kernel_rfl))) (eval_at 88 5 _ (by kernel_rfl) (show 88 < 101 by decide) (hF 5 (by kernel_rfl))) _ (run_eqH w1 _ _ true (by simp) _ _) ⟨_, rfl, rfl, Below.refl _ _⟩
      | 7, ho =>
        obtain rfl := Option.some.inj ho
        exact gstep_pick rfl (wanted0 rfl) _ _ _ rfl true (eval_at 85 2 _ (by kernel_rfl) (show 85 < 101 by decide) (hF 2 (by kernel_rfl))) _ (by rw [if_pos rfl]; exact (eval_at 89 6 _ (by kernel_rfl) (show 89 < 101 by decide) (hF 6 (by kernel_rfl)))) ⟨_, rfl, rfl, Below.refl _ _⟩
      | 8, ho =>
        obtain rfl := Option.some.inj ho
        exact gstep_move rfl (wanted0 rfl) _ rfl _ (eval_at 90 7 _ (by kernel_rfl) (show 90 < 101 by decide) (hF 7 (by kernel_rfl))) ⟨_, rfl, rfl, Below.refl _ _⟩
      | 9, ho =>
        obtain rfl := Option.some.inj ho
        exact gstep_load rfl (wanted_at 91 8 true _ true rfl (by kernel_rfl) (show 91 < 101 by decide) (hF 8 (by kernel_rfl)) rfl) _ _ rfl _ (eval_of 16 _ (by kernel_rfl) rfl) _ (run_loadH w1 _ _ (HWQ.out w1 hR)) ⟨_, rfl, rfl, Below.refl _ _⟩
      | 10, ho =>
        obtain rfl := Option.some.inj ho
        exact gstep_load rfl (wanted_at 91 8 true _ true rfl (by kernel_rfl) (show 91 < 101 by decide) (hF 8 (by kernel_rfl)) rfl) _ _ rfl _ (eval_of 5 _ (by kernel_rfl) rfl) _ (run_loadH w1 _ _ (HWA.out w1 hR)) ⟨_, rfl, rfl, Below.refl _ _⟩
      | 11, ho =>
        obtain rfl := Option.some.inj ho
        exact gstep_bin rfl (wanted_at 91 8 true _ true rfl (by kernel_rfl) (show 91 < 101 by decide) (hF 8 (by kernel_rfl)) rfl) _ _ _ _ _ rfl _ _ (eval_at 92 9 _ (by kernel_rfl) (show 92 < 101 by decide) (hF 9 (by kernel_rfl))) (eval_at 93 10 _ (by kernel_rfl) (show 93 < 101 by decide) (hF 10 (by kernel_rfl))) _ (run_eqH w1 _ _ true hqa _ _) ⟨_, rfl, rfl, Below.refl _ _⟩
      | 12, ho =>
        obtain rfl := Option.some.inj ho
        exact gstep_move rfl (wanted_at 91 8 true _ true rfl (by kernel_rfl) (show 91 < 101 by decide) (hF 8 (by kernel_rfl)) rfl) _ rfl _ (eval_at 94 11 _ (by kernel_rfl) (show 94 < 101 by decide) (hF 11 (by kernel_rfl))) ⟨_, rfl, rfl, Below.refl _ _⟩
      | 13, ho =>
        obtain rfl := Option.some.inj ho
        exact gstep_skip rfl (wanted_at 95 12 false _ false rfl (by kernel_rfl) (show 95 < 101 by decide) (hF 12 (by kernel_rfl)) rfl) ⟨_, rfl, rfl, Below.refl _ _⟩
      | 14, ho =>
        obtain rfl := Option.some.inj ho
        exact gstep_skip rfl (wanted_at 95 12 false _ false rfl (by kernel_rfl) (show 95 < 101 by decide) (hF 12 (by kernel_rfl)) rfl) ⟨_, rfl, rfl, Below.refl _ _⟩
      | 15, ho =>
        obtain rfl := Option.some.inj ho
        exact gstep_skip rfl (wanted_at 95 12 false _ false rfl (by kernel_rfl) (show 95 < 101 by decide) (hF 12 (by kernel_rfl)) rfl) ⟨_, rfl, rfl, Below.refl _ _⟩
      | 16, ho =>
        obtain rfl := Option.some.inj ho
        exact gstep_pick rfl (wanted_at 91 8 true _ true rfl (by kernel_rfl) (show 91 < 101 by decide) (hF 8 (by kernel_rfl)) rfl) _ _ _ rfl true (eval_at 95 12 _ (by kernel_rfl) (show 95 < 101 by decide) (hF 12 (by kernel_rfl))) _ (by rw [if_pos rfl]; exact rfl) ⟨_, rfl, rfl, Below.refl _ _⟩
      | 17, ho =>
        obtain rfl := Option.some.inj ho
        exact gstep_pick rfl (wanted0 rfl) _ _ _ rfl true (eval_at 91 8 _ (by kernel_rfl) (show 91 < 101 by decide) (hF 8 (by kernel_rfl))) _ (by rw [if_pos rfl]; exact (eval_at 99 16 _ (by kernel_rfl) (show 99 < 101 by decide) (hF 16 (by kernel_rfl)))) ⟨_, rfl, rfl, Below.refl _ _⟩
      | 18, ho =>
        obtain rfl := Option.some.inj ho
        exact gstep_assign rfl (wanted0 rfl) _ rfl _ (eval_at 100 17 _ (by kernel_rfl) (show 100 < 101 by decide) (hF 17 (by kernel_rfl))) ⟨_, rfl, rfl, Below.refl _ _⟩
      | n + 19, ho => simp at ho
    · intro x w16 hR hF
      have h18 : x 18 = .bool true := hF 18 (by decide)
      have B16 : Below w.heap.size w w16 := B15.drew.trans (hR.mono B15.drew.size)
      simp only [putAll, h18, Act.put, List.setIfInBounds_toArray, List.set_cons_succ, List.set_cons_zero]

      go_wp2_with fail
      go_ret
      exact ⟨rfl, B16⟩
  · have hqa : false = true ↔ q = a := by simpa using hq
    have hqb : true = true ↔ q = b := by simpa using HQAB.out.resolve_left hq
    refine wp_region_steps (FA2 w.heap.size ub w11.heap.size q a b) (fun w w' => Below w.heap.size w w') (by kernel_rfl) (by kernel_rfl) (by kernel_rfl) (Below.refl _ _) ?_ (fun u v w h1 h2 => h1.trans (h2.mono h1.size)) ?_ ?_
    · intro i v w w' _ h1 h2
      exact FA2_keep i h1
    · intro i o ho x w1 hR hF
      match i, ho with
      | 0, ho =>
        obtain rfl := Option.some.inj ho
        exact gstep_move rfl (wanted0 rfl) _ rfl _ (eval_of 18 _ (by kernel_rfl) rfl) ⟨_, rfl, rfl, Below.refl _ _⟩
      | 1, ho =>
        obtain rfl := Option.some.inj ho
        exact gstep_bin rfl (wanted0 rfl) _ _ _ _ _ rfl _ _ (eval_at 83 0 _ (by kernel_rfl) (show 83 < 101 by decide) (hF 0 (by kernel_rfl))) rfl _ (run_eqE w1 0 _ _) ⟨_, rfl, rfl, Below.refl _ _⟩
      | 2, ho =>
        obtain rfl := Option.some.inj ho
        exact gstep_move rfl (wanted0 rfl) _ rfl _ (eval_at 84 1 _ (by kernel_rfl) (show 84 < 101 by decide) (hF 1 (by kernel_rfl))) ⟨_, rfl, rfl, Below.refl _ _⟩
      | 3, ho =>
        obtain rfl := Option.some.inj ho
        exact gstep_move rfl (wanted_at 85 2 true _ true rfl (by kernel_rfl) (show 85 < 101 by decide) (hF 2 (by kernel_rfl)) rfl) _ rfl _ (eval_of 17 _ (by kernel_rfl) rfl) ⟨_, rfl, rfl, Below.refl _ _⟩
      | 4, ho =>
        obtain rfl := Option.some.inj ho
        refine gstep_call rfl (wanted_at 85 2 true _ true rfl (by kernel_rfl) (show 85 < 101 by decide) (hF 2 (by kernel_rfl)) rfl) _ _ _ rfl _ (eval_at 86 3 _ (by kernel_rfl) (show 86 < 101 by decide) (hF 3 (by kernel_rfl))) (call_head w1 _) ?_
        refine (HHD.out w1 hR).mono ?_
        rintro e w9 ⟨rfl, hb9⟩
        exact ⟨_, rfl, _, rfl, rfl, hb9⟩
      | 5, ho =>
        obtain rfl := Option.some.inj ho
        exact gstep_load rfl (wanted_at 85 2 true _ true rfl (by kernel_rfl) (show 85 < 101 by decide) (hF 2 (by kernel_rfl)) rfl) _ _ rfl _ (eval_of 16 _ (by kernel_rfl) rfl) _ (run_loadH w1 _ _ (HWQ.out w1 hR)) ⟨_, rfl, rfl, Below.refl _ _⟩
      | 6, ho =>
        obtain rfl := Option.some.inj ho
        exact gstep_bin rfl (wanted_at 85 2 true _ true rfl (by kernel_rfl) (show 85 < 101 by decide) (hF 2 (by kernel_rfl)) rfl) _ _ _ _ _ rfl _ _ (eval_at 87 4 _ (by kernel_rfl) (show 87 < 101 by decide) (hF 4 (by kernel_rfl))) (eval_at 88 5 _ (by kernel_rfl) (show 88 < 101 by decide) (hF 5 (by kernel_rfl))) _ (run_eqH w1 _ _ true (by simp) _ _) ⟨_, rfl, rfl, Below.refl _ _⟩
      | 7, ho =>
        obtain rfl := Option.some.inj ho
        exact gstep_pick rfl (wanted0 rfl) _ _ _ rfl true (eval_at 85 2 _ (by kernel_rfl) (show 85 < 101 by decide) (hF 2 (by kernel_rfl))) _ (by rw [if_pos rfl]; exact (eval_at 89 6 _ (by kernel_rfl) (show 89 < 101 by decide) (hF 6 (by kernel_rfl)))) ⟨_, rfl, rfl, Below.refl _ _⟩
      | 8, ho =>
        obtain rfl := Option.some.inj ho
        exact gstep_move rfl (wanted0 rfl) _ rfl _ (eval_at 90 7 _ (by kernel_rfl) (show 90 < 101 by decide) (hF 7 (by kernel_rfl))) ⟨_, rfl, rfl, Below.refl _ _⟩
      | 9, ho =>
        obtain rfl := Option.some.inj ho
        exact gstep_load rfl (wanted_at 91 8 true _ true rfl (by kernel_rfl) (show 91 < 101 by decide) (hF 8 (by kernel_rfl)) rfl) _ _ rfl _ (eval_of 16 _ (by kernel_rfl) rfl) _ (run_loadH w1 _ _ (HWQ.out w1 hR)) ⟨_, rfl, rfl, Below.refl _ _⟩
      | 10, ho =>
        obtain rfl := Option.some.inj ho
        exact gstep_load rfl (wanted_at 91 8 true _ true rfl (by kernel_rfl) (show 91 < 101 by decide) (hF 8 (by kernel_rfl)) rfl) _ _ rfl _ (eval_of 5 _ (by kernel_rfl) rfl) _ (run_loadH w1 _ _ (HWA.out w1 hR)) ⟨_, rfl, rfl, Below.refl _ _⟩
      | 11, ho =>
        obtain rfl := Option.some.inj ho
        exact gstep_bin rfl (wanted_at 91 8 true _ true rfl (by kernel_rfl) (show 91 < 101 by decide) (hF 8 (by kernel_rfl)) rfl) _ _ _ _ _ rfl _ _ (eval_at 92 9 _ (by kernel_rfl) (show 92 < 101 by decide) (hF 9 (by kernel_rfl))) (eval_at 93 10 _ (by kernel_rfl) (show 93 < 101 by decide) (hF 10 (by kernel_rfl))) _ (run_eqH w1 _ _ false hqa _ _) ⟨_, rfl, rfl, Below.refl _ _⟩
      | 12, ho =>
        obtain rfl := Option.some.inj ho
        exact gstep_move rfl (wanted_at 91 8 true _ true rfl (by kernel_rfl) (show 91 < 101 by decide) (hF 8 (by kernel_rfl)) rfl) _ rfl _ (eval_at 94 11 _ (by kernel_rfl) (show 94 < 101 by decide) (hF 11 (by kernel_rfl))) ⟨_, rfl, rfl, Below.refl _ _⟩
      | 13, ho =>
        obtain rfl := Option.some.inj ho
        exact gstep_load rfl (wanted_at 95 12 false _ true rfl (by kernel_rfl) (show 95 < 101 by decide) (hF 12 (by kernel_rfl)) rfl) _ _ rfl _ (eval_of 16 _ (by kernel_rfl) rfl) _ (run_loadH w1 _ _ (HWQ.out w1 hR)) ⟨_, rfl, rfl, Below.refl _ _⟩
      | 14, ho =>
        obtain rfl := Option.some.inj ho
        exact gstep_load rfl (wanted_at 95 12 false _ true rfl (by kernel_rfl) (show 95 < 101 by decide) (hF 12 (by kernel_rfl)) rfl) _ _ rfl _ (eval_of 6 _ (by kernel_rfl) rfl) _ (run_loadH w1 _ _ (HWB.out w1 hR)) ⟨_, rfl, rfl, Below.refl _ _⟩
      | 15, ho =>
        obtain rfl := Option.some.inj ho
        exact gstep_bin rfl (wanted_at 95 12 false _ true rfl (by kernel_rfl) (show 95 < 101 by decide) (hF 12 (by kernel_rfl)) rfl) _ _ _ _ _ rfl _ _ (eval_at 96 13 _ (by kernel_rfl) (show 96 < 101 by decide) (hF 13 (by kernel_rfl))) (eval_at 97 14 _ (by kernel_rfl) (show 97 < 101 by decide) (hF 14 (by kernel_rfl))) _ (run_eqH w1 _ _ true hqb _ _) ⟨_, rfl, rfl, Below.refl _ _⟩
      | 16, ho =>
        obtain rfl := Option.some.inj ho
        exact gstep_pick rfl (wanted_at 91 8 true _ true rfl (by kernel_rfl) (show 91 < 101 by decide) (hF 8 (by kernel_rfl)) rfl) _ _ _ rfl false (eval_at 95 12 _ (by kernel_rfl) (show 95 < 101 by decide) (hF 12 (by kernel_rfl))) _ (by rw [if_neg (by decide)]; exact (eval_at 98 15 _ (by kernel_rfl) (show 98 < 101 by decide) (hF 15 (by kernel_rfl)))) ⟨_, rfl, rfl, Below.refl _ _⟩
      | 17, ho =>
        obtain rfl := Option.some.inj ho
        exact gstep_pick rfl (wanted0 rfl) _ _ _ rfl true (eval_at 91 8 _ (by kernel_rfl) (show 91 < 101 by decide) (hF 8 (by kernel_rfl))) _ (by rw [if_pos rfl]; exact (eval_at 99 16 _ (by kernel_rfl) (show 99 < 101 by decide) (hF 16 (by kernel_rfl)))) ⟨_, rfl, rfl, Below.refl _ _⟩
      | 18, ho =>
        obtain rfl := Option.some.inj ho
        exact gstep_assign rfl (wanted0 rfl) _ rfl _ (eval_at 100 17 _ (by kernel_rfl) (show 100 < 101 by decide) (hF 17 (by kernel_rfl))) ⟨_, rfl, rfl, Below.refl _ _⟩
      | n + 19, ho => simp at ho
    · intro x w16 hR hF
      have h18 : x 18 = .bool true := hF 18 (by decide)
      have B16 : Below w.heap.size w w16 := B15.drew.trans (hR.mono B15.drew.size)
      simp only [putAll, h18, Act.put, List.setIfInBounds_toArray, List.set_cons_succ, List.set_cons_zero]

      go_wp2_with fail
      go_ret
      exact ⟨rfl, B16⟩

set_option maxHeartbeats 4000000 in
theorem walk (v0 : Value) (a : Hd) (v1 : Value) (b : Hd) (x2 : Int) (v3 : Value) (zs : List Int) (x4 : Int) (w : World) (w0 : v0 = headV a ∧ a.Fits) (w1 : v1 = headV b ∧ b.Fits) (w2 : (Lit.int .i64 x2).wf = true) (w3 : Fts w v3 zs) (w4 : (Lit.int .i64 x4).wf = true) (hT : Tabs w) :
    Calls Tryd.prog 6 #[v0, v1, .int .i64 x2, v3, .int .i64 x4] w fun e w' => e = .returned (.bool true) ∧ Below w.heap.size w w' := by
  obtain ⟨rfl, fa⟩ := w0
  obtain ⟨rfl, fb⟩ := w1
  by_cases hall : a.Ok ∧ b.Ok ∧ zs.length ≤ 20
  · obtain ⟨ao, bo, hz⟩ := hall
    obtain ⟨k, hkx⟩ := Int.eq_ofNat_of_zero_le (Int.emod_nonneg x2 (show (8 : Int) ≠ 0 by decide))
    exact main a b k x2 v3 zs x4 w ao bo hkx hz w3 hT
  · have b0 := (Below.refl _ w).alloc (Nat.le_refl _) (.cells #[.int .i64 a.term, .int .i64 a.vote, .int .i64 a.first, .int .i64 a.base] 23)
    have b1 := (Below.refl (w.alloc (.cells #[.int .i64 a.term, .int .i64 a.vote, .int .i64 a.first, .int .i64 a.base] 23)).heap.size _).alloc (Nat.le_refl _) (.cells #[.int .i64 b.term, .int .i64 b.vote, .int .i64 b.first, .int .i64 b.base] 23)
    have n0 := (HdB.new w a).below b1
    have m0 := HdB.new (w.alloc (.cells #[.int .i64 a.term, .int .i64 a.vote, .int .i64 a.first, .int .i64 a.base] 23)) b
    rw [World.size_alloc] at m0
    have B0 := b0.trans (b1.mono b0.size)
    have HB := Lib.hid (begin_any _ (hT.below B0))
    obtain ⟨p, hp⟩ : ∃ p : Bool, p = true ↔ a.Ok := ⟨@decide a.Ok (Classical.propDecidable _), by simp⟩
    obtain ⟨o, hq⟩ : ∃ o : Bool, o = true ↔ b.Ok := ⟨@decide b.Ok (Classical.propDecidable _), by simp⟩
    have HRA := Lib.hid (fun (W : World) => right_any a W p hp)
    have HRB := Lib.hid (fun (W : World) => right_any b W o hq)
    have HALL : Hid (p = false ∨ o = false ∨ 20 < zs.length) := by
      show p = false ∨ o = false ∨ 20 < zs.length
      cases p with
      | false => exact .inl rfl
      | true =>
        cases o with
        | false => exact .inr (.inl rfl)
        | true =>
          refine .inr (.inr ?_)
          have : ¬ zs.length ≤ 20 := fun h => hall ⟨hp.1 rfl, hq.1 rfl, h⟩
          omega
    obtain ⟨adr, cap, hv3, _⟩ := w3
    subst hv3
    clear hT b0 b1 hall hp hq fa fb w2 w4
    unfold headV
    go_enter Tryd.func6, Tryd.ntmps6
    go_wp2_with fail
    refine HB.out.mono ?_
    rintro e w1 ⟨rfl, hb⟩
    have N1 := n0.below hb
    have M1 := m0.below hb
    have B1 := B0.trans (hb.mono B0.size)
    obtain ⟨⟨c0, c1, c2, c3⟩, _⟩ := N1.cells
    clear hb n0 m0 B0 HB
    go_wp2_with fail
    refine (HRA.out _).mono ?_
    rintro e w2 ⟨rfl, hb⟩
    have M2 := M1.below hb
    have B2 := B1.trans (hb.mono B1.size)
    clear hb N1 M1 c0 c1 c2 c3 B1
    cases p with
    | false =>
      go_wp2_with fail
      go_ret
      exact ⟨rfl, B2⟩
    | true =>
      obtain ⟨⟨d0, d1, d2, d3⟩, _⟩ := M2.cells
      go_wp2_with fail
      refine (HRB.out _).mono ?_
      rintro e w3 ⟨rfl, hb⟩
      have B3 := B2.trans (hb.mono B2.size)
      clear hb M2 d0 d1 d2 d3 B2
      cases o with
      | false =>
        go_wp2_with fail
        go_ret
        exact ⟨rfl, B3⟩
      | true =>
        have hz20 : decide ((20 : Int) < (zs.length : Int)) = true := by
          rcases HALL.out with h | h | h
          · cases h
          · cases h
          · simp; omega
        go_wp2_with fail
        go_ret
        exact ⟨rfl, B3⟩

theorem own : ownKnob Tryd.prog.godebug = none := by kernel_rfl
theorem laidOut : laidOutB Tryd.prog = true := by kernel_rfl
theorem gHi : Tryd.prog.globalNamed "orchard/sum.highTable" = some 0 := by kernel_rfl
theorem gLo : Tryd.prog.globalNamed "orchard/sum.lowTable" = some 1 := by kernel_rfl
theorem gHiType : (Tryd.prog.globals[0]?).map (·.type) = some 165 := by kernel_rfl
theorem gLoType : (Tryd.prog.globals[1]?).map (·.type) = some 165 := by kernel_rfl
theorem cellsTab : Tryd.prog.cellsOf 165 = 16 := by kernel_rfl
theorem cellsSum : Tryd.prog.cellsOf 158 = 1 := by kernel_rfl

theorem table_lo {W : World} (h : laidMetH Tryd.prog Rows.headAgainRow.laid W) : Lib.TabIs Tryd.prog W "orchard/sum.lowTable" .u32 LO :=
  Lib.tabIs_of_head (rest := [("orchard/sum.highTable", Rows.laid_orchard_sum_highTable)]) gLo gLoType Tryd.underlying165 Tryd.underlying158 cellsSum cellsTab h
theorem table_hi {W : World} (h : laidMetH Tryd.prog Rows.headAgainRow.laid W) : Lib.TabIs Tryd.prog W "orchard/sum.highTable" .u32 HI :=
  Lib.tabIs_of_head (rest := []) gHi gHiType Tryd.underlying165 Tryd.underlying158 cellsSum cellsTab (laidMet.tail (show laidMet Tryd.prog [("orchard/sum.lowTable", Rows.laid_orchard_sum_lowTable), ("orchard/sum.highTable", Rows.laid_orchard_sum_highTable)] W from h))
theorem tabs_of {W : World} (h : laidMetH Tryd.prog Rows.headAgainRow.laid W) : Tabs W := by
  have c0 := fun (j : Nat) (hj : j < 16) => (table_hi h).cell gHi j hj
  have c1 := fun (j : Nat) (hj : j < 16) => (table_lo h).cell gLo j hj
  refine ⟨⟨World.block_lt_of_cell? W _ (c0 0 (by decide)), World.block_lt_of_cell? W _ (c1 0 (by decide))⟩, fun j hj => ?_, fun j hj => ?_⟩
  · rw [c0 j hj, hi_cast j]
  · rw [c1 j hj, lo_cast j]

theorem contract (H : Type) (enc : TypeId × Value → H) (W : World) (base : Nat) (args : Array Value) (ds gs : List (DataW H)) (before : List MemPlace)
    (hval : ∀ (j : Nat) t v, Tryd.f6.params[j]? = some t → args[j]? = some v → Value.okWide Tryd.prog W .any base t v)
    (hW : DataW.Whole enc Tryd.prog Tryd.f6.params.toList Rows.headAgainSpec.vars false W args.toList ds gs before) (hL : laidMetH Tryd.prog Rows.headAgainRow.laid W) :
    Calls Tryd.prog 6 args W fun e W' => ∃ v, e = .returned v ∧ Rows.headAgainSpec.post enc Tryd.prog Tryd.f6 false true false false W args v W' := by
  have hT := tabs_of hL
  have hW' := hW
  obtain ⟨p, q, hA0, hV, rfl, hfz, hnd⟩ := hW
  have hA : DataW.TrodAll enc Tryd.prog W 0 (fun _ => true) true Tryd.f6.params.toList args.toList ds p := hA0
  rw [Tryd.params6] at hA hval
  obtain ⟨v0, vs0, d0, ds0, p0, q0, hargs, rfl, rfl, h0, r0⟩ := trodAll_cons hA
  obtain ⟨v1, vs1, d1, ds1, p1, q1, rfl, rfl, rfl, h1, r1⟩ := trodAll_cons r0
  obtain ⟨v2, vs2, d2, ds2, p2, q2, rfl, rfl, rfl, h2, r2⟩ := trodAll_cons r1
  obtain ⟨v3, vs3, d3, ds3, p3, q3, rfl, rfl, rfl, h3, r3⟩ := trodAll_cons r2
  obtain ⟨v4, vs4, d4, ds4, p4, q4, rfl, rfl, rfl, h4, r4⟩ := trodAll_cons r3
  obtain ⟨rfl, rfl, rfl⟩ := trodAll_nil r4
  obtain rfl : args = #[v0, v1, v2, v3, v4] := by cases args; simp_all
  obtain ⟨rfl, rfl⟩ := trodVars_none hV
  have k0 := h0
  have lt0 : ∀ x ∈ p0, x.block < W.heap.size := by obtain ⟨m, hm⟩ := k0; exact DataW.trod_lt m _ _ _ hm
  obtain ⟨z0, w0⟩ := hd_of (hval 0 23 v0 rfl rfl) h0
  have k1 := h1
  have lt1 : ∀ x ∈ p1, x.block < W.heap.size := by obtain ⟨m, hm⟩ := k1; exact DataW.trod_lt m _ _ _ hm
  obtain ⟨z1, w1⟩ := hd_of (hval 1 23 v1 rfl rfl) h1
  obtain ⟨a2, rfl, rfl, rfl, w2⟩ := open_int Tryd.underlying3 (hval 2 3 v2 rfl rfl) h2
  have k3 := h3
  have lt3 : ∀ x ∈ p3, x.block < W.heap.size := by obtain ⟨m, hm⟩ := k3; exact DataW.trod_lt m _ _ _ hm
  obtain ⟨z3, w3⟩ := fts_of (hval 3 46 v3 rfl rfl) h3
  obtain ⟨a4, rfl, rfl, rfl, w4⟩ := open_int Tryd.underlying3 (hval 4 3 v4 rfl rfl) h4
  clear hA0
  refine (walk v0 z0 v1 z1 a2 v3 z3 a4 W w0 w1 w2 w3 w4 hT).mono fun e W' ⟨he, bel⟩ => ?_
  subst he
  exact ⟨_, rfl, _, _, _, [], _, [], hW', trodAll_mk1 (shut_bool Tryd.underlying4 _), (trodAll_cons_mk (Below.trod laidOut (by kernel_rfl) (of_decide_eq_true (by kernel_rfl)) k0 bel lt0) (trodAll_cons_mk (Below.trod laidOut (by kernel_rfl) (of_decide_eq_true (by kernel_rfl)) k1 bel lt1) (trodAll_cons_mk (shut_int Tryd.underlying3 w2) (trodAll_cons_mk (Below.trod laidOut (by kernel_rfl) (of_decide_eq_true (by kernel_rfl)) k3 bel lt3) (trodAll_cons_mk (shut_int Tryd.underlying3 w4) trodAll_mk0))))), rfl, bel.frame _, fun h => by cases h⟩

def setTab (l : List Int) : Obj → Obj
  | .cells _ t frozen => .cells (l.map (Value.int .u32)).toArray t frozen
  | o => o
noncomputable def laidWorld (os : Os) : World :=
  { World.holding Tryd.prog os ⟨#[], #[], []⟩ with heap := ((World.holding Tryd.prog os ⟨#[], #[], []⟩).heap.modify 1 (setTab LO)).modify 0 (setTab HI) }
theorem laid_met (os : Os) : laidMet Tryd.prog Rows.headAgainRow.laid ((laidWorld os).forCall (fun _ _ => 0) ⟨#[], #[.agg #[.int .i64 0, .int .i64 0, .int .i64 0, .int .i64 0], .agg #[.int .i64 0, .int .i64 0, .int .i64 0, .int .i64 0], .int .i64 0, .slice none 0 0, .int .i64 0], []⟩).memory :=
  laidMet_of_run' 8 (by kernel_rfl) (by kernel_rfl)
theorem reads (os : Os) {H : Type} (enc : TypeId × Value → H) : ∃ places, DataW.whole enc Tryd.prog ((laidWorld os).forCall (fun _ _ => 0) ⟨#[], #[.agg #[.int .i64 0, .int .i64 0, .int .i64 0, .int .i64 0], .agg #[.int .i64 0, .int .i64 0, .int .i64 0, .int .i64 0], .int .i64 0, .slice none 0 0, .int .i64 0], []⟩).memory Tryd.f6.params.toList Rows.headAgainSpec.vars false #[Value.agg #[.int .i64 0, .int .i64 0, .int .i64 0, .int .i64 0], Value.agg #[.int .i64 0, .int .i64 0, .int .i64 0, .int .i64 0], Value.int .i64 0, Value.slice none 0 0, Value.int .i64 0].toList 8 = some ([.agg [.lit (.int .i64 0), .lit (.int .i64 0), .lit (.int .i64 0), .lit (.int .i64 0)], .agg [.lit (.int .i64 0), .lit (.int .i64 0), .lit (.int .i64 0), .lit (.int .i64 0)], .lit (.int .i64 0), .nil, .lit (.int .i64 0)], [], places) :=
  ⟨[], by kernel_rfl⟩

set_option maxRecDepth 100000 in
theorem lifted (os : Os) (started : os.Started) (H : Type) (enc : TypeId × Value → H) (F : Stop.Interp) :
    ReturnsInHanded {} Tryd.checked os 6 .any ((OpenSpec.ofChange Rows.headAgainSpec).preRow enc Tryd.prog Tryd.f6 Rows.headAgainRow.domain false Rows.headAgainRow.laid) (((OpenSpec.ofChange Rows.headAgainSpec).at F).post enc Tryd.prog Tryd.f6 false true false false) := by
  obtain ⟨places, hx⟩ := reads os enc
  refine returnsInHanded_of_row (C := Tryd.checked) (s := OpenSpec.ofChange Rows.headAgainSpec) own started (by kernel_rfl) Tryd.func6
    (witness_row_at (enc := enc) (C := Tryd.checked) false (laidWorld os) #[.agg #[.int .i64 0, .int .i64 0, .int .i64 0, .int .i64 0], .agg #[.int .i64 0, .int .i64 0, .int .i64 0, .int .i64 0], .int .i64 0, .slice none 0 0, .int .i64 0] rfl (by kernel_rfl) (by kernel_rfl) (by kernel_rfl)
      (OpenSpec.preRow_of_cond 8 hx (by kernel_rfl) (fun k hk => by cases hk) (by kernel_rfl) (laid_met os))) ?_
  intro W base args ds gs before hval hW _ _ _ hL _ _
  exact contract H enc W base args ds gs before hval hW hL

theorem said : Rows.HeadAgainSaid :=
  OpenClaim.holds_of_cond 6 Tryd.f6 rfl rfl rfl rfl rfl rfl rfl ⟨rfl, rfl, rfl, rfl, rfl⟩ rfl rfl rfl rfl rfl (by kernel_rfl) Tryd.func6 (by kernel_rfl)
    (of_decide_eq_true (by kernel_rfl)) (by unfold Func.isWrapper; first | (rw [if_pos (by decide +kernel)]; kernel_rfl) | (rw [if_neg (by decide +kernel)]; exact ⟨rfl, rfl⟩))
    (fun os started H enc _ F => by rw [OpenClaim.pre_eq_preRow]; exact lifted os started H enc F)

theorem plain (f : FuncId) (fn : Func) (hf : Tryd.pinned.checked.prog.funcNamed "orchard/orchardlaw05.HeadAgain" = some f) (hfn : Tryd.pinned.checked.prog.funcs[f]? = some fn) :
    false = Tryd.pinned.checked.prog.looks [] ∧ ∀ (j : Nat) t, fn.params[j]? = some t → Tryd.pinned.checked.prog.wantsStandIn t = false := by
  obtain rfl : f = 6 := Option.some.inj ((show Tryd.prog.funcNamed "orchard/orchardlaw05.HeadAgain" = some 6 by kernel_rfl).symm.trans hf) |>.symm
  obtain rfl : fn = Tryd.f6 := (Option.some.inj (Tryd.func6.symm.trans hfn)).symm
  refine ⟨by kernel_rfl, fun j t ht => ?_⟩
  rw [Tryd.params6] at ht
  have hm := Array.mem_of_getElem? ht
  simp at hm
  rcases hm with rfl | rfl | rfl | rfl
  · exact (show Tryd.prog.wantsStandIn 23 = false by kernel_rfl)
  · exact (show Tryd.prog.wantsStandIn 3 = false by kernel_rfl)
  · exact (show Tryd.prog.wantsStandIn 46 = false by kernel_rfl)
  · exact (show Tryd.prog.wantsStandIn 3 = false by kernel_rfl)

theorem card : Rows.HeadAgainCardSaid :=
  Claim7.holds_tied_plain_at .later [] _ _ _ _ said (fun _ h => by cases h) (by kernel_rfl) (fun _ h => by cases h) headAgain_row_tie rfl ⟨rfl, rfl⟩ (by kernel_rfl) rfl plain (by kernel_rfl)
end Go.Proofs.YtpjbkeheemhlnaaDoor.headAgain
