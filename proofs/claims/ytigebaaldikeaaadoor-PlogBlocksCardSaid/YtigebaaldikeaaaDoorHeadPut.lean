/- head.put and Put: what they answer and leave; no conditions beyond those in each statement. head.Scrub: what it answers and leaves; no conditions beyond those in each statement. -/
import Derived.Test.YtigebaaldikeaaaDoorHeadOf
import Derived.IntWalk
namespace Go.Proofs.YtigebaaldikeaaaDoor
section
open Go.RowKit
set_option linter.unusedVariables false
set_option maxRecDepth 100000

theorem swrite_writes (D : Dv) (i : Int) (r : Rc) : (D.swrite i r).2.writes ≤ D.writes + 1 := by
  unfold Dv.swrite
  split
  · unfold Dv.write
    split
    · split
      · show D.op.writes ≤ _; rw [D.op_writes]; omega
      · split
        · show D.op.writes ≤ _; rw [D.op_writes]; omega
        · exact Nat.le_refl _
    · show D.op.writes ≤ _; rw [D.op_writes]; omega
  · exact Nat.le_add_right _ _
theorem flush_writes (D : Dv) : D.flush.2.writes ≤ D.writes := by
  unfold Dv.flush
  split
  · exact Nat.zero_le _
  · show D.op.writes ≤ _; rw [D.op_writes]; exact Nat.le_refl _
theorem one_writes (D : Dv) (i : Int) (r : Rc) : (D.one i r).2.writes ≤ D.writes + 1 := by
  unfold Dv.one
  split
  · exact Nat.le_trans (flush_writes _) (swrite_writes D i r)
  · exact swrite_writes D i r
theorem two_writes (D : Dv) (i : Int) (r : Rc) : (D.two i r).2.writes ≤ D.writes + 2 := by
  unfold Dv.two
  split
  · have h1 := one_writes (D.one i r).2 (1 - i) r
    have h2 := one_writes D i r
    omega
  · have h2 := one_writes D i r
    omega
theorem DevW.grow {n : Nat} {E : Nat → Prop} {w x : World} {B : Nat} {D : Dv} (h : DevW n E w B D) (hb : Below w.heap.size w x) {g : Nat} (hg : w.heap.size ≤ g) (hx : g < x.heap.size) : DevW n (fun k => E k ∨ k = g) x B D := by
  obtain ⟨S, h, hS, hE⟩ := h
  refine ⟨S, h.below hb, fun k hk => ⟨(hS k hk).1, fun e => e.elim (hS k hk).2 (fun e => ?_)⟩, fun k hk => ?_⟩
  · have := h.lt k hk; omega
  · rcases hk with hk | hk
    · exact Nat.lt_of_lt_of_le (hE k hk) hb.size
    · subst hk; exact hx
theorem DevW.set {n : Nat} {E : Nat → Prop} {w : World} {B : Nat} {D : Dv} (h : DevW n E w B D) {b : Nat} (hb : E b) (r : Rc) : DevW n E (setSt w b r) B D := by
  obtain ⟨S, ⟨R, sv, C, h⟩, hS, hE⟩ := h
  refine ⟨S, ⟨R, sv, C, h.keep (by rw [setSt_size]; exact Nat.le_refl _) (fun k hk => setSt_other (fun e => (hS k hk).2 (e ▸ hb)))⟩, hS, fun k hk => by rw [setSt_size]; exact hE k hk⟩
theorem Kept.set {E : Nat → Prop} {w x : World} (h : Kept E w x) {b : Nat} (r : Rc) : Kept (fun k => E k ∧ k ≠ b) w (setSt x b r) := fun k hk => (setSt_other hk.2).trans (h k hk.1)

theorem two_stop {D : Dv} {f : Int} {r : Rc} (h : (D.one f r).1 ≠ 0) : D.two f r = D.one f r := by unfold Dv.two; rw [if_neg h]
theorem two_go {D : Dv} {f : Int} {r : Rc} (h : (D.one f r).1 = 0) : D.two f r = (D.one f r).2.one (1 - f) r := by unfold Dv.two; rw [if_pos h]
theorem one_stop {D : Dv} {f : Int} {r : Rc} (h : (D.swrite f r).1 ≠ 0) : D.one f r = D.swrite f r := by unfold Dv.one; rw [if_neg h]
theorem one_go {D : Dv} {f : Int} {r : Rc} (h : (D.swrite f r).1 = 0) : D.one f r = (D.swrite f r).2.flush := by unfold Dv.one; rw [if_pos h]
theorem lastL_not {e : Int} {r L : Rc} (h : e ≠ 0) : lastL e r L = L := by unfold lastL; rw [if_neg h]
theorem lastL_zero {e : Int} {r L : Rc} (h : e = 0) : lastL e r L = r := by unfold lastL; rw [if_pos h]
theorem put_cells {W : World} {a b B : Nat} {h : Hd} {L : Rc} (k : HdB W a h) (s : StB W b B L) : W.cell? ⟨a, 0, none⟩ = some (.int .i64 h.term) ∧ W.cell? ⟨a, 1, none⟩ = some (.int .i64 h.vote) ∧ W.cell? ⟨a, 2, none⟩ = some (.int .i64 h.first) ∧ W.cell? ⟨a, 3, none⟩ = some (.int .i64 h.base) ∧ W.cell? ⟨b, 2, none⟩ = some (.int .i64 L.index) := by
  obtain ⟨⟨c0, c1, c2, c3⟩, _⟩ := k.cells
  obtain ⟨⟨t0, t1, t2, t3, t4⟩, _⟩ := s.cells
  exact ⟨c0, c1, c2, c3, t2⟩
theorem rec_end {a W : World} {n g : Nat} {R z : Rc} (hN : RecB W g z) (hB : Below n a W) (hg : n ≤ g) :
    ∃ g' : Nat, Value.pointer (some ⟨g, 0, none⟩) = .pointer (some ⟨g', 0, none⟩) ∧ RecB ((((W.setCell ⟨g, 0, none⟩ (.int .i64 R.kind)).setCell ⟨g, 1, none⟩ (.int .i64 R.index)).setCell ⟨g, 2, none⟩ (.int .i64 R.term)).setCell ⟨g, 3, none⟩ (.string R.data)) g' R ∧
      Below n a ((((W.setCell ⟨g, 0, none⟩ (.int .i64 R.kind)).setCell ⟨g, 1, none⟩ (.int .i64 R.index)).setCell ⟨g, 2, none⟩ (.int .i64 R.term)).setCell ⟨g, 3, none⟩ (.string R.data)) ∧ n ≤ g' :=
  ⟨g, rfl, hN.set R, below_rec hB hg R, hg⟩
theorem rec_end1 {a W : World} {R : Rc} (hB : Below a.heap.size a W) :
    ∃ g' : Nat, Value.pointer (some ⟨W.heap.size, 0, none⟩) = .pointer (some ⟨g', 0, none⟩) ∧ RecB (W.alloc (.cells #[.int .i64 R.kind, .int .i64 R.index, .int .i64 R.term, .string R.data] 72)) g' R ∧
      Below a.heap.size a (W.alloc (.cells #[.int .i64 R.kind, .int .i64 R.index, .int .i64 R.term, .string R.data] 72)) ∧ a.heap.size ≤ g' :=
  ⟨W.heap.size, rfl, RecB.new W R, hB.alloc hB.size _, hB.size⟩

set_option maxHeartbeats 4000000 in
theorem hput_any {n : Nat} {E : Nat → Prop} {w : World} {B : Nat} {D : Dv} (b : Nat) (f : Int) (L : Rc) (h : Hd) (hW : DevW n E w B D) (hs : StB w b B L) (hE : E b) (hn : n ≤ w.heap.size) (hnb : n ≤ b)
    (hT : ∀ x, Below n w x → Tabs x) (hw : D.writes ≤ 1073741822) (hf : f = 0 ∨ f = 1) (hv : h.Ok) (hL : -1 ≤ L.index ∧ L.index ≤ 281474976710654) :
    Calls Tryd.prog 35 #[.pointer (some ⟨b, 0, none⟩), headV h, .int .i64 f] w fun e w' => e = .returned (.int .i64 (D.two f (copyR h (L.index + 1))).1) ∧ DevW n E w' B (D.two f (copyR h (L.index + 1))).2 ∧ Below n w w' ∧
      StB w' b B (lastL (D.two f (copyR h (L.index + 1))).1 (copyR h (L.index + 1)) L) ∧ Kept (fun k => E k ∧ k ≠ b) w w' := by
  have n0 := HdB.new w h
  have b0 := (Below.refl _ w).alloc (Nat.le_refl _) (.cells #[.int .i64 h.term, .int .i64 h.vote, .int .i64 h.first, .int .i64 h.base] 23)
  have s0 := hs.below b0
  have hfits : h.Fits := by
    have := hv.term; have := hv.vote; have := hv.first; have := hv.base
    exact ⟨by omega, by omega, by omega, by omega⟩
  have HV := Lib.hid (fun (W : World) => valid_any h W true (by simpa using hv))
  have HRO := Lib.hid (fun (W : World) => recOf_any h (L.index + 1) W hfits)
  obtain ⟨R, hR⟩ : ∃ R, R = copyR h (L.index + 1) := ⟨_, rfl⟩
  rw [← hR] at HRO ⊢
  have HW := Lib.hid hW
  have HTT := Lib.hid hT
  have HLI := Lib.hid hL
  have HSB := Lib.hid hs
  obtain ⟨V, hV⟩ : ∃ V, V = D.two f R := ⟨_, rfl⟩
  rw [← hV]
  have HVD := Lib.hid hV
  have e1 : IntKind.i64.wrap (L.index + 1) = L.index + 1 := IntWalk.i64_in _ (by omega)
  obtain ⟨⟨c0, c1, c2, c3⟩, cr⟩ := n0.cells
  obtain ⟨⟨t0, t1, t2, t3, t4⟩, f1, f2, f3, f4⟩ := s0.cells
  clear hW hT hv hfits hR hs hL hV
  unfold headV at *
  unfold recV at HRO
  go_enter Tryd.func35, Tryd.ntmps35
  go_upto_region 3 with (go_at_call 62; refine (HV.out _).mono ?_; rintro e w1 ⟨rfl, hb1⟩; have n1 := n0.below hb1; have s1 := s0.below hb1; have B1 := b0.trans (hb1.mono b0.size); clear c0 c1 c2 c3 cr t0 t1 t2 t3 t4 f1 f2 f3 f4 n0 s0 b0 hb1)
  obtain ⟨⟨c0, c1, c2, c3⟩, _⟩ := n1.cells
  obtain ⟨⟨t0, t1, t2, t3, t4⟩, f1, f2, f3, f4⟩ := s1.cells
  have B1d : Below w.heap.size w w1.drew := B1.drew
  have BA : Below w.heap.size w (w1.alloc (.cells #[.int .i64 0, .int .i64 0, .int .i64 0, .string ⟨#[]⟩] 72)).drew := (B1.alloc B1.size _).drew
  have NA : RecB (w1.alloc (.cells #[.int .i64 0, .int .i64 0, .int .i64 0, .string ⟨#[]⟩] 72)).drew w1.heap.size ⟨0, 0, 0, ⟨#[]⟩⟩ := RecB.new w1 ⟨0, 0, 0, ⟨#[]⟩⟩
  have nA : HdB (w1.alloc (.cells #[.int .i64 0, .int .i64 0, .int .i64 0, .string ⟨#[]⟩] 72)).drew w.heap.size h := n1.below ((Below.refl w1.heap.size w1).alloc (Nat.le_refl _) _).drew
  have sA : StB (w1.alloc (.cells #[.int .i64 0, .int .i64 0, .int .i64 0, .string ⟨#[]⟩] 72)).drew b B L := s1.below ((Below.refl w1.heap.size w1).alloc (Nat.le_refl _) _).drew
  have u1 : ¬ w.heap.size = w1.heap.size := Nat.ne_of_lt n1.lt
  have u2 : ¬ w1.heap.size = w.heap.size := Nat.ne_of_gt n1.lt
  have u3 : ¬ b = w1.heap.size := Nat.ne_of_lt s1.lt
  have u4 : ¬ w1.heap.size = b := Nat.ne_of_gt s1.lt
  have n1d : HdB w1.drew w.heap.size h := n1
  have s1d : StB w1.drew b B L := s1
  go_cut [7] (fun t wx => ∃ g : Nat, t = .pointer (some ⟨g, 0, none⟩) ∧ RecB wx g R ∧ Below w.heap.size w wx ∧ w.heap.size ≤ g)
  case first =>
    go_region_held3 (fun w' => w'.cell? ⟨w.heap.size, 0, none⟩ = some (.int .i64 h.term) ∧ w'.cell? ⟨w.heap.size, 1, none⟩ = some (.int .i64 h.vote) ∧ w'.cell? ⟨w.heap.size, 2, none⟩ = some (.int .i64 h.first) ∧ w'.cell? ⟨w.heap.size, 3, none⟩ = some (.int .i64 h.base) ∧ w'.cell? ⟨b, 2, none⟩ = some (.int .i64 L.index)) (first | (with_reducible exact ⟨p0, p1, p2, p3, p4⟩) | (refine ⟨?_, ?_, ?_, ?_, ?_⟩ <;> with_reducible assumption) | (with_reducible assumption) | go_keep)
      (first | (go_at_call 63; refine (HRO.out _).mono ?_; rintro e w2 ⟨rfl, hb2⟩; (first
        | (have N2 : RecB w2 w1.heap.size ⟨0, 0, 0, ⟨#[]⟩⟩ := (by with_reducible exact NA.below hb2); have B2 := BA.trans (hb2.mono BA.size); obtain ⟨p0, p1, p2, p3, p4⟩ := put_cells (nA.below hb2) (sA.below hb2); obtain ⟨⟨g0, g1, g2, g3⟩, k0, k1, k2, k3⟩ := N2.cells)
        | (have B2 : Below w.heap.size w w2 := (by with_reducible exact B1d.trans (hb2.mono B1d.size)); obtain ⟨p0, p1, p2, p3, p4⟩ := put_cells (n1d.below hb2) (s1d.below hb2)))))
    all_goals (go_wp2_with fail; go_meet)
    all_goals first
      | (with_reducible exact rec_end1 B2)
      | (with_reducible exact rec_end N2 B2 B1.size)
  case rest =>
    obtain ⟨g, rfl, hN, hB, hg⟩ := hcut
    rename_i wc
    have X0 := HW.out.grow hB hg hN.lt
    have S0 := HSB.out.below hB
    have K0 : Kept E w wc := fun k hk => hB.block k (HW.out.lt k hk)
    have B0 : Below n w wc := hB.mono hn
    have hnc : n ≤ wc.heap.size := Nat.le_trans hn hB.size
    clear c0 c1 c2 c3 t0 t1 t2 t3 t4 f1 f2 f3 f4 B1d BA NA nA sA u1 u2 u3 u4 n1d s1d n1 s1 B1 e1 hB hg
    go_wp2_with fail
    go_loopw [26] (fun i wr => ∃ (k : Nat) (D' : Dv), k ≤ 2 ∧ i = .int .i64 k ∧ DevW n (fun k => E k ∨ k = g) wr B D' ∧ RecB wr g R ∧ StB wr b B L ∧ Below n w wr ∧ Kept E w wr ∧ n ≤ wr.heap.size ∧ Hid (D'.writes ≤ 1073741822 + k) ∧ Hid ((k = 0 → D' = D) ∧ (k = 1 → (D.one f R).1 = 0 ∧ D' = (D.one f R).2) ∧ (k = 2 → V.1 = 0 ∧ D' = V.2))) (fun i _ => 2 - (intOf i).toNat)
    case atStart => exact ⟨0, D, by omega, rfl, X0, hN, S0, B0, K0, hnc, by show D.writes ≤ _; omega, ⟨fun _ => rfl, fun h => by omega, fun h => by omega⟩⟩
    case round =>
      obtain ⟨k, D', hk, rfl, Xk, Nk, Sk, Bk, Kk, hnk, HWR, HK⟩ := hrel
      clear X0 hN S0 B0 K0 hnc
      by_cases hlt : k < 2
      · obtain ⟨c, hc⟩ : ∃ c, c = if k = 0 then f else 1 - f := ⟨_, rfl⟩
        have hix : (f + (k : Int)).tmod 2 = c := by
          obtain rfl | rfl : k = 0 ∨ k = 1 := by omega
          · rw [hc, if_pos rfl]; rcases hf with rfl | rfl <;> rfl
          · rw [hc, if_neg (by decide)]; rcases hf with rfl | rfl <;> rfl
        have hsum : IntKind.i64.wrap (f + (k : Int)) = f + (k : Int) := IntWalk.i64_in _ (by rcases hf with rfl | rfl <;> omega)
        have hcb : 0 ≤ c ∧ c ≤ 1 := by rw [hc]; split <;> rcases hf with rfl | rfl <;> omega
        have HO : Hid (((D'.one c R).1 ≠ 0 → V = D'.one c R) ∧ ((D'.one c R).1 = 0 → (k + 1 = 0 → (D'.one c R).2 = D) ∧ (k + 1 = 1 → (D.one f R).1 = 0 ∧ (D'.one c R).2 = (D.one f R).2) ∧ (k + 1 = 2 → V.1 = 0 ∧ (D'.one c R).2 = V.2))) := by
          show _ ∧ _
          obtain rfl | rfl : k = 0 ∨ k = 1 := by omega
          · rw [if_pos rfl] at hc
            subst hc
            obtain rfl := HK.out.1 rfl
            exact ⟨fun h => by rw [HVD.out, two_stop h], fun h => ⟨fun e => by omega, fun _ => ⟨h, rfl⟩, fun e => by omega⟩⟩
          · rw [if_neg (by decide)] at hc
            subst hc
            obtain ⟨h1, rfl⟩ := HK.out.2.1 rfl
            have hv := HVD.out
            rw [two_go h1] at hv
            exact ⟨fun h => hv, fun h => ⟨fun e => by omega, fun e => by omega, fun _ => ⟨by rw [hv]; exact h, by rw [hv]⟩⟩⟩
        have HOW := Lib.hid (one_writes D' c R)
        have HSW := Lib.hid (swrite_writes D' c R)
        have HO1 := Lib.hid (fun h => one_stop (D := D') (f := c) (r := R) h)
        have HO2 := Lib.hid (fun h => one_go (D := D') (f := c) (r := R) h)
        have HCW := Lib.hid (devw_swrite (w := wr.drew) c R hnk (HTT.out _ Bk.drew) (by have := HWR.out; omega) Xk.drew)
        generalize D'.one c R = O at HO HOW HO1 HO2
        generalize D'.swrite c R = X at HSW HO1 HO2 HCW
        clear hc HK
        obtain ⟨⟨n0, n1, n2, n3⟩, _⟩ := Nk.cells
        obtain ⟨⟨t0, t1, t2, t3, t4⟩, f1, f2, f3, f4⟩ := Sk.cells
        unfold recV at HCW
        go_wp2_with fail
        go_region_held3 (fun w' => w'.cell? ⟨b, 0, none⟩ = some (.pointer (some ⟨B, 0, none⟩)) ∧ w'.cell? ⟨g, 0, none⟩ = some (.int .i64 R.kind) ∧ w'.cell? ⟨g, 1, none⟩ = some (.int .i64 R.index) ∧ w'.cell? ⟨g, 2, none⟩ = some (.int .i64 R.term) ∧ w'.cell? ⟨g, 3, none⟩ = some (.string R.data)) (first | (with_reducible assumption) | (refine ⟨?_, ?_, ?_, ?_, ?_⟩ <;> with_reducible assumption) | go_keep)
          (first | (go_at_call 64; refine HCW.out.mono ?_; rintro e w2 ⟨rfl, X2, hb2, hk2⟩; have N2 : RecB w2 g R := Nk.keep hk2 (.inr rfl); have S2 : StB w2 b B L := Sk.keep hk2 (.inl hE); obtain ⟨⟨m0, m1, m2, m3⟩, _⟩ := N2.cells; obtain ⟨⟨q0, q1, q2, q3, q4⟩, _⟩ := S2.cells))
        have B2 : Below n w w2 := Bk.drew.trans hb2
        have K2 : Kept E w w2 := Kk.trans (hk2.mono (fun k hk => .inl hk))
        have hn2 : n ≤ w2.heap.size := Nat.le_trans hnk hb2.size
        clear Xk Nk Sk Bk Kk hb2 hk2 t0 t1 t2 t3 t4 f1 f2 f3 f4 n0 n1 n2 n3
        by_cases hx : X.1 = 0
        · have e0 : (X.1 == 0) = true := by simpa using hx
          have HFL := Lib.hid (devw_flush hn2 (by have := HSW.out; have := HWR.out; omega) X2)
          rw [← HO2.out hx] at HFL
          go_wp2_with fail
          refine HFL.out.mono ?_
          rintro e w3 ⟨rfl, X3, hb3, hk3⟩
          have N3 : RecB w3 g R := N2.keep hk3 (.inr rfl)
          have S3 : StB w3 b B L := S2.keep hk3 (.inl hE)
          have B3 := B2.trans hb3
          have K3 : Kept E w w3 := K2.trans (hk3.mono (fun k hk => .inl hk))
          have hn3 : n ≤ w3.heap.size := Nat.le_trans hn2 hb3.size
          clear X2 N2 S2 B2 K2 hb3 hk3 m0 m1 m2 m3 q0 q1 q2 q3 q4 HFL
          by_cases ho : O.1 = 0
          · have e1 : (O.1 == 0) = true := by simpa using ho
            have HON := Lib.hid (HO.out.2 ho)
            have hlt' : (k : Int) < 2 := by omega
            clear HO HO1 HO2 ho hx
            go_wp2_with fail
            go_roundw
            case rel => exact ⟨k + 1, O.2, by omega, by go_num, X3, N3, S3, B3, K3, hn3, by show O.2.writes ≤ _; have := HOW.out; have := HWR.out; omega, HON.out⟩
            case measure => simp [intOf]; omega
          · have e1 : (O.1 == 0) = false := by simpa using ho
            have HV1 := Lib.hid (HO.out.1 ho)
            have HLL := Lib.hid (lastL_not (r := R) (L := L) ho)
            clear HO HO1 HO2 ho hx
            go_wp2_with fail
            go_ret
            exact ⟨by rw [HV1.out]; rfl, by rw [HV1.out]; exact X3.less (fun k hk => .inl hk), B3, by rw [HV1.out, HLL.out]; exact S3, K3.mono (fun k hk => hk.1)⟩
        · have e0 : (X.1 == 0) = false := by simpa using hx
          have HOX : Hid (O = X) := HO1.out hx
          have HV1 : Hid (V = X) := by show V = X; rw [← HOX.out]; exact HO.out.1 (by rw [HOX.out]; exact hx)
          have HLL := Lib.hid (lastL_not (r := R) (L := L) hx)
          clear HO HO1 HO2 hx HOX
          go_wp2_with fail
          go_ret
          exact ⟨by rw [HV1.out]; rfl, by rw [HV1.out]; exact X2.less (fun k hk => .inl hk), B2, by rw [HV1.out, HLL.out]; exact S2, K2.mono (fun k hk => hk.1)⟩
      · obtain rfl : k = 2 := by omega
        have HKV := Lib.hid (HK.out.2.2 rfl)
        obtain ⟨⟨n0, n1, n2, n3⟩, _⟩ := Nk.cells
        obtain ⟨⟨t0, t1, t2, t3, t4⟩, f1, f2, f3, f4⟩ := Sk.cells
        have HLL := Lib.hid (lastL_zero (r := R) (L := L) HKV.out.1)
        have XS := (Xk.less (F := E) (fun k hk => .inl hk)).set hE R
        have SS := Sk.set R
        have BS := below_st Bk hnb R
        have KS := Kk.set (b := b) R
        unfold setSt at XS SS BS KS
        clear HK Xk Nk Sk Bk Kk
        go_wp2_with fail
        go_ret
        exact ⟨by rw [HKV.out.1]; rfl, by rw [← HKV.out.2]; exact XS, BS, by rw [HLL.out]; exact SS, KS⟩

set_option maxHeartbeats 4000000 in
theorem hPut_any {n : Nat} {E : Nat → Prop} {w : World} {B : Nat} {D : Dv} (b : Nat) (L : Rc) (h : Hd) (hW : DevW n E w B D) (hs : StB w b B L) (hE : E b) (hn : n ≤ w.heap.size) (hnb : n ≤ b)
    (hT : ∀ x, Below n w x → Tabs x) (hw : D.writes ≤ 1073741822) (hv : h.Ok) (hL : -1 ≤ L.index ∧ L.index ≤ 281474976710654) :
    Calls Tryd.prog 11 #[.pointer (some ⟨b, 0, none⟩), headV h] w fun e w' => e = .returned (.int .i64 (D.two 0 (copyR h (L.index + 1))).1) ∧ DevW n E w' B (D.two 0 (copyR h (L.index + 1))).2 ∧ Below n w w' ∧
      StB w' b B (lastL (D.two 0 (copyR h (L.index + 1))).1 (copyR h (L.index + 1)) L) ∧ Kept (fun k => E k ∧ k ≠ b) w w' := by
  have n0 := HdB.new w h
  have b0 := (Below.refl _ w).alloc (Nat.le_refl _) (.cells #[.int .i64 h.term, .int .i64 h.vote, .int .i64 h.first, .int .i64 h.base] 23)
  have s0 := hs.below b0
  have HP := Lib.hid (hput_any b 0 L h (hW.below b0) s0 hE (Nat.le_trans hn b0.size) hnb (fun x hx => hT x ((b0.mono hn).trans hx)) hw (.inl rfl) hv hL)
  have K0 : Kept E w (w.alloc (.cells #[.int .i64 h.term, .int .i64 h.vote, .int .i64 h.first, .int .i64 h.base] 23)) := fun k hk => b0.block k (hW.lt k hk)
  obtain ⟨⟨c0, c1, c2, c3⟩, _⟩ := n0.cells
  have B0 := b0.mono hn
  clear n0 b0 s0 hW hs hT hv hL
  generalize copyR h (L.index + 1) = R at *
  generalize D.two 0 R = V at *
  unfold headV at *
  go_enter Tryd.func11, Tryd.ntmps11
  go_wp2_with fail
  refine HP.out.mono ?_
  rintro e w1 ⟨rfl, X1, B1, S1, K1⟩
  go_wp2_with fail
  go_ret
  exact ⟨rfl, X1, B0.trans B1, S1, (K0.mono (fun k hk => hk.1)).trans K1⟩
end
section
open Go.RowKit
set_option linter.unusedVariables false
set_option maxRecDepth 100000

open Classical in
/-- What Scrub answers: the error, the device, and what the store keeps. -/
noncomputable def Dv.scrub (D : Dv) (L : Rc) : Int × Dv × Rc :=
  if (D.sread 0).2.2 ≠ 0 then ((D.sread 0).2.2, D, L) else if (D.sread 1).2.2 ≠ 0 then ((D.sread 1).2.2, D, L)
  else if L = rc0 ∨ ((D.sread 0).1 = L ∧ (D.sread 1).1 = L) then (0, D, L)
  else if (D.sread 0).1 = L then ((D.two 1 (copyR (headL L) (L.index + 1))).1, (D.two 1 (copyR (headL L) (L.index + 1))).2, lastL (D.two 1 (copyR (headL L) (L.index + 1))).1 (copyR (headL L) (L.index + 1)) L)
  else ((D.two 0 (copyR (headL L) (L.index + 1))).1, (D.two 0 (copyR (headL L) (L.index + 1))).2, lastL (D.two 0 (copyR (headL L) (L.index + 1))).1 (copyR (headL L) (L.index + 1)) L)
theorem scrub_e0 {D : Dv} {L : Rc} (h : (D.sread 0).2.2 ≠ 0) : D.scrub L = ((D.sread 0).2.2, D, L) := by unfold Dv.scrub; rw [if_pos h]
theorem scrub_e1 {D : Dv} {L : Rc} (h0 : (D.sread 0).2.2 = 0) (h : (D.sread 1).2.2 ≠ 0) : D.scrub L = ((D.sread 1).2.2, D, L) := by unfold Dv.scrub; rw [if_neg (by simp [h0]), if_pos h]
theorem scrub_same {D : Dv} {L : Rc} (h0 : (D.sread 0).2.2 = 0) (h1 : (D.sread 1).2.2 = 0) (h : L = rc0 ∨ ((D.sread 0).1 = L ∧ (D.sread 1).1 = L)) : D.scrub L = (0, D, L) := by unfold Dv.scrub; rw [if_neg (by simp [h0]), if_neg (by simp [h1]), if_pos h]
theorem scrub_one {D : Dv} {L : Rc} (h0 : (D.sread 0).2.2 = 0) (h1 : (D.sread 1).2.2 = 0) (h : ¬ (L = rc0 ∨ ((D.sread 0).1 = L ∧ (D.sread 1).1 = L))) (hr : (D.sread 0).1 = L) :
    D.scrub L = ((D.two 1 (copyR (headL L) (L.index + 1))).1, (D.two 1 (copyR (headL L) (L.index + 1))).2, lastL (D.two 1 (copyR (headL L) (L.index + 1))).1 (copyR (headL L) (L.index + 1)) L) := by unfold Dv.scrub; rw [if_neg (by simp [h0]), if_neg (by simp [h1]), if_neg h, if_pos hr]
theorem scrub_zero {D : Dv} {L : Rc} (h0 : (D.sread 0).2.2 = 0) (h1 : (D.sread 1).2.2 = 0) (h : ¬ (L = rc0 ∨ ((D.sread 0).1 = L ∧ (D.sread 1).1 = L))) (hr : ¬ (D.sread 0).1 = L) :
    D.scrub L = ((D.two 0 (copyR (headL L) (L.index + 1))).1, (D.two 0 (copyR (headL L) (L.index + 1))).2, lastL (D.two 0 (copyR (headL L) (L.index + 1))).1 (copyR (headL L) (L.index + 1)) L) := by unfold Dv.scrub; rw [if_neg (by simp [h0]), if_neg (by simp [h1]), if_neg h, if_neg hr]

/-- Two truths in an array. -/
def BrB (w : World) (b : Nat) (x y : Bool) : Prop := w.heap[b]? = some (.cells #[.bool x, .bool y] 92 (0, 0))
theorem BrB.lt {w : World} {b : Nat} {x y : Bool} (h : BrB w b x y) : b < w.heap.size := lt_of_block h
theorem BrB.below {w w' : World} {b : Nat} {x y : Bool} (h : BrB w b x y) (k : Below w.heap.size w w') : BrB w' b x y := (k.block b h.lt).trans h
theorem BrB.new (w : World) (x y : Bool) : BrB (w.alloc (.cells #[.bool x, .bool y] 92)) w.heap.size x y := heap_alloc_new w _
theorem BrB.set0 {w : World} {b : Nat} {x y : Bool} (h : BrB w b x y) (z : Bool) : BrB (w.setCell ⟨b, 0, none⟩ (.bool z)) b z y := block_setCell (i := 0) h
theorem BrB.set1 {w : World} {b : Nat} {x y : Bool} (h : BrB w b x y) (z : Bool) : BrB (w.setCell ⟨b, 1, none⟩ (.bool z)) b x z := block_setCell (i := 1) h
theorem BrB.at {w : World} {b : Nat} {x y : Bool} (h : BrB w b x y) (k : Nat) (hk : k < 2) (z : Bool) :
    ∃ x' y' : Bool, BrB (w.setCell ⟨b, k, none⟩ (.bool z)) b x' y' ∧ (k = 0 → x' = z) ∧ (k = 1 → x' = x ∧ y' = z) ∧ (w.cell? ⟨b, k, none⟩ = some (.bool (if k = 0 then x else y))) ∧ w.frozen? ⟨b, k, none⟩ = false := by
  obtain rfl | rfl : k = 0 ∨ k = 1 := by omega
  · exact ⟨z, y, h.set0 z, fun _ => rfl, fun e => by omega, cell_of h rfl, free_of h⟩
  · exact ⟨x, z, h.set1 z, fun e => by omega, fun _ => ⟨rfl, rfl⟩, cell_of h rfl, free_of h⟩

set_option maxHeartbeats 4000000 in
theorem hscrub_any {n : Nat} {E : Nat → Prop} {w : World} {B : Nat} {D : Dv} (b : Nat) (L : Rc) (hW : DevW n E w B D) (hs : StB w b B L) (hE : E b) (hn : n ≤ w.heap.size) (hnb : n ≤ b)
    (hT : ∀ x, Below n w x → Tabs x) (hw : D.writes ≤ 1073741822) (hv : L = rc0 ∨ (headL L).Ok) (hL : -1 ≤ L.index ∧ L.index ≤ 281474976710654) (hls : L.data.size ≤ 140737488355328) :
    Calls Tryd.prog 16 #[.pointer (some ⟨b, 0, none⟩)] w fun e w' => e = .returned (.int .i64 (D.scrub L).1) ∧ DevW n E w' B (D.scrub L).2.1 ∧ Below n w w' ∧
      StB w' b B (D.scrub L).2.2 ∧ Kept (fun k => E k ∧ k ≠ b) w w' := by
  obtain ⟨V, hV⟩ : ∃ V, V = D.scrub L := ⟨_, rfl⟩
  rw [← hV]
  have HVD := Lib.hid hV
  have HW := Lib.hid hW
  have HSB := Lib.hid hs
  have HTT := Lib.hid hT
  have HOK := Lib.hid hv
  have HLI := Lib.hid hL
  have hnE := hE
  have HSR := Lib.hid (fun (i : Nat) (W : World) (hb : Below w.heap.size w W) => devw_sread (i : Int) (hT _ (hb.mono hn)) (Nat.le_trans hw (by decide)) (hW.below hb))
  have hblt := hs.lt
  have a0 := BrB.new w false false
  have b0 := (Below.refl _ w).alloc (Nat.le_refl _) (.cells #[.bool false, .bool false] 92)
  clear hV hW hs hT hv hL
  obtain ⟨w1, hw1⟩ : ∃ w1, w1 = w.alloc (.cells #[.bool false, .bool false] 92) := ⟨_, rfl⟩
  rw [← hw1] at a0 b0
  go_enter Tryd.func16, Tryd.ntmps16
  go_wp2_with fail
  rw [← hw1]
  clear hw1
  go_loopw [11] (fun i wr => ∃ (k : Nat) (x y : Bool), k ≤ 2 ∧ i = .int .i64 k ∧ BrB wr w.heap.size x y ∧ Below w.heap.size w wr ∧ Hid ((k ≠ 0 → (D.sread 0).2.2 = 0 ∧ (x = true ↔ (D.sread 0).1 = L)) ∧ (k = 2 → (D.sread 1).2.2 = 0 ∧ (y = true ↔ (D.sread 1).1 = L)))) (fun i _ => 2 - (intOf i).toNat)
  case atStart => exact ⟨0, false, false, by omega, rfl, a0, b0, ⟨fun h => (h rfl).elim, fun h => by omega⟩⟩
  case round =>
    obtain ⟨k, x, y, hk, rfl, ak, bk, HK⟩ := hrel
    clear a0 b0
    by_cases hlt : k < 2
    · have HSR1 := Lib.hid (HSR.out k wr bk)
      have HE : Hid ((D.sread (k : Int)).2.2 ≠ 0 → V = ((D.sread (k : Int)).2.2, D, L)) := fun hne => by
        rw [HVD.out]
        obtain rfl | rfl : k = 0 ∨ k = 1 := by omega
        · exact scrub_e0 hne
        · exact scrub_e1 (HK.out.1 (by decide)).1 hne
      have HK2 : Hid (∀ x' y' z : Bool, (k = 0 → x' = z) → (k = 1 → x' = x ∧ y' = z) → (z = true ↔ (D.sread (k : Int)).1 = L) → (D.sread (k : Int)).2.2 = 0 → Hid ((k + 1 ≠ 0 → (D.sread 0).2.2 = 0 ∧ (x' = true ↔ (D.sread 0).1 = L)) ∧ (k + 1 = 2 → (D.sread 1).2.2 = 0 ∧ (y' = true ↔ (D.sread 1).1 = L)))) := fun x' y' z h0 h1 hz he => by
        obtain rfl | rfl : k = 0 ∨ k = 1 := by omega
        · obtain rfl := h0 rfl
          exact ⟨fun _ => ⟨he, hz⟩, fun h => by omega⟩
        · obtain ⟨rfl, rfl⟩ := h1 rfl
          exact ⟨fun _ => HK.out.1 (by decide), fun _ => ⟨he, hz⟩⟩
      clear HK
      generalize D.sread (k : Int) = X at HSR1 HE HK2
      obtain ⟨r, st, er⟩ := X
      simp only at HE HK2
      unfold sreadV recV at HSR1
      simp only at HSR1
      have Sk := HSB.out.below bk
      obtain ⟨⟨t0, t1, t2, t3, t4⟩, f1, f2, f3, f4⟩ := Sk.cells
      go_wp2_with fail
      refine HSR1.out.mono ?_
      rintro e w2 ⟨rfl, hb2⟩
      have b3 := (Below.refl w2.heap.size w2).alloc (Nat.le_refl _) (.cells #[.int .i64 r.kind, .int .i64 r.index, .int .i64 r.term, .string r.data] 72)
      have N3 := RecB.new w2 r
      have a3 := (ak.below hb2).below b3
      have B3 := (bk.trans (hb2.mono bk.size)).trans (b3.mono (bk.trans (hb2.mono bk.size)).size)
      have hlt2 : w.heap.size < w2.heap.size := (ak.below hb2).lt
      clear HSR1 hb2 ak b3 Sk t0 t1 t2 t3 t4 f1 f2 f3 f4
      by_cases he : er = 0
      · subst he
        obtain ⟨z, hz⟩ : ∃ z : Bool, z = true ↔ r = L := by
          by_cases h : r = L
          · exact ⟨true, by simp [h]⟩
          · exact ⟨false, by simp [h]⟩
        obtain ⟨x', y', hset, hx', hy', hc, hf⟩ := BrB.at a3 k hlt z
        have hlt' : (k : Int) < 2 := by omega
        have HY := Lib.hid (HK2.out x' y' z hx' hy' hz rfl)
        have heq := eq_rec r L z hz
        unfold recV at heq
        clear HK2 HE
        have S3 := HSB.out.below B3
        obtain ⟨⟨n0, n1, n2, n3⟩, _⟩ := N3.cells
        obtain ⟨⟨t0, t1, t2, t3, t4⟩, f1, f2, f3, f4⟩ := S3.cells
        have B4 := B3.setCell (p := ⟨w.heap.size, k, none⟩) (Nat.le_refl _) (.bool z)
        clear hx' hy' hz
        generalize hw4 : w2.alloc (.cells #[.int .i64 r.kind, .int .i64 r.index, .int .i64 r.term, .string r.data] 72) = w4 at *
        have u1 : ¬ w.heap.size = w2.heap.size := Nat.ne_of_lt hlt2
        have u2 : ¬ w2.heap.size = w.heap.size := Nat.ne_of_gt hlt2
        have u3 : ¬ b = w.heap.size := Nat.ne_of_lt hblt
        have u4 : ¬ w.heap.size = b := Nat.ne_of_gt hblt
        go_wp2_with fail
        go_region_held3 (fun w' => w'.cell? ⟨w2.heap.size, 0, none⟩ = some (.int .i64 r.kind) ∧ w'.cell? ⟨w2.heap.size, 1, none⟩ = some (.int .i64 r.index) ∧ w'.cell? ⟨w2.heap.size, 2, none⟩ = some (.int .i64 r.term) ∧ w'.cell? ⟨w2.heap.size, 3, none⟩ = some (.string r.data) ∧ w'.cell? ⟨b, 1, none⟩ = some (.int .i64 L.kind) ∧ w'.cell? ⟨b, 2, none⟩ = some (.int .i64 L.index) ∧ w'.cell? ⟨b, 3, none⟩ = some (.int .i64 L.term) ∧ w'.cell? ⟨b, 4, none⟩ = some (.string L.data)) (first | (with_reducible assumption) | go_keep) (fail)
        go_wp2_with fail
        go_roundw
        case rel => exact ⟨k + 1, x', y', by omega, by go_num, hset, B4.drew, HY.out⟩
        case measure => simp [intOf]; omega
      · have e1 : (er == 0) = false := by simpa using he
        have HV := Lib.hid (HE.out he)
        have S3 := HSB.out.below B3
        have X3 := HW.out.below B3
        have K3 : Kept E w _ := fun k hk => B3.block k (HW.out.lt k hk)
        clear HE HK2
        go_wp2_with fail
        go_ret
        exact ⟨by rw [HV.out]; rfl, by rw [HV.out]; exact X3, B3.mono hn, by rw [HV.out]; exact S3, K3.mono (fun k hk => hk.1)⟩
    · obtain rfl : k = 2 := by omega
      have HR0 := Lib.hid (HK.out.1 (by decide)).1
      have HR1 := Lib.hid (HK.out.2 rfl).1
      have hx := (HK.out.1 (by decide)).2
      have hy := (HK.out.2 rfl).2
      have Sk := HSB.out.below bk
      have Xk := HW.out.below bk
      have Kk : Kept E w wr := fun k hk => bk.block k (HW.out.lt k hk)
      have hnw : n ≤ wr.heap.size := Nat.le_trans hn bk.size
      have c0 : wr.cell? ⟨w.heap.size, 0, none⟩ = some (.bool x) := cell_of ak rfl
      have c1 : wr.cell? ⟨w.heap.size, 1, none⟩ = some (.bool y) := cell_of ak rfl
      clear HSR HK
      by_cases hL0 : L = rc0
      · have HV := Lib.hid (show V = (0, D, L) by rw [HVD.out]; exact scrub_same HR0.out HR1.out (.inl hL0))
        have HFR := Lib.hid (fresh_any b B L wr Sk true (by simpa using hL0))
        clear hx hy HVD HR0 HR1
        go_wp2_with (go_at_call 34; refine HFR.out.mono ?_; rintro e w' ⟨rfl, rfl⟩)
        go_ret
        exact ⟨by rw [HV.out]; rfl, by rw [HV.out]; exact Xk, bk.mono hn, by rw [HV.out]; exact Sk, Kk.mono (fun k hk => hk.1)⟩
      · cases x with
        | true =>
          cases y with
          | true =>
            have HV := Lib.hid (show V = (0, D, L) by rw [HVD.out]; exact scrub_same HR0.out HR1.out (.inr ⟨hx.1 rfl, hy.1 rfl⟩))
            have HFR := Lib.hid (fresh_any b B L wr Sk false (by simpa using hL0))
            clear hx hy HVD HR0 HR1
            go_wp2_with (go_at_call 34; refine HFR.out.mono ?_; rintro e w' ⟨rfl, rfl⟩)
            go_ret
            exact ⟨by rw [HV.out]; rfl, by rw [HV.out]; exact Xk, bk.mono hn, by rw [HV.out]; exact Sk, Kk.mono (fun k hk => hk.1)⟩
          | false =>
            have HX := Lib.hid (hx.1 rfl)
            have HNB := Lib.hid (show ¬ (L = rc0 ∨ ((D.sread 0).1 = L ∧ (D.sread 1).1 = L)) from fun h => h.elim hL0 (fun h => by have := hy.2 h.2; simp at this))
            have HV := Lib.hid (HVD.out.trans (scrub_one HR0.out HR1.out HNB.out HX.out))
            have HFR := Lib.hid (fresh_any b B L wr Sk false (by simpa using hL0))
            have HH := Lib.hid (head_any b B L wr Sk hls)
            have HP := Lib.hid (fun (W : World) (hb : Below wr.heap.size wr W) => hput_any (w := W) b 1 L (headL L) (Xk.below hb) (Sk.below hb) hE (Nat.le_trans hnw hb.size) hnb (fun x hx => HTT.out x (((bk.mono hn).trans (hb.mono hnw)).trans hx)) hw (.inr rfl) (HOK.out.resolve_left hL0) HLI.out)
            clear HNB HR0 HR1 hx hy HVD ak Xk Sk
            generalize headL L = hh at *
            generalize copyR hh (L.index + 1) = R at *
            generalize D.two 1 R = T at *
            unfold headV at HH HP
            go_wp2_with (go_at_call 34; refine HFR.out.mono ?_; rintro e w' ⟨rfl, rfl⟩)
            refine HH.out.mono ?_
            rintro e w2 ⟨rfl, hb2⟩
            have HP2 := Lib.hid (HP.out w2 hb2)
            go_wp2_with fail
            refine HP2.out.mono ?_
            rintro e w3 ⟨rfl, X3, B3, S3, K3⟩
            have K2 : Kept E wr w2 := fun k hk => hb2.block k (Nat.lt_of_lt_of_le (HW.out.lt k hk) bk.size)
            go_wp2_with fail
            go_ret
            exact ⟨by rw [HV.out]; rfl, by rw [HV.out]; exact X3, ((bk.mono hn).trans (hb2.mono hnw)).trans B3, by rw [HV.out]; exact S3, ((Kk.trans K2).mono (fun k hk => hk.1)).trans K3⟩
        | false =>
          have HX := Lib.hid (show ¬ (D.sread 0).1 = L from fun h => by have := hx.2 h; simp at this)
          have HNB := Lib.hid (show ¬ (L = rc0 ∨ ((D.sread 0).1 = L ∧ (D.sread 1).1 = L)) from fun h => h.elim hL0 (fun h => HX.out h.1))
          have HV := Lib.hid (HVD.out.trans (scrub_zero HR0.out HR1.out HNB.out HX.out))
          have HFR := Lib.hid (fresh_any b B L wr Sk false (by simpa using hL0))
          have HH := Lib.hid (head_any b B L wr Sk hls)
          have HP := Lib.hid (fun (W : World) (hb : Below wr.heap.size wr W) => hput_any (w := W) b 0 L (headL L) (Xk.below hb) (Sk.below hb) hE (Nat.le_trans hnw hb.size) hnb (fun x hx => HTT.out x (((bk.mono hn).trans (hb.mono hnw)).trans hx)) hw (.inl rfl) (HOK.out.resolve_left hL0) HLI.out)
          clear HNB HR0 HR1 hx hy HVD ak Xk Sk
          generalize headL L = hh at *
          generalize copyR hh (L.index + 1) = R at *
          generalize D.two 0 R = T at *
          unfold headV at HH HP
          go_wp2_with (go_at_call 34; refine HFR.out.mono ?_; rintro e w' ⟨rfl, rfl⟩)
          refine HH.out.mono ?_
          rintro e w2 ⟨rfl, hb2⟩
          have HP2 := Lib.hid (HP.out w2 hb2)
          go_wp2_with fail
          refine HP2.out.mono ?_
          rintro e w3 ⟨rfl, X3, B3, S3, K3⟩
          have K2 : Kept E wr w2 := fun k hk => hb2.block k (Nat.lt_of_lt_of_le (HW.out.lt k hk) bk.size)
          go_wp2_with fail
          go_ret
          exact ⟨by rw [HV.out]; rfl, by rw [HV.out]; exact X3, ((bk.mono hn).trans (hb2.mono hnw)).trans B3, by rw [HV.out]; exact S3, ((Kk.trans K2).mono (fun k hk => hk.1)).trans K3⟩
end
end Go.Proofs.YtigebaaldikeaaaDoor
