/- readWatches: the watches from the reader. No conditions beyond those in each statement. -/
import Derived.Test.YtbbdokfankgllaaGreatDoorWRdL
namespace Go.Proofs.YtbbdokfankgllaaGreatDoor
open Go.RowKit Go.Maps
set_option linter.unusedVariables false
set_option linter.unusedSimpArgs false
set_option maxRecDepth 100000

theorem run_loadWa {W : World} {b : Nat} {x : Wa} (h : WaB W b x) : (Instr.loadAt 49 (.pointer (some ⟨b, 0, none⟩))).run Tryz.prog W = .ok (waV x) W := run_lwa W b 0 x (by
  obtain ⟨h0, h1, h2, h3⟩ := h.cells
  exact ⟨h0, h1, h2, h3⟩)
theorem WaB.new (W : World) (x : Wa) : WaB (W.alloc (.cells #[.int .i64 x.ses, .string x.path, .bool x.kids, .bool x.once] 49)) W.heap.size x := heap_alloc_new W _
theorem WaB.frz {w : World} {b : Nat} {x : Wa} (h : WaB w b x) (i : Nat) : w.frozen? ⟨b, i, none⟩ = false := by unfold WaB at h; simp [World.frozen?, h]
theorem storeWa {W : World} {b : Nat} {m : Wa} (h : WaB W b m) (n : Wa) : ∃ W', (Instr.storeAt 49 (.pointer (some ⟨b, 0, none⟩)) (waV n)).run Tryz.prog W = .ok () W' ∧ WaB W' b n ∧ W.grownBy W' (some b) ∧ W'.heap.size = W.heap.size := by
  obtain ⟨c0, c1, c2, c3⟩ := h.cells
  have f0 := h.frz 0
  have f1 := h.frz 1
  have f2 := h.frz 2
  have f3 := h.frz 3
  have h1 := block_setCell (i := 0) (u := .int .i64 n.ses) h
  have h2 := block_setCell (i := 1) (u := .string n.path) h1
  have h3 := block_setCell (i := 2) (u := .bool n.kids) h2
  have h4 := block_setCell (i := 3) (u := .bool n.once) h3
  refine ⟨(((W.setCell ⟨b, 0, none⟩ (.int .i64 n.ses)).setCell ⟨b, 1, none⟩ (.string n.path)).setCell ⟨b, 2, none⟩ (.bool n.kids)).setCell ⟨b, 3, none⟩ (.bool n.once), by simp [go_sem, c0, c1, c2, c3, f0, f1, f2, f3, waV], ?_, ?_, by simp⟩
  · unfold WaB; rw [h4]; simp
  · exact only_trans (only_trans (only_trans (set_grown _ b 0 _) (set_grown _ b 1 _)) (set_grown _ b 2 _)) (set_grown _ b 3 _)
theorem newWa (W : World) (n : Wa) : ∃ W', (Instr.storeAt 49 (.pointer (some ⟨W.heap.size, 0, none⟩)) (waV n)).run Tryz.prog (W.alloc (.cells #[.int .i64 0, .string ⟨#[]⟩, .bool false, .bool false] 49)) = .ok () W' ∧ WaB W' W.heap.size n ∧ Below W.heap.size W W' := by
  obtain ⟨W', h1, h2, h3, h5⟩ := storeWa (WaB.new W waZ) n
  exact ⟨W', h1, h2, ((Below.refl _ W).alloc (Nat.le_refl _) _).grown h3 (by simp) (fun q hq => by cases hq; exact Nat.le_refl _)⟩
theorem BkW.otherW {w w' : World} {base bb lb : Nat} {y : Wa} {vw ve vm : Value} {Ws : List Wa} {Es : List Ev} {k c : Nat} {N : Int → Option Int} (h : BkW w base bb vw ve vm Ws Es k c N) (hb : WaB w lb y) (hne : vw.ownBlock ≠ some lb) (hg : w.grownBy w' (some lb)) : BkW w' base bb vw ve vm Ws Es k c N := by
  refine ⟨(hg.block bb h.lt (fun e => cells_ne h.box hb (by decide) (Option.some.inj e))).trans h.box, h.ws.kept hg (fun g hv e => hne (by rw [hv]; exact e.symm)), h.es.kept hg (fun g hv e => ?_), h.last.imp id ?_, h.lo.1, Nat.le_trans h.lo.2 hg.size⟩
  · obtain ⟨cur, h1, _⟩ := row_own h.es hv
    exact cells_ne h1 hb (by decide) (Option.some.inj e).symm
  · rintro ⟨mb, h1, h2, h3⟩
    exact ⟨mb, h1, h2.keep0 (hg.block mb h2.lt (fun e => map_ne hb h2 (Option.some.inj e).symm)), h3⟩
/-- A row of more than one watch, or of another one, is not a watch's own block. -/
theorem row_notW {w : World} {base lb : Nat} {v : Value} {L : List Wa} {y : Wa} (h : WRow w base v L) (hb : WaB w lb y) (hl : (∃ a b M, L = a :: b :: M) ∨ ∃ x, L = [x] ∧ x.ses ≠ y.ses) : v.ownBlock ≠ some lb := by
  intro hv
  obtain ⟨a, c, rfl, hg, _⟩ := waV_form h
  have h0 : 0 < L.length := by
    rcases hl with ⟨a, b, M, rfl⟩ | ⟨x, rfl, _⟩ <;> simp
  obtain ⟨g, rfl, _, _⟩ := hg h0
  simp [Value.ownBlock] at hv
  subst hv
  rcases hl with ⟨a, b, M, rfl⟩ | ⟨x, rfl, hx⟩
  · have h1 := waC0 h (j := 1) (x := b) rfl rfl
    unfold WaB at hb
    simp [World.cell?, hb] at h1
  · have h1 := waC0 h (j := 0) (x := x) rfl rfl
    have h2 := hb.cells.1
    simp only [Nat.zero_mul] at h1
    rw [h1] at h2
    injection h2 with h2
    injection h2 with _ h2
    exact hx h2
theorem addL_bad {L : List Wa} {x : Wa} (h : addE L x ≠ 0) : addL L x = L := by
  unfold addE at h
  unfold addL
  by_cases hb : badS x = true
  · rw [if_pos hb]
  rw [if_neg hb] at h ⊢
  by_cases hc : checkE x.path.data.toList = 0
  · rw [if_pos hc] at h ⊢
    by_cases hi : isB L x (posF L x) = true
    · rw [if_pos hi]
    · rw [if_neg hi] at h ⊢
      by_cases h4 : 40 ≤ L.length
      · rw [if_pos h4]
      · rw [if_neg h4] at h; exact absurd rfl h
  · rw [if_neg hc]
theorem addE_ses {L : List Wa} {x : Wa} (h : addE L x = 0) : x.ses ≠ 0 := by
  intro e
  have : badS x = true := by unfold badS; rw [e]; decide
  unfold addE at h
  rw [if_pos this] at h
  omega
theorem row_next {w : World} {base lb : Nat} {v : Value} {L : List Wa} {x : Wa} (h : WRow w base v (L ++ [x])) (hb : WaB w lb (lastW L)) (hx : x.ses ≠ 0) : v.ownBlock ≠ some lb := by
  refine row_notW h hb ?_
  match L with
  | [] => exact .inr ⟨x, rfl, hx⟩
  | [a] => exact .inl ⟨a, x, [], rfl⟩
  | a :: b :: M => exact .inl ⟨a, b, M ++ [x], rfl⟩
theorem text60_rs (rb : Nat) (s : RS) (W : World) (hW : Rs W rb s) : Calls Tryz.prog 60 #[.pointer (some ⟨rb, 0, none⟩), .int .i64 60] W fun e w' => e = .returned (.string (bs (textF 60 s).1)) ∧ Rs w' rb (textF 60 s).2 ∧ W.grownBy w' (some rb) := text_rs rb 60 s W hW
set_option maxHeartbeats 8000000 in
theorem rwatches_any (base bb rb : Nat) (ve vm : Value) (Es : List Ev) (k c : Nat) (N : Int → Option Int) (st : RS) (w : World) (h : BkW w base bb (.slice none 0 0) ve vm [] Es k c N) (hr : Rs w rb st) (hrb : rb < base) :
    Calls Tryz.prog 32 #[.pointer (some ⟨bb, 0, none⟩), .pointer (some ⟨rb, 0, none⟩)] w fun e w' => e = .returned (.tuple #[]) ∧ ∃ vw, BkW w' base bb vw ve vm (readWs st).L Es k c N ∧ Rs w' rb (readWs st).st ∧ LowR base rb w w' ∧ (readWs st).L.length ≤ 40 := by
  have hlo := h.lo.2
  obtain ⟨n, s0, hn⟩ : ∃ a b, numF 6 40 st = (a, b) := ⟨_, _, rfl⟩
  have hnb := numF_most st 40 (by decide)
  rw [hn] at hnb
  simp only at hnb
  obtain ⟨m, rfl⟩ := Int.eq_ofNat_of_zero_le hnb.1
  have hm : m ≤ 40 := by omega
  have HEND : Hid (readWs st = rdWs m [] s0) := Lib.hid (by unfold readWs; rw [hn]; rfl)
  have b1 := (Below.refl w.heap.size w).alloc (Nat.le_refl _) (.cells #[.int .i64 0, .string ⟨#[]⟩, .bool false, .bool false] 49)
  have HW1 := Lib.hid (WaB.new w waZ)
  have hszA : w.heap.size + 1 = (w.alloc (.cells #[.int .i64 0, .string ⟨#[]⟩, .bool false, .bool false] 49)).heap.size := by simp
  have HH := Lib.hid (h.below b1)
  have HR1 := hr.below b1
  have HG1 := Lib.hid ((LowR.refl base rb w).low (b1.mono hlo))
  have HNM := Lib.hid (num_rs rb 40 st _ HR1)
  rw [show max (40 : Int) 0 = 40 by decide, hn] at HNM
  have hlr : rb ≠ w.heap.size := by omega
  clear hn hnb h hr HR1
  have HSZ := Lib.hid hszA
  clear hszA b1
  go_enter Tryz.func32, Tryz.ntmps32
  go_wp2_with fail
  refine HNM.out.mono ?_
  rintro e w2 ⟨rfl, R2, g2⟩
  have H2 := Lib.hid (HH.out.reader g2 hrb)
  have HR2 := Lib.hid R2
  have HG2 := Lib.hid (HG1.out.grown g2 hlo)
  have HW2 : Hid (WaB w2 w.heap.size (lastW [])) := Lib.hid ((g2.block _ HW1.out.lt (fun e => hlr (Option.some.inj e).symm)).trans HW1.out)
  clear R2 g2 HH HNM HG1 HW1 HSZ
  go_wp2_with fail
  go_loopw [8] (fun iv wr => ∃ (j : Nat) (vw : Value) (L : List Wa) (S : RS), j ≤ m ∧ iv = .int .i64 j ∧ L.length ≤ j ∧ Hid (BkW wr base bb vw ve vm L Es k c N) ∧ Hid (vw.ownBlock ≠ some w.heap.size) ∧ Hid (WaB wr w.heap.size (lastW L)) ∧ Hid (Rs wr rb S) ∧ Hid (WsOk L) ∧ Hid (readWs st = rdWs (m - j) L S) ∧ Hid (LowR base rb w wr)) (fun iv _ => m - (intOf iv).toNat)
  case atStart => exact ⟨0, _, [], s0, by omega, rfl, by simp, H2, Lib.hid (by simp [Value.ownBlock]), HW2, HR2, Lib.hid WsOk.nil, HEND, HG2⟩
  case round =>
    obtain ⟨j, vw, L, S, hj, rfl, hLj, HB, HNE, HW, HR, HO, HEQ, HG⟩ := hrel
    clear H2 HR2 HG2 HEND HW2
    by_cases hlt : j < m
    · have hlt2 : decide ((j : Int) < (m : Int)) = true := by simp; omega
      have t2 : IntKind.i64.wrap ((j : Int) + 1) = (j : Int) + 1 := IntWalk.i64_in _ (by omega)
      obtain ⟨q, hq⟩ : ∃ q, m - j = q + 1 := ⟨m - j - 1, by omega⟩
      rw [hq] at HEQ
      have HOK := Lib.hid (rdWa_ok S)
      have HGD := Lib.hid (@rdWs_good q L S)
      have HBD := Lib.hid (@rdWs_bad q L S)
      have HNA := Lib.hid (numS_rs rb S wr HR.out)
      obtain ⟨a, S1, ha⟩ : ∃ a b, numS S = (a, b) := ⟨_, _, rfl⟩
      obtain ⟨p, S2, hp⟩ : ∃ a b, textF 60 S1 = (a, b) := ⟨_, _, rfl⟩
      obtain ⟨f, S3, hf⟩ : ∃ a b, flagF S2 = (a, b) := ⟨_, _, rfl⟩
      obtain ⟨o, S4, ho⟩ : ∃ a b, flagF S3 = (a, b) := ⟨_, _, rfl⟩
      have hrd : rdWa S = (⟨a, bs p, f, o⟩, S4) := by unfold rdWa; simp only [ha, hp, hf, ho]
      rw [ha] at HNA
      have HNB : Hid (∀ W : World, Rs W rb S1 → Calls Tryz.prog 60 #[.pointer (some ⟨rb, 0, none⟩), .int .i64 60] W fun e w' => e = .returned (.string (bs p)) ∧ Rs w' rb S2 ∧ W.grownBy w' (some rb)) := Lib.hid (fun W hW => by have := text60_rs rb S1 W hW; rw [hp] at this; exact this)
      have HNC : Hid (∀ W : World, Rs W rb S2 → Calls Tryz.prog 61 #[.pointer (some ⟨rb, 0, none⟩)] W fun e w' => e = .returned (.bool f) ∧ Rs w' rb S3 ∧ W.grownBy w' (some rb)) := Lib.hid (fun W hW => by have := flag_rs rb S2 W hW; rw [hf] at this; exact this)
      have HND : Hid (∀ W : World, Rs W rb S3 → Calls Tryz.prog 61 #[.pointer (some ⟨rb, 0, none⟩)] W fun e w' => e = .returned (.bool o) ∧ Rs w' rb S4 ∧ W.grownBy w' (some rb)) := Lib.hid (fun W hW => by have := flag_rs rb S3 W hW; rw [ho] at this; exact this)
      rw [hrd] at HGD HBD HOK
      simp only at HNA HGD HBD HOK
      obtain ⟨x, hx⟩ : ∃ x : Wa, x = ⟨a, bs p, f, o⟩ := ⟨_, rfl⟩
      rw [← hx] at HGD HBD HOK
      have HX := Lib.hid hx
      clear ha hp hf ho hrd hx
      go_wp2_with fail
      refine HNA.out.mono ?_
      rintro e w3 ⟨rfl, R3, g3⟩
      go_wp2_with fail
      refine (HNB.out _ R3).mono ?_
      rintro e w4 ⟨rfl, R4, g4⟩
      replace g3 := only_trans g3 g4
      clear g4 R3
      go_wp2_with fail
      refine (HNC.out _ R4).mono ?_
      rintro e w5 ⟨rfl, R5, g4⟩
      replace g3 := only_trans g3 g4
      clear g4 R4
      go_wp2_with fail
      refine (HND.out _ R5).mono ?_
      rintro e w6 ⟨rfl, R6, g4⟩
      replace g3 := only_trans g3 g4
      clear g4 R5
      obtain ⟨w7, hst, N7, b7⟩ := newWa w6 x
      have K7 := (HB.out.reader g3 hrb).below b7
      have G7 := (HG.out.grown g3 hlo).low (b7.mono (Nat.le_trans hlo (HG.out.grown g3 hlo).size))
      have W7 : WaB w7 w.heap.size (lastW L) := WaB.below ((g3.block _ HW.out.lt (fun e => hlr (Option.some.inj e).symm)).trans HW.out) b7
      have R7 := R6.below b7
      have hxb : ∀ g, vw.ownBlock = some g → g ≠ w6.heap.size := fun g hg e => by
        obtain ⟨cur, h1, _⟩ := row_own (HB.out.reader g3 hrb).ws hg
        have := (Array.getElem?_eq_some_iff.1 h1).1
        omega
      have hlx : w.heap.size ≠ w6.heap.size := by
        have := HW.out.lt
        have := g3.size
        omega
      rw [HX.out] at hst
      unfold waV at hst
      simp only at hst
      have HST := Lib.hid hst
      have HL1 := Lib.hid (run_loadWa W7)
      have HL2 := Lib.hid (run_loadWa N7)
      have HK7 := Lib.hid K7
      have HG7 := Lib.hid G7
      have HW7 := Lib.hid W7
      have HR7 := Lib.hid R7
      have HN7 := Lib.hid N7
      have HXB := Lib.hid hxb
      clear hst W7 N7 b7 K7 G7 R7 R6 g3 HNA HNB HNC HND HB HW HR HG hxb
      have HOD := Lib.hid (order_any (lastW L) x w7)
      obtain ⟨z, hz⟩ : ∃ z, z = orderF (lastW L) x := ⟨_, rfl⟩
      rw [← hz] at HOD
      have HZ := Lib.hid hz
      clear hz
      by_cases hzz : z < 0
      · have hz2 : decide (0 ≤ z) = false := by simp; omega
        go_wp2_with (first | (refine wpList_store_run HST.out rfl rfl rfl rfl ?_) | (refine wpList_load_run HL1.out rfl rfl rfl ?_) | (refine wpList_load_run HL2.out rfl rfl rfl ?_))
        refine HOD.out.mono ?_
        rintro e w8 ⟨rfl, b8⟩
        have R8 := Lib.hid (HR7.out.below b8)
        have K8 := HK7.out.below b8
        have G8 := Lib.hid (HG7.out.low (b8.mono (Nat.le_trans hlo HG7.out.size)))
        have N8 := HN7.out.below b8
        have W8 := HW7.out.below b8
        have HL8 := Lib.hid (run_loadWa N8)
        have HAD := Lib.hid (add_any base bb vw ve vm L Es k c N x w8 K8 HO.out.mono (by omega))
        obtain ⟨ae, hae⟩ : ∃ ae, ae = addE L x := ⟨_, rfl⟩
        rw [← hae] at HAD
        have HAE := Lib.hid hae
        have HN9 : Hid (∀ w9 : World, (∀ b, b < w8.heap.size → vw.ownBlock ≠ some b → b ≠ bb → w9.heap[b]? = w8.heap[b]?) → WaB w9 w6.heap.size x ∧ WaB w9 w.heap.size (lastW L)) := Lib.hid (fun w9 hk => ⟨(hk _ N8.lt (fun e => HXB.out _ e rfl) (fun e => cells_ne N8 K8.box (by decide) e)).trans N8, (hk _ W8.lt HNE.out (fun e => cells_ne W8 K8.box (by decide) e)).trans W8⟩)
        clear HST HL1 HL2 HR7 HK7 HG7 HN7 HW7 K8 N8 W8 hae b8 HOD
        go_wp2_with (refine wpList_load_g HL8.out rfl rfl (by rfl) ?_)
        refine HAD.out.mono ?_
        rintro e w9 ⟨rfl, v', K9, b9, hk⟩
        obtain ⟨N9, W9⟩ := HN9.out w9 hk
        have R9 := R8.out.lowB b9 hrb
        have G9 := G8.out.low b9
        clear HAD HN9 R8 G8 b9 hk HL8
        by_cases h0 : ae = 0
        · subst h0
          have hgk : goodW L x = true := by unfold goodW; rw [← HZ.out, ← HAE.out]; simpa using hzz
          have HE := Lib.hid (HEQ.out.trans (HGD.out hgk))
          rw [goodW_add HO.out hgk] at K9
          have hne9 := row_next K9.ws W9 (addE_ses HAE.out.symm)
          obtain ⟨wa, hst, Wa, ga, hsa⟩ := storeWa W9 x
          have HO2 := Lib.hid (HO.out.step hgk HOK.out)
          have KA := Lib.hid (K9.otherW W9 hne9 ga)
          have RA : Hid (Rs wa rb S4) := Lib.hid (Rs.kept R9 ga (fun e => hlr (Option.some.inj e)))
          have GA : Hid (LowR base rb w wa) := Lib.hid (G9.low ((Below.refl base w9).grown ga (Nat.le_trans hlo G9.size) (fun q hq => by cases hq; exact hlo)))
          have HNA := Lib.hid hne9
          have HWA := Lib.hid Wa
          have HST := Lib.hid hst
          have HLD := Lib.hid (run_loadWa N9)
          clear hgk hst Wa ga hsa hne9 K9 R9 G9 N9 W9 HO HEQ HGD HBD HAE
          go_wp2_with (first | (refine wpList_store_run HST.out rfl rfl rfl rfl ?_) | (refine wpList_load_run HLD.out rfl rfl rfl ?_))
          go_roundw
          case rel => exact ⟨j + 1, v', L ++ [x], S4, by omega, by go_num, by simp; omega, KA, HNA, by rw [lastW_snoc]; exact HWA, RA, HO2, Lib.hid (by rw [HE.out, show m - (j + 1) = q by omega]), GA⟩
          case measure => simp [intOf]; omega
        · have h02 : (ae == 0) = false := by simpa using h0
          have HE := Lib.hid (HEQ.out.trans (HBD.out (by unfold goodW; rw [← HAE.out, h02, Bool.and_false])))
          rw [addL_bad (by rw [← HAE.out]; exact h0)] at K9
          have HK9 := Lib.hid K9
          have HG9 := Lib.hid G9
          clear K9 G9 h0 N9 W9
          go_wp2_with fail
          refine (fail_rs rb _ _ R9).mono ?_
          rintro e wb ⟨rfl, RB, gb⟩
          have KB := Lib.hid (HK9.out.reader gb hrb)
          have GB := Lib.hid (HG9.out.grown gb hlo)
          clear R9 gb
          go_wp2_with fail
          refine bodyPost_ret (results_none (by kernel_rfl) _ _ _) rfl ?_
          rw [HE.out]
          exact ⟨rfl, v', KB.out, RB, GB.out, by show L.length ≤ 40; omega⟩
      · have hz2 : decide (0 ≤ z) = true := by simp; omega
        go_wp2_with (first | (refine wpList_store_run HST.out rfl rfl rfl rfl ?_) | (refine wpList_load_run HL1.out rfl rfl rfl ?_) | (refine wpList_load_run HL2.out rfl rfl rfl ?_))
        refine HOD.out.mono ?_
        rintro e w8 ⟨rfl, b8⟩
        have R8 := HR7.out.below b8
        have K8 := HK7.out.below b8
        have G8 := HG7.out.low (b8.mono (Nat.le_trans hlo HG7.out.size))
        clear HR7 HK7 HG7
        go_wp2_with fail
        refine (fail_rs rb _ _ R8).mono ?_
        rintro e w9 ⟨rfl, R9, g9⟩
        have K9 := Lib.hid (K8.reader g9 hrb)
        have G9 := Lib.hid (G8.grown g9 hlo)
        have HE := Lib.hid (HEQ.out.trans (HBD.out (by unfold goodW; rw [← HZ.out]; simp; omega)))
        clear K8 G8 R8 g9
        go_wp2_with fail
        refine bodyPost_ret (results_none (by kernel_rfl) _ _ _) rfl ?_
        rw [HE.out]
        exact ⟨rfl, vw, K9.out, R9, G9.out, by show L.length ≤ 40; omega⟩
    · obtain rfl : j = m := by omega
      have hlt2 : decide ((j : Int) < (j : Int)) = false := by simp
      rw [Nat.sub_self] at HEQ
      have HEQ : Hid (readWs st = ⟨L, S⟩) := HEQ
      go_wp2_with fail
      go_end0
      rw [HEQ.out]
      exact ⟨rfl, vw, HB.out, HR.out, HG.out, by show L.length ≤ 40; omega⟩
end Go.Proofs.YtbbdokfankgllaaGreatDoor
