/- plog's read: an entry's block and its mark's. No conditions beyond those in each statement. plog's write: blocks written one after another, then made durable. No conditions beyond those in each statement. plog's clean: the marks' blocks emptied, then the entries', each durably. No conditions beyond those in each statement. A map of numbers, a set of numbers: what their operations do. No conditions beyond those in each statement. A log in memory: the device beside the blocks that it leaves alone, the log's block, its two maps; what each step leaves of them. No conditions beyond those in each statement. plog's Read: an entry as it is on the device now. No conditions beyond those in each statement. plog's Hurt: the first damaged entry. No conditions beyond those in each statement. plog's forget and Drop. No conditions beyond those in each statement. plog's Scrub and Cut. No conditions beyond those in each statement. -/
import Derived.Test.YtigebaaldikeaaaDoorPlogHas
import Derived.Deep.RegionHeld3
import Derived.Deep.RegionWith
import Derived.Deep.DeepCutAuto
import Derived.Test.YtigebaaldikeaaaDoorInvar3
namespace Go.Proofs.YtigebaaldikeaaaDoor
section
open Go.RowKit
set_option linter.unusedVariables false
set_option maxRecDepth 100000

/-- What read answers: the entry's cell, the mark's, the error. -/
def Dv.lgread (D : Dv) (L : Lg) (i : Int) : (Rc × Int) × (Rc × Int) × Int :=
  if (D.sread (L.blk 2 i)).2.2 = 0 then
    if (D.sread (L.blk 3 i)).2.2 = 0 then (((D.sread (L.blk 2 i)).1, (D.sread (L.blk 2 i)).2.1), ((D.sread (L.blk 3 i)).1, (D.sread (L.blk 3 i)).2.1), 0)
    else (cel0, cel0, (D.sread (L.blk 3 i)).2.2)
  else (cel0, cel0, (D.sread (L.blk 2 i)).2.2)
def lgreadV (x : (Rc × Int) × (Rc × Int) × Int) : Value := .tuple #[celV x.1, celV x.2.1, .int .i64 x.2.2]
/-- The log fits a device. -/
structure Lg.Fit (L : Lg) : Prop where
  size : 1 ≤ L.size ∧ L.size ≤ 4096
  base : 0 ≤ L.base ∧ L.base ≤ 4096
  first : 1 ≤ L.first ∧ L.first ≤ 4611686018427387
  count : 0 ≤ L.count ∧ L.count ≤ L.size
theorem rdret (A : Act) (W : World) (b1 b2 : Nat) (c1 c2 : Rc × Int) (n : Int) (Q : Ending → World → Prop) (h4 : A.tmps.getD 4 undef = .pointer (some ⟨b1, 0, none⟩)) (h5 : A.tmps.getD 5 undef = .pointer (some ⟨b2, 0, none⟩)) (h6 : A.tmps.getD 6 undef = .int .i64 n) (hd : A.defers = [])
    (hr1 : CelB W b1 c1) (hr2 : CelB W b2 c2) (hq : Q (.returned (lgreadV (c1, c2, n))) W) : bodyPost Tryd.prog Tryd.f69 Q Exit.ret A W := by
  obtain ⟨⟨c0, c1', c2', c3, c4⟩, _⟩ := hr1.cells
  obtain ⟨⟨d0, d1, d2, d3, d4⟩, _⟩ := hr2.cells
  have e4 : A.tmps[4]?.getD undef = .pointer (some ⟨b1, 0, none⟩) := by simpa using h4
  have e5 : A.tmps[5]?.getD undef = .pointer (some ⟨b2, 0, none⟩) := by simpa using h5
  have e6 : A.tmps[6]?.getD undef = .int .i64 n := by simpa using h6
  exact bodyPost_ret (v := lgreadV (c1, c2, n)) (by simp [results, Tryd.results69, go_sem, lgreadV, celV, e4, e5, e6, c0, c1', c2', c3, c4, d0, d1, d2, d3, d4]) hd hq
theorem setCel_other {W : World} {b : Nat} {c : Rc × Int} {k : Nat} (h : k ≠ b) : (setCel W b c).heap[k]? = W.heap[k]? := by
  unfold setCel
  rw [block_setCell_other h, block_setCell_other h, block_setCell_other h, block_setCell_other h, block_setCell_other h]
theorem CelB.other {W : World} {b k : Nat} {c x : Rc × Int} (h : CelB W k x) (hk : k ≠ b) : CelB (setCel W b c) k x := (setCel_other hk).trans h
theorem LogB.otherCel {W : World} {b k B bt bd : Nat} {L : Lg} {c : Rc × Int} (h : LogB W k B bt bd L) (hk : k ≠ b) : LogB (setCel W b c) k B bt bd L := (setCel_other hk).trans h
theorem cel_end {a W : World} {n g b B bt bd : Nat} {L : Lg} {c0 x : Rc × Int} (c : Rc × Int) (e : Int) {k : Nat} (hN : CelB W g c0) (hM : CelB W k x) (hL : LogB W b B bt bd L) (hB : Below n a W) (hk : k ≠ g) (hb : b ≠ g) (hg : n ≤ g) :
    Value.int .i64 e = .int .i64 e ∧ CelB (setCel W g c) g c ∧ CelB (setCel W g c) k x ∧ LogB (setCel W g c) b B bt bd L ∧ Below n a (setCel W g c) :=
  ⟨rfl, hN.set c, hM.other hk, hL.otherCel hb, below_cel hB hg c⟩
def FRd (g : Nat) (c c' : Rc × Int) : Nat → Value → World → Prop
  | 0, v, _ => v = celV c
  | 1, v, _ => v = celV c'
  | 2, v, _ => v = undef
  | 3, v, _ => v = undef
  | 4, v, _ => v = .int .i64 0
  | _, _, _ => True
theorem FRd_keep {g : Nat} {c c' : Rc × Int} {v : Value} {w w' : World} : ∀ i : Nat, FRd g c c' i v w → FRd g c c' i v w'
  | 0, h => h
  | 1, h => h
  | 2, h => h
  | 3, h => h
  | 4, h => h
  | _ + 5, _ => trivial
theorem run_loadC (W : World) (b : Nat) (c : Rc × Int) (h : CelB W b c) : (Instr.loadAt 125 (.pointer (some ⟨b, 0, none⟩))).run Tryd.prog W = .ok (celV c) W := by
  obtain ⟨⟨c0, c1, c2, c3, c4⟩, _⟩ := h.cells
  unfold celV
  go_simp
theorem run_storeC (W : World) (b : Nat) (c x : Rc × Int) (h : CelB W b x) : (Instr.storeAt 125 (.pointer (some ⟨b, 0, none⟩)) (celV c)).run Tryd.prog W = .ok () (setCel W b c) := by
  obtain ⟨⟨c0, c1, c2, c3, c4⟩, f0, f1, f2, f3, f4⟩ := h.cells
  unfold celV setCel
  go_simp
set_option maxHeartbeats 4000000 in
theorem lgread_any {n : Nat} {E : Nat → Prop} {w : World} {B : Nat} {D : Dv} {b bt bd : Nat} {L : Lg} (i : Int) (hW : DevW n E w B D) (hL : LogB w b B bt bd L) (ht : Tabs w) (hw : D.writes ≤ 1073741824) (hf : L.Fit) (hi : 0 ≤ i) :
    Calls Tryd.prog 69 #[.pointer (some ⟨b, 0, none⟩), .int .i64 i] w fun e w' => e = .returned (lgreadV (D.lgread L i)) ∧ Below w.heap.size w w' := by
  have HSR := Lib.hid (fun (j : Int) (W : World) (hb : Below w.heap.size w W) => devw_sread j (ht.below hb) hw (hW.below hb))
  have HBL := Lib.hid (fun (k : Int) (W : World) (hb : Below w.heap.size w W) => pblock_any k i (hL.below hb) (by have := hf.size; omega) (by have := hf.base; omega) hi)
  obtain ⟨V, hV⟩ : ∃ V, V = D.lgread L i := ⟨_, rfl⟩
  rw [← hV]
  have HV := Lib.hid hV
  have b0 := (Below.refl _ w).alloc (Nat.le_refl _) (.cells #[.int .i64 cel0.1.kind, .int .i64 cel0.1.index, .int .i64 cel0.1.term, .string cel0.1.data, .int .i64 cel0.2] 125)
  have b1 := (Below.refl (w.alloc (.cells #[.int .i64 cel0.1.kind, .int .i64 cel0.1.index, .int .i64 cel0.1.term, .string cel0.1.data, .int .i64 cel0.2] 125)).heap.size _).alloc (Nat.le_refl _) (.cells #[.int .i64 cel0.1.kind, .int .i64 cel0.1.index, .int .i64 cel0.1.term, .string cel0.1.data, .int .i64 cel0.2] 125)
  have n0 := (CelB.new w cel0).below b1
  have m0 := CelB.new (w.alloc (.cells #[.int .i64 cel0.1.kind, .int .i64 cel0.1.index, .int .i64 cel0.1.term, .string cel0.1.data, .int .i64 cel0.2] 125)) cel0
  rw [World.size_alloc] at m0
  have B0 := b0.trans (b1.mono b0.size)
  have L0 := (hL.below b0).below b1
  have u1 : ¬ b = w.heap.size := Nat.ne_of_lt hL.lt
  have u2 : ¬ w.heap.size = b := Nat.ne_of_gt hL.lt
  have u3 : ¬ b = w.heap.size + 1 := by have := hL.lt; omega
  have u4 : ¬ w.heap.size + 1 = b := by have := hL.lt; omega
  obtain ⟨w0, hw0⟩ : ∃ w0, w0 = (w.alloc (.cells #[.int .i64 cel0.1.kind, .int .i64 cel0.1.index, .int .i64 cel0.1.term, .string cel0.1.data, .int .i64 cel0.2] 125)).alloc (.cells #[.int .i64 cel0.1.kind, .int .i64 cel0.1.index, .int .i64 cel0.1.term, .string cel0.1.data, .int .i64 cel0.2] 125) := ⟨_, rfl⟩
  rw [← hw0] at n0 m0 B0 L0
  unfold cel0 rc0 at hw0
  simp only at hw0
  have u5 : ¬ w.heap.size = w.heap.size + 1 := by omega
  have u6 : ¬ w.heap.size + 1 = w.heap.size := by omega
  clear b0 b1 hV hW ht hi
  go_enter Tryd.func69, Tryd.ntmps69
  go_upto_region 1 with fail
  rw [← hw0]
  clear hw0
  obtain ⟨⟨g0, g1, g2, g3, g4, g5, g6⟩, _⟩ := L0.cells
  have L0d : LogB w0.drew b B bt bd L := L0
  have n0d : CelB w0.drew w.heap.size cel0 := n0
  have m0d : CelB w0.drew (w.heap.size + 1) cel0 := m0
  have B0d := B0.drew
  have HS2 := Lib.hid (HSR.out (L.blk 2 i))
  have HS3 := Lib.hid (HSR.out (L.blk 3 i))
  obtain ⟨X, hX⟩ : ∃ X, X = D.sread (L.blk 2 i) := ⟨_, rfl⟩
  obtain ⟨Y, hY⟩ : ∃ Y, Y = D.sread (L.blk 3 i) := ⟨_, rfl⟩
  have HV2 : Hid (V = if X.2.2 = 0 then (if Y.2.2 = 0 then ((X.1, X.2.1), (Y.1, Y.2.1), 0) else (cel0, cel0, Y.2.2)) else (cel0, cel0, X.2.2)) := by
    show V = _
    rw [hX, hY]
    exact HV.out
  rw [← hX] at HS2
  rw [← hY] at HS3
  clear hX hY HSR HV
  obtain ⟨r, st, er⟩ := X
  obtain ⟨r', st', er'⟩ := Y
  unfold sreadV recV at HS2 HS3
  simp only at HS2 HS3 HV2
  go_cut [6] (fun z wx => z = .int .i64 er ∧ CelB wx w.heap.size (r, st) ∧ CelB wx (w.heap.size + 1) cel0 ∧ LogB wx b B bt bd L ∧ Below w.heap.size w wx)
  case first =>
    go_region_held3 (fun w' => w'.cell? ⟨b, 0, none⟩ = some (.pointer (some ⟨B, 0, none⟩))) (first | (with_reducible assumption) | go_keep)
      (first
        | (go_at_call 43; refine (HBL.out 2 w0.drew B0d).mono ?_; rintro e w1 ⟨rfl, hb1⟩; have L1 := L0d.below hb1; have N1 := n0d.below hb1; have M1 := m0d.below hb1; have B1 := B0d.trans (hb1.mono B0d.size); have p0 := L1.cells.1.1)
        | (go_at_call 32; refine (HS2.out w1 B1).mono ?_; rintro e w2 ⟨rfl, hb2⟩; have L2 := L1.below hb2; have N2 := N1.below hb2; have M2 := M1.below hb2; have B2 := B1.trans (hb2.mono B1.size); have p1 := L2.cells.1.1; obtain ⟨⟨n0, n1, n2, n3, n4⟩, f0, f1, f2, f3, f4⟩ := N2.cells))
    all_goals (go_wp2_with fail; go_meet)
    all_goals exact cel_end (r, st) er N2 M2 L2 B2 u6 u1 (Nat.le_refl _)
  case rest =>
    obtain ⟨rfl, N2, M2, L2, B2⟩ := hcut
    clear g0 g1 g2 g3 g4 g5 g6 L0d n0d m0d B0d L0 n0 m0 B0 HS2
    by_cases he : er = 0
    · subst he
      have HV3 : Hid (V = if er' = 0 then ((r, st), (r', st'), 0) else (cel0, cel0, er')) := by
        show V = _
        rw [HV2.out, if_pos rfl]
      clear HV2
      have g0 := L2.cells.1.1
      have L2d : LogB wc.drew b B bt bd L := L2
      have N2d : CelB wc.drew w.heap.size (r, st) := N2
      have M2d : CelB wc.drew (w.heap.size + 1) cel0 := M2
      have B2d := B2.drew
      go_upto_region 4 with fail
      go_cut [6] (fun z wx => z = .int .i64 er' ∧ CelB wx (w.heap.size + 1) (r', st') ∧ CelB wx w.heap.size (r, st) ∧ LogB wx b B bt bd L ∧ Below w.heap.size w wx)
      case first =>
        go_region_held3 (fun w' => w'.cell? ⟨b, 0, none⟩ = some (.pointer (some ⟨B, 0, none⟩))) (first | (with_reducible assumption) | go_keep)
          (first
            | (go_at_call 43; refine (HBL.out 3 wc.drew B2d).mono ?_; rintro e w1 ⟨rfl, hb1⟩; have L1 := L2d.below hb1; have N1 := N2d.below hb1; have M1 := M2d.below hb1; have B1 := B2d.trans (hb1.mono B2d.size); have p0 := L1.cells.1.1)
            | (go_at_call 32; refine (HS3.out w1 B1).mono ?_; rintro e w2 ⟨rfl, hb2⟩; have L2 := L1.below hb2; have N2 := N1.below hb2; have M2 := M1.below hb2; have B2 := B1.trans (hb2.mono B1.size); have p1 := L2.cells.1.1; obtain ⟨⟨n0, n1, n2, n3, n4⟩, f0, f1, f2, f3, f4⟩ := M2.cells))
        all_goals (go_wp2_with fail; go_meet)
        all_goals exact cel_end (r', st') er' M2 N2 L2 B2 u5 u3 (Nat.le_succ _)
      case rest =>
        obtain ⟨rfl, M3, N3, L3, B3⟩ := hcut
        clear g0 L2d N2d M2d B2d L2 N2 M2 B2 HS3
        obtain ⟨⟨n0, n1, n2, n3, n4⟩, f0, f1, f2, f3, f4⟩ := N3.cells
        obtain ⟨⟨m0, m1, m2, m3, m4⟩, k0, k1, k2, k3, k4⟩ := M3.cells
        by_cases he' : er' = 0
        · subst he'
          have HV4 : Hid (V = ((r, st), (r', st'), 0)) := by
            show V = _
            rw [HV3.out, if_pos rfl]
          go_wp2_with fail
          have C7 : CelB wc.drew w.heap.size (r, st) ∧ CelB wc.drew (w.heap.size + 1) (r', st') := ⟨N3, M3⟩
          have HC7 := Lib.hid (fun (W : World) (hR : (CelB wc.drew w.heap.size (r, st) ∧ CelB wc.drew (w.heap.size + 1) (r', st') → CelB W w.heap.size (r, st) ∧ CelB W (w.heap.size + 1) (r', st')) ∧ Below w.heap.size wc.drew W) => hR.1 C7)
          have HS7a := Lib.hid (fun (W : World) => show (CelB W w.heap.size (r, st) ∧ CelB W (w.heap.size + 1) (r', st') → CelB (setCel W w.heap.size (r, st)) w.heap.size (r, st) ∧ CelB (setCel W w.heap.size (r, st)) (w.heap.size + 1) (r', st')) ∧ Below w.heap.size W (setCel W w.heap.size (r, st)) from ⟨fun h => ⟨h.1.set (r, st), h.2.other u6⟩, below_cel (Below.refl _ W) (Nat.le_refl _) _⟩)
          have HS7b := Lib.hid (fun (W : World) => show (CelB W w.heap.size (r, st) ∧ CelB W (w.heap.size + 1) (r', st') → CelB (setCel W (w.heap.size + 1) (r', st')) w.heap.size (r, st) ∧ CelB (setCel W (w.heap.size + 1) (r', st')) (w.heap.size + 1) (r', st')) ∧ Below w.heap.size W (setCel W (w.heap.size + 1) (r', st')) from ⟨fun h => ⟨h.1.other u5, h.2.set (r', st')⟩, below_cel (Below.refl _ W) (Nat.le_succ _) _⟩)
          refine wp_region_steps (FRd w.heap.size (r, st) (r', st')) (fun w1 w2 => (CelB w1 w.heap.size (r, st) ∧ CelB w1 (w.heap.size + 1) (r', st') → CelB w2 w.heap.size (r, st) ∧ CelB w2 (w.heap.size + 1) (r', st')) ∧ Below w.heap.size w1 w2) (by kernel_rfl) (by kernel_rfl) (by kernel_rfl) ⟨id, Below.refl _ _⟩ ?_ (fun u v w h1 h2 => ⟨fun h => h2.1 (h1.1 h), h1.2.trans h2.2⟩) ?_ ?_
          · intro i v w w' _ h1 h2
            exact FRd_keep i h1
          · intro i o ho x w1 hR hF
            match i, ho with
            | 0, ho =>
              obtain rfl := Option.some.inj ho
              exact gstep_load rfl (wanted0 rfl) _ _ rfl _ (eval_of 4 _ (by kernel_rfl) rfl) _ (run_loadC w1 _ _ (HC7.out w1 hR).1) ⟨_, rfl, rfl, ⟨id, Below.refl _ _⟩⟩
            | 1, ho =>
              obtain rfl := Option.some.inj ho
              exact gstep_load rfl (wanted0 rfl) _ _ rfl _ (eval_of 5 _ (by kernel_rfl) rfl) _ (run_loadC w1 _ _ (HC7.out w1 hR).2) ⟨_, rfl, rfl, ⟨id, Below.refl _ _⟩⟩
            | 2, ho =>
              obtain rfl := Option.some.inj ho
              refine gstep_store rfl (wanted0 rfl) _ _ _ rfl _ _ (eval_of 4 _ (by kernel_rfl) rfl) (eval_at 45 0 _ (by kernel_rfl) (show 45 < 47 by decide) (hF 0 (by kernel_rfl))) _ (run_storeC w1 _ _ _ (HC7.out w1 hR).1) ⟨_, rfl, rfl, HS7a.out w1⟩
            | 3, ho =>
              obtain rfl := Option.some.inj ho
              refine gstep_store rfl (wanted0 rfl) _ _ _ rfl _ _ (eval_of 5 _ (by kernel_rfl) rfl) (eval_at 46 1 _ (by kernel_rfl) (show 46 < 47 by decide) (hF 1 (by kernel_rfl))) _ (run_storeC w1 _ _ _ (HC7.out w1 hR).2) ⟨_, rfl, rfl, HS7b.out w1⟩
            | 4, ho =>
              obtain rfl := Option.some.inj ho
              exact gstep_assign rfl (wanted0 rfl) _ rfl _ rfl ⟨_, rfl, rfl, ⟨id, Below.refl _ _⟩⟩
            | n + 5, ho => simp at ho
          · intro x w9 hR hF
            have hl : x 4 = .int .i64 0 := hF 4 (by decide)
            have C9 := HC7.out w9 hR
            have B9 : Below w.heap.size w w9 := B3.drew.trans hR.2
            dsimp only [Exit.then]
            rename_i K hK
            refine hK _ _ ?_
            simp only [putAll, hl, Act.put, List.setIfInBounds_toArray, List.set_cons_succ, List.set_cons_zero]
            clear hl hR hF
            go_wp2_with fail
            rw [HV4.out]
            exact rdret _ w9 w.heap.size (w.heap.size + 1) (r, st) (r', st') 0 _ rfl rfl rfl rfl C9.1 C9.2 ⟨rfl, B9⟩
        · have e1 : (er' == 0) = false := by simpa using he'
          have HV4 : Hid (V = (cel0, cel0, er')) := by
            show V = _
            rw [HV3.out, if_neg he']
          go_wp2_with fail
          rw [HV4.out]
          refine rdret _ (setCel (setCel wc w.heap.size cel0) (w.heap.size + 1) cel0) w.heap.size (w.heap.size + 1) cel0 cel0 er' _ rfl rfl rfl rfl ?_ ?_ ⟨rfl, ?_⟩
          · exact (N3.set cel0).other u5
          · exact CelB.set (M3.other u6) cel0
          · exact below_cel (below_cel B3 (Nat.le_refl _) cel0) (Nat.le_succ _) cel0
    · have e1 : (er == 0) = false := by simpa using he
      have HV4 : Hid (V = (cel0, cel0, er)) := by
        show V = _
        rw [HV2.out, if_neg he]
      obtain ⟨⟨n0, n1, n2, n3, n4⟩, f0, f1, f2, f3, f4⟩ := N2.cells
      obtain ⟨⟨m0, m1, m2, m3, m4⟩, k0, k1, k2, k3, k4⟩ := M2.cells
      go_wp2_with fail
      rw [HV4.out]
      refine rdret _ (setCel (setCel wc w.heap.size cel0) (w.heap.size + 1) cel0) w.heap.size (w.heap.size + 1) cel0 cel0 er _ rfl rfl rfl rfl ?_ ?_ ⟨rfl, ?_⟩
      · exact (N2.set cel0).other u5
      · exact CelB.set (M2.other u6) cel0
      · exact below_cel (below_cel B2 (Nat.le_refl _) cel0) (Nat.le_succ _) cel0
end
section
open Go.RowKit
set_option linter.unusedVariables false
set_option maxRecDepth 100000

theorem cell_kept {w w' : World} {g o : Nat} (h : w'.heap[g]? = w.heap[g]?) : w'.cell? ⟨g, o, none⟩ = w.cell? ⟨g, o, none⟩ := by simp [World.cell?, h]
/-- A slice of records that can be read; its row is a block of E. -/
def RecS (E : Nat → Prop) (w : World) (v : Value) (rs : List Rc) : Prop :=
  ∃ a cap, v = .slice a rs.length cap ∧ rs.length ≤ 100000 ∧ (rs.length = 0 ∨ ∃ g, a = some ⟨g, 0, none⟩ ∧ E g ∧ g < w.heap.size ∧
    ∀ j r, rs[j]? = some r → w.cell? ⟨g, j * 4, none⟩ = some (.int .i64 r.kind) ∧ w.cell? ⟨g, j * 4 + 1, none⟩ = some (.int .i64 r.index) ∧ w.cell? ⟨g, j * 4 + 2, none⟩ = some (.int .i64 r.term) ∧ w.cell? ⟨g, j * 4 + 3, none⟩ = some (.string r.data))
theorem RecS.keep {E F : Nat → Prop} {w w' : World} {v : Value} {rs : List Rc} (h : RecS E w v rs) (k : Kept F w w') (hE : ∀ j, E j → F j) (hs : w.heap.size ≤ w'.heap.size) : RecS E w' v rs := by
  obtain ⟨a, cap, hv, hn, h⟩ := h
  refine ⟨a, cap, hv, hn, h.imp id ?_⟩
  rintro ⟨g, ha, hg, hl, hc⟩
  have e := k g (hE g hg)
  refine ⟨g, ha, hg, Nat.lt_of_lt_of_le hl hs, fun j r hr => ?_⟩
  rw [cell_kept e, cell_kept e, cell_kept e, cell_kept e]
  exact hc j r hr
theorem RecS.below {E : Nat → Prop} {w w' : World} {v : Value} {rs : List Rc} (h : RecS E w v rs) (k : Below w.heap.size w w') : RecS E w' v rs := by
  obtain ⟨a, cap, hv, hn, h⟩ := h
  refine ⟨a, cap, hv, hn, h.imp id ?_⟩
  rintro ⟨g, ha, hg, hl, hc⟩
  have e := k.block g hl
  refine ⟨g, ha, hg, Nat.lt_of_lt_of_le hl k.size, fun j r hr => ?_⟩
  rw [cell_kept e, cell_kept e, cell_kept e, cell_kept e]
  exact hc j r hr
theorem RecS.wide {E F : Nat → Prop} {w : World} {v : Value} {rs : List Rc} (h : RecS E w v rs) (hE : ∀ j, E j → F j) : RecS F w v rs := by
  obtain ⟨a, cap, hv, hn, h⟩ := h
  exact ⟨a, cap, hv, hn, h.imp id (fun ⟨g, ha, hg, r⟩ => ⟨g, ha, hE g hg, r⟩)⟩
theorem RecS.nil (E : Nat → Prop) (w : World) : RecS E w (.slice none 0 0) [] := ⟨none, 0, rfl, by decide, .inl rfl⟩
theorem RecS.one (w : World) (r : Rc) : RecS (fun k => k = w.heap.size) (w.alloc (.cells #[.int .i64 r.kind, .int .i64 r.index, .int .i64 r.term, .string r.data] 72)) (.slice (some ⟨w.heap.size, 0, none⟩) 1 1) [r] := by
  refine ⟨_, _, rfl, (by decide : 1 ≤ 100000), .inr ⟨w.heap.size, rfl, rfl, by simp, fun j x hj => ?_⟩⟩
  obtain ⟨rfl, rfl⟩ : j = 0 ∧ r = x := by
    rcases j with _ | j
    · exact ⟨rfl, by simpa using hj⟩
    · simp at hj
  obtain ⟨⟨c0, c1, c2, c3⟩, _⟩ := (RecB.new w r).cells
  exact ⟨c0, c1, c2, c3⟩
/-- What write answers, and the device. -/
noncomputable def Dv.wr (D : Dv) (L : Lg) : List Rc → Int × Dv
  | [] => D.flush
  | r :: l => if (D.swrite (L.blk r.kind r.index) r).1 = 0 then Dv.wr (D.swrite (L.blk r.kind r.index) r).2 L l else D.swrite (L.blk r.kind r.index) r
theorem wr_nil (D : Dv) (L : Lg) : D.wr L [] = D.flush := rfl
theorem wr_go {D : Dv} {L : Lg} {r : Rc} {l : List Rc} (h : (D.swrite (L.blk r.kind r.index) r).1 = 0) : D.wr L (r :: l) = (D.swrite (L.blk r.kind r.index) r).2.wr L l := by
  show (if _ then _ else _) = _
  rw [if_pos h]
theorem wr_stop {D : Dv} {L : Lg} {r : Rc} {l : List Rc} (h : (D.swrite (L.blk r.kind r.index) r).1 ≠ 0) : D.wr L (r :: l) = D.swrite (L.blk r.kind r.index) r := by
  show (if _ then _ else _) = _
  rw [if_neg h]
theorem wr_writes (L : Lg) : ∀ (l : List Rc) (D : Dv), (D.wr L l).2.writes ≤ D.writes + l.length
  | [], D => Nat.le_trans (flush_writes D) (Nat.le_add_right _ _)
  | r :: l, D => by
    have h1 := swrite_writes D (L.blk r.kind r.index) r
    by_cases h : (D.swrite (L.blk r.kind r.index) r).1 = 0
    · rw [wr_go h]
      have h2 := wr_writes L l (D.swrite (L.blk r.kind r.index) r).2
      simp only [List.length_cons]
      omega
    · rw [wr_stop h]
      simp only [List.length_cons]
      omega
set_option maxHeartbeats 4000000 in
theorem pwrite_any {n : Nat} {E : Nat → Prop} {w : World} {B : Nat} {D : Dv} {b bt bd : Nat} {L : Lg} (v : Value) (rs : List Rc) (hW : DevW n E w B D) (hL : LogB w b B bt bd L) (hE : E b) (hv : RecS E w v rs) (hn : n ≤ w.heap.size)
    (hT : ∀ x, Below n w x → Tabs x) (hw : D.writes ≤ 1073000000) (hf : L.Fit) (hi : ∀ r ∈ rs, 0 ≤ r.index) :
    Calls Tryd.prog 47 #[.pointer (some ⟨b, 0, none⟩), v] w fun e w' => e = .returned (.int .i64 (D.wr L rs).1) ∧ DevW n E w' B (D.wr L rs).2 ∧ Below n w w' ∧ Kept E w w' := by
  have HT := Lib.hid hT
  have HF := Lib.hid hf
  have HI := Lib.hid hi
  obtain ⟨V, hV⟩ : ∃ V, V = D.wr L rs := ⟨_, rfl⟩
  rw [← hV]
  have HV := Lib.hid hV
  have HWR := Lib.hid hw
  obtain ⟨a, cap, rfl, hlen, _⟩ := id hv
  have HRS := Lib.hid (fun (W : World) (k : Kept E w W) (hs : w.heap.size ≤ W.heap.size) => hv.keep k (fun _ h => h) hs)
  have HLB := Lib.hid (fun (W : World) (k : Kept E w W) => hL.keep k hE)
  have hlen' : (rs.length : Int) ≤ 100000 := by omega
  clear hT hf hi hV hv hw hL
  go_enter Tryd.func47, Tryd.ntmps47
  go_wp2_with fail
  go_loopw [10] (fun i wr => ∃ (k : Nat) (D' : Dv), k ≤ rs.length ∧ i = .int .i64 k ∧ DevW n E wr B D' ∧ Below n w wr ∧ Kept E w wr ∧ Hid (D'.writes ≤ 1073000000 + k) ∧ Hid (V = D'.wr L (rs.drop k))) (fun i _ => rs.length - (intOf i).toNat)
  case atStart => exact ⟨0, D, by omega, rfl, hW, Below.refl _ _, Kept.refl _ _, HWR.out, HV.out⟩
  case round =>
    obtain ⟨k, D', hk, rfl, Xk, Bk, Kk, HWk, HVk⟩ := hrel
    clear hW HV HWR
    have hnk : n ≤ wr.heap.size := Nat.le_trans hn Bk.size
    have Lk := HLB.out wr Kk
    by_cases hlt : k < rs.length
    · have hlt' : (k : Int) < (rs.length : Int) := by omega
      have hk0 : (0 : Int) ≤ (k : Int) := by omega
      obtain ⟨r, hr⟩ : ∃ r, rs[k]? = some r := ⟨rs[k], List.getElem?_eq_getElem hlt⟩
      have hdrop : rs.drop k = r :: rs.drop (k + 1) := by rw [List.drop_eq_getElem_cons hlt]; congr 1; rw [List.getElem?_eq_getElem hlt] at hr; exact Option.some.inj hr
      have HX : Hid (((D'.swrite (L.blk r.kind r.index) r).1 = 0 → V = (D'.swrite (L.blk r.kind r.index) r).2.wr L (rs.drop (k + 1))) ∧ ((D'.swrite (L.blk r.kind r.index) r).1 ≠ 0 → V = D'.swrite (L.blk r.kind r.index) r)) := by
        show _ ∧ _
        rw [HVk.out, hdrop]
        exact ⟨fun h => wr_go h, fun h => wr_stop h⟩
      have HSW := Lib.hid (swrite_writes D' (L.blk r.kind r.index) r)
      obtain ⟨a', cap', hva, _, hg⟩ := HRS.out wr Kk Bk.size
      rcases hg with h0 | ⟨g, rfl, hEg, hgl, hcell⟩
      · omega
      · obtain ⟨rfl, rfl⟩ : a = some ⟨g, 0, none⟩ ∧ cap = cap' := by
          injection hva with h1 h2 h3
          exact ⟨h1, h3⟩
        obtain ⟨c0, c1, c2, c3⟩ := hcell k r hr
        have HBL := Lib.hid (fun (W : World) (h : LogB W b B bt bd L) => pblock_any r.kind r.index h (by have := HF.out.size; omega) (by have := HF.out.base; omega) (HI.out r (List.mem_of_getElem? hr)))
        obtain ⟨bk, hbk⟩ : ∃ bk, bk = L.blk r.kind r.index := ⟨_, rfl⟩
        rw [← hbk] at HX HSW HBL
        clear hdrop hcell hr hva HVk hbk
        have HCW := Lib.hid (fun (W : World) (hnW : n ≤ W.heap.size) (hTW : Tabs W) (hX : DevW n (fun k => E k ∨ k = wr.heap.size) W B D') => devw_swrite bk r hnW hTW (by have := HWk.out; omega) hX)
        generalize D'.swrite bk r = S at HX HSW HCW
        have b1 := ((Below.refl wr.heap.size wr).alloc (Nat.le_refl _) (.cells #[.int .i64 r.kind, .int .i64 r.index, .int .i64 r.term, .string r.data] 72)).drew
        have R1 : RecB (wr.alloc (.cells #[.int .i64 r.kind, .int .i64 r.index, .int .i64 r.term, .string r.data] 72)).drew wr.heap.size r := RecB.new wr r
        have L1 : LogB (wr.alloc (.cells #[.int .i64 r.kind, .int .i64 r.index, .int .i64 r.term, .string r.data] 72)).drew b B bt bd L := Lk.below b1
        have X1 : DevW n (fun k => E k ∨ k = wr.heap.size) (wr.alloc (.cells #[.int .i64 r.kind, .int .i64 r.index, .int .i64 r.term, .string r.data] 72)).drew B D' := (Xk.alloc (.cells #[.int .i64 r.kind, .int .i64 r.index, .int .i64 r.term, .string r.data] 72)).drew
        have B1 : Below n w (wr.alloc (.cells #[.int .i64 r.kind, .int .i64 r.index, .int .i64 r.term, .string r.data] 72)).drew := Bk.trans (b1.mono hnk)
        have K1 : Kept E w (wr.alloc (.cells #[.int .i64 r.kind, .int .i64 r.index, .int .i64 r.term, .string r.data] 72)).drew := Kk.trans (Kept.of_below Xk.lt b1)
        have u1 : ¬ b = wr.heap.size := Nat.ne_of_lt Lk.lt
        have u2 : ¬ wr.heap.size = b := Nat.ne_of_gt Lk.lt
        have p0 := L1.cells.1.1
        obtain ⟨⟨d0, d1, d2, d3⟩, hdf⟩ := R1.cells
        unfold recV at HCW
        clear b1 hdf
        go_wp2_with fail
        go_region_held3 (fun w' => w'.cell? ⟨b, 0, none⟩ = some (.pointer (some ⟨B, 0, none⟩)) ∧ w'.cell? ⟨wr.heap.size, 0, none⟩ = some (.int .i64 r.kind) ∧ w'.cell? ⟨wr.heap.size, 1, none⟩ = some (.int .i64 r.index) ∧ w'.cell? ⟨wr.heap.size, 2, none⟩ = some (.int .i64 r.term) ∧ w'.cell? ⟨wr.heap.size, 3, none⟩ = some (.string r.data)) (first | (with_reducible assumption) | (refine ⟨?_, ?_, ?_, ?_, ?_⟩ <;> with_reducible assumption) | go_keep)
          (first
            | (go_at_call 43; refine (HBL.out _ L1).mono ?_; rintro e w2 ⟨rfl, hb2⟩; have L2 := L1.below hb2; have R2 := R1.below hb2; have X2 := X1.below hb2; have B2 := B1.trans (hb2.mono (Nat.le_trans hn B1.size)); have K2 := K1.trans (Kept.of_below (fun k hk => X1.lt k (.inl hk)) hb2); have q0 := L2.cells.1.1; obtain ⟨⟨q1, q2, q3, q4⟩, _⟩ := R2.cells)
            | (go_at_call 64; refine (HCW.out w2 (Nat.le_trans hn B2.size) (HT.out _ B2) X2).mono ?_; rintro e w3 ⟨rfl, X3, hb3, hk3⟩; have L3 := L2.keep hk3 (.inl hE); have R3 : RecB w3 wr.heap.size r := R2.keep hk3 (.inr rfl); have B3 := B2.trans hb3; have K3 := K2.trans (hk3.mono (fun k hk => .inl hk)); have y0 := L3.cells.1.1; obtain ⟨⟨y1, y2, y3, y4⟩, _⟩ := R3.cells))
        all_goals
          have X4 := X3.less (F := E) (fun k hk => .inl hk)
          clear Xk Bk Kk Lk X1 X2 X3 L1 L2 L3 R1 R2 R3 K1 K2 B1 B2 HCW HBL c0 c1 c2 c3 p0 d0 d1 d2 d3 q0 q1 q2 q3 q4 y0 y1 y2 y3 y4 hb2 hb3 hk3
          by_cases hs : S.1 = 0
          · have es : (S.1 == 0) = true := by simpa using hs
            have HVN := Lib.hid (HX.out.1 hs)
            clear hs HX
            go_wp2_with fail
            go_roundw
            case rel => exact ⟨k + 1, S.2, by omega, by go_num, X4, B3, K3, by show S.2.writes ≤ _; have := HSW.out; have := HWk.out; omega, HVN.out⟩
            case measure => simp [intOf]; omega
          · have es : (S.1 == 0) = false := by simpa using hs
            have HVN : Hid (V = S) := HX.out.2 hs
            clear hs HX
            go_wp2_with fail
            go_ret
            exact ⟨by rw [HVN.out]; rfl, by rw [HVN.out]; exact X4, B3, K3⟩
    · obtain rfl : k = rs.length := by omega
      have HFL : Hid (V = D'.flush) := by
        show V = D'.flush
        rw [HVk.out, List.drop_length, wr_nil]
      have HC := Lib.hid (devw_flush hnk (by have := HWk.out; omega) Xk)
      rw [← HFL.out] at HC
      obtain ⟨⟨c0, _, _, _, _, _, _⟩, _⟩ := Lk.cells
      go_wp2_with fail
      refine HC.out.mono ?_
      rintro e w1 ⟨rfl, X1, hb, hkk⟩
      go_wp2_with fail
      go_ret
      exact ⟨rfl, X1, Bk.trans hb, Kk.trans hkk⟩
end
section
open Go.RowKit
set_option linter.unusedVariables false
set_option maxRecDepth 100000

theorem devw_write {n : Nat} {E : Nat → Prop} {w : World} {B : Nat} {D : Dv} (i : Int) (s : ByteArray) (hn : n ≤ w.heap.size) (hw : D.writes ≤ 1073741824) (h : DevW n E w B D) :
    Calls Tryd.prog 72 #[.pointer (some ⟨B, 0, none⟩), .int .i64 i, .string s] w fun e w' => e = .returned (.int .i64 (D.write i s).1) ∧ DevW n E w' B (D.write i s).2 ∧ Below n w w' ∧ Kept E w w' := by
  obtain ⟨S, h, hS, hE⟩ := h
  refine (write_any i s hw h).mono ?_
  rintro e w' ⟨rfl, h'⟩
  exact ⟨rfl, devw_mod hS hE hn h'⟩
theorem write_writes (D : Dv) (i : Int) (s : ByteArray) : (D.write i s).2.writes ≤ D.writes + 1 := by
  unfold Dv.write
  split
  · split
    · show D.op.writes ≤ _; rw [D.op_writes]; omega
    · split
      · show D.op.writes ≤ _; rw [D.op_writes]; omega
      · exact Nat.le_refl _
  · show D.op.writes ≤ _; rw [D.op_writes]; omega
/-- One pass: what it answers, the device, whether it wrote. -/
noncomputable def Dv.pass (L : Lg) (kd : Int) : List Int → Dv → Bool → Int × Dv × Bool
  | [], D, wt => (0, D, wt)
  | i :: l, D, wt =>
    if (D.sread (L.blk kd i)).2.2 ≠ 0 then ((D.sread (L.blk kd i)).2.2, D, wt)
    else if (D.sread (L.blk kd i)).2.1 ≠ 2 ∧ (D.sread (L.blk kd i)).1.index < i then Dv.pass L kd l D wt
    else if (D.write (L.blk kd i) ⟨#[]⟩).1 ≠ 0 then ((D.write (L.blk kd i) ⟨#[]⟩).1, (D.write (L.blk kd i) ⟨#[]⟩).2, wt)
    else Dv.pass L kd l (D.write (L.blk kd i) ⟨#[]⟩).2 true
noncomputable def Dv.clean1 (D : Dv) (L : Lg) (kd : Int) (is : List Int) : Int × Dv :=
  if (Dv.pass L kd is D false).1 ≠ 0 then ((Dv.pass L kd is D false).1, (Dv.pass L kd is D false).2.1)
  else if (Dv.pass L kd is D false).2.2 = true then (Dv.pass L kd is D false).2.1.flush else (0, (Dv.pass L kd is D false).2.1)
noncomputable def Dv.cleanL (L : Lg) (is : List Int) : List Int → Dv → Int × Dv
  | [], D => (0, D)
  | kd :: l, D => if (D.clean1 L kd is).1 ≠ 0 then D.clean1 L kd is else Dv.cleanL L is l (D.clean1 L kd is).2
/-- What clean answers, and the device. -/
noncomputable def Dv.clean (D : Dv) (L : Lg) (is : List Int) : Int × Dv := Dv.cleanL L is [3, 2] D
def idxs (f : Int) (c : Nat) : List Int := (List.range c).map fun (k : Nat) => f + (k : Int)
theorem idxs_length (f : Int) (c : Nat) : (idxs f c).length = c := by simp [idxs]
theorem idxs_drop (f : Int) (c k : Nat) (h : k < c) : (idxs f c).drop k = (f + (k : Int)) :: (idxs f c).drop (k + 1) := by
  have hl : k < (idxs f c).length := by rw [idxs_length]; exact h
  rw [List.drop_eq_getElem_cons hl]
  congr 1
  simp [idxs]
theorem pass_err {L : Lg} {kd i : Int} {l : List Int} {D : Dv} {wt : Bool} (h : (D.sread (L.blk kd i)).2.2 ≠ 0) : Dv.pass L kd (i :: l) D wt = ((D.sread (L.blk kd i)).2.2, D, wt) := by
  show (if _ then _ else _) = _
  rw [if_pos h]
theorem pass_skip {L : Lg} {kd i : Int} {l : List Int} {D : Dv} {wt : Bool} (h : (D.sread (L.blk kd i)).2.2 = 0) (h2 : (D.sread (L.blk kd i)).2.1 ≠ 2) (h3 : (D.sread (L.blk kd i)).1.index < i) : Dv.pass L kd (i :: l) D wt = Dv.pass L kd l D wt := by
  show (if _ then _ else _) = _
  rw [if_neg (by simp [h]), if_pos ⟨h2, h3⟩]
theorem pass_fail {L : Lg} {kd i : Int} {l : List Int} {D : Dv} {wt : Bool} (h : (D.sread (L.blk kd i)).2.2 = 0) (h2 : ¬ ((D.sread (L.blk kd i)).2.1 ≠ 2 ∧ (D.sread (L.blk kd i)).1.index < i)) (h3 : (D.write (L.blk kd i) ⟨#[]⟩).1 ≠ 0) :
    Dv.pass L kd (i :: l) D wt = ((D.write (L.blk kd i) ⟨#[]⟩).1, (D.write (L.blk kd i) ⟨#[]⟩).2, wt) := by
  show (if _ then _ else _) = _
  rw [if_neg (by simp [h]), if_neg h2, if_pos h3]
theorem pass_go {L : Lg} {kd i : Int} {l : List Int} {D : Dv} {wt : Bool} (h : (D.sread (L.blk kd i)).2.2 = 0) (h2 : ¬ ((D.sread (L.blk kd i)).2.1 ≠ 2 ∧ (D.sread (L.blk kd i)).1.index < i)) (h3 : (D.write (L.blk kd i) ⟨#[]⟩).1 = 0) :
    Dv.pass L kd (i :: l) D wt = Dv.pass L kd l (D.write (L.blk kd i) ⟨#[]⟩).2 true := by
  show (if _ then _ else _) = _
  rw [if_neg (by simp [h]), if_neg h2, if_neg (by simp [h3])]
theorem und_int2 : Tryd.prog.underlying 56 = some (.array 2 3) := by kernel_rfl
theorem idx2 (a b : Int) (j : Nat) (hj : j < 2) (W : World) : (Instr.index 56 (.agg #[.int .i64 a, .int .i64 b]) (.int .i64 (j : Int))).run Tryd.prog W = .ok (.int .i64 (if j = 0 then a else b)) W := by
  match j, hj with
  | 0, _ => simp [Instr.index, run_underlying und_int2, asIntOf, sizeOf, go_sem]
  | 1, _ => simp [Instr.index, run_underlying und_int2, asIntOf, sizeOf, go_sem]; rfl
set_option maxHeartbeats 4000000 in
theorem pclean_any {n : Nat} {E : Nat → Prop} {w : World} {B : Nat} {D : Dv} {b bt bd : Nat} {L : Lg} (f : Int) (c : Nat) (hW : DevW n E w B D) (hL : LogB w b B bt bd L) (hE : E b) (hn : n ≤ w.heap.size)
    (hT : ∀ x, Below n w x → Tabs x) (hw : D.writes ≤ 1073000000) (hf : L.Fit) (hfr : 0 ≤ f ∧ f ≤ 4611686018427387904) (hc : c ≤ 4096) :
    Calls Tryd.prog 48 #[.pointer (some ⟨b, 0, none⟩), .int .i64 f, .int .i64 c] w fun e w' => e = .returned (.int .i64 (D.clean L (idxs f c)).1) ∧ DevW n E w' B (D.clean L (idxs f c)).2 ∧ Below n w w' ∧ Kept E w w' := by
  have HT := Lib.hid hT
  have HF := Lib.hid hf
  obtain ⟨is, his⟩ : ∃ is, is = idxs f c := ⟨_, rfl⟩
  have HIS : Hid (∀ k, k < c → is.drop k = (f + (k : Int)) :: is.drop (k + 1)) := by
    show ∀ k, k < c → _
    rw [his]
    exact fun k hk => idxs_drop f c k hk
  have HIL : Hid (is.drop c = []) := by
    show is.drop c = []
    rw [his]
    exact List.drop_eq_nil_of_le (by rw [idxs_length]; exact Nat.le_refl _)
  rw [← his]
  clear his
  obtain ⟨V, hV⟩ : ∃ V, V = D.clean L is := ⟨_, rfl⟩
  rw [← hV]
  have HV : Hid (V = Dv.cleanL L is ([3, 2].drop 0) D) := hV
  have HWR := Lib.hid hw
  have HLB := Lib.hid (fun (W : World) (k : Kept E w W) => hL.keep k hE)
  have hidx := idx2 3 2
  clear hT hf hV hw hL
  go_enter Tryd.func48, Tryd.ntmps48
  go_wp2_with fail
  go_loopw [19] (fun i wr => ∃ (j : Nat) (D' : Dv), j ≤ 2 ∧ i = .int .i64 j ∧ DevW n E wr B D' ∧ Below n w wr ∧ Kept E w wr ∧ Hid (D'.writes ≤ 1073000000 + 5000 * j) ∧ Hid (V = Dv.cleanL L is ([3, 2].drop j) D')) (fun i _ => 2 - (intOf i).toNat)
  case atStart => exact ⟨0, D, by omega, rfl, hW, Below.refl _ _, Kept.refl _ _, HWR.out, HV.out⟩
  case round =>
    obtain ⟨j, D', hj, rfl, Xj, Bj, Kj, HWj, HVj⟩ := hrel
    clear hW HV HWR
    by_cases hlt : j < 2
    · have hlt' : (j : Int) < 2 := by omega
      have hix := fun (W : World) => hidx j hlt W
      obtain ⟨kd, hkd⟩ : ∃ kd : Int, kd = if j = 0 then 3 else 2 := ⟨_, rfl⟩
      rw [← hkd] at hix
      have HD : Hid ([3, 2].drop j = kd :: [3, 2].drop (j + 1)) := by
        show [3, 2].drop j = kd :: [3, 2].drop (j + 1)
        obtain rfl | rfl : j = 0 ∨ j = 1 := by omega
        · rw [hkd]; rfl
        · rw [hkd]; rfl
      obtain ⟨P, hP⟩ : ∃ P, P = Dv.pass L kd (is.drop 0) D' false := ⟨_, rfl⟩
      have HPS : Hid (P = Dv.pass L kd (is.drop 0) D' false) := hP
      have HC1 : Hid ((P.1 ≠ 0 → V = (P.1, P.2.1)) ∧ (P.1 = 0 → P.2.2 = false → V = Dv.cleanL L is ([3, 2].drop (j + 1)) P.2.1) ∧ (P.1 = 0 → P.2.2 = true → (P.2.1.flush.1 ≠ 0 → V = P.2.1.flush) ∧ (P.2.1.flush.1 = 0 → V = Dv.cleanL L is ([3, 2].drop (j + 1)) P.2.1.flush.2))) := by
        show _ ∧ _
        have hv := HVj.out
        rw [HD.out] at hv
        have hv2 : V = if (D'.clean1 L kd is).1 ≠ 0 then D'.clean1 L kd is else Dv.cleanL L is ([3, 2].drop (j + 1)) (D'.clean1 L kd is).2 := hv
        have hcl : D'.clean1 L kd is = if P.1 ≠ 0 then (P.1, P.2.1) else if P.2.2 = true then P.2.1.flush else (0, P.2.1) := by rw [hP]; rfl
        refine ⟨fun h => ?_, fun h h2 => ?_, fun h h2 => ⟨fun h3 => ?_, fun h3 => ?_⟩⟩
        · rw [if_pos h] at hcl; rw [hv2, hcl, if_pos h]
        · rw [if_neg (by simp [h]), if_neg (by simp [h2])] at hcl; rw [hv2, hcl, if_neg (by simp)]
        · rw [if_neg (by simp [h]), if_pos h2] at hcl; rw [hv2, hcl, if_pos h3]
        · rw [if_neg (by simp [h]), if_pos h2] at hcl; rw [hv2, hcl, if_neg (by simp [h3])]
      clear hP HVj hkd hidx HD
      go_wp2_with fail
      go_loopw [9, 23] (fun wv i wq => ∃ (k : Nat) (Dk : Dv) (wt : Bool), k ≤ c ∧ wv = .bool wt ∧ i = .int .i64 k ∧ DevW n E wq B Dk ∧ Below n w wq ∧ Kept E w wq ∧ Hid (Dk.writes ≤ 1073000000 + 5000 * j + k) ∧ Hid (P = Dv.pass L kd (is.drop k) Dk wt)) (fun _ i _ => c - (intOf i).toNat)
      case atStart => exact ⟨0, D', false, by omega, rfl, rfl, Xj, Bj, Kj, HWj.out, HPS.out⟩
      case round =>
        obtain ⟨k, Dk, wt, hk, rfl, rfl, Xk, Bk, Kk, HWk, HPk⟩ := hrel
        clear Xj Bj Kj HWj HPS
        have hnk : n ≤ wr.heap.size := Nat.le_trans hn Bk.size
        have Lk := HLB.out wr Kk
        by_cases hkc : k < c
        · have hkc' : (k : Int) < (c : Int) := by omega
          obtain ⟨i, hi⟩ : ∃ i, i = f + (k : Int) := ⟨_, rfl⟩
          have e1 : IntKind.i64.wrap (f + (k : Int)) = i := (IntWalk.i64_in _ (by omega)).trans hi.symm
          have hi0 : 0 ≤ i := by omega
          have hdr := HIS.out k hkc
          rw [← hi] at hdr
          have HBL := Lib.hid (pblock_any kd i Lk (by have := HF.out.size; omega) (by have := HF.out.base; omega) hi0)
          obtain ⟨bk, hbk⟩ : ∃ bk, bk = L.blk kd i := ⟨_, rfl⟩
          have HX : Hid (((Dk.sread bk).2.2 ≠ 0 → P = ((Dk.sread bk).2.2, Dk, wt)) ∧ ((Dk.sread bk).2.2 = 0 → (Dk.sread bk).2.1 ≠ 2 → (Dk.sread bk).1.index < i → P = Dv.pass L kd (is.drop (k + 1)) Dk wt) ∧
              ((Dk.sread bk).2.2 = 0 → ¬ ((Dk.sread bk).2.1 ≠ 2 ∧ (Dk.sread bk).1.index < i) → ((Dk.write bk ⟨#[]⟩).1 ≠ 0 → P = ((Dk.write bk ⟨#[]⟩).1, (Dk.write bk ⟨#[]⟩).2, wt)) ∧ ((Dk.write bk ⟨#[]⟩).1 = 0 → P = Dv.pass L kd (is.drop (k + 1)) (Dk.write bk ⟨#[]⟩).2 true))) := by
            show _ ∧ _
            rw [HPk.out, hdr, hbk]
            exact ⟨fun h => pass_err h, fun h h2 h3 => pass_skip h h2 h3, fun h h2 => ⟨fun h3 => pass_fail h h2 h3, fun h3 => pass_go h h2 h3⟩⟩
          have HSR := Lib.hid (fun (W : World) (hb : Below wr.heap.size wr W) => devw_sread bk (HT.out _ (Bk.trans (hb.mono hnk))) (by have := HWk.out; omega) (Xk.below hb))
          have HWW := Lib.hid (write_writes Dk bk ⟨#[]⟩)
          have HCW := Lib.hid (fun (W : World) (hnW : n ≤ W.heap.size) (hX : DevW n E W B Dk) => devw_write bk ⟨#[]⟩ hnW (by have := HWk.out; omega) hX)
          rw [← hbk] at HBL
          generalize Dk.sread bk = X at HX HSR
          generalize Dk.write bk ⟨#[]⟩ = Y at HX HWW HCW
          obtain ⟨r, st, er⟩ := X
          simp only at HX
          unfold sreadV recV at HSR
          simp only at HSR
          clear hi hdr hbk HPk
          go_wp2_with fail
          refine HBL.out.mono ?_
          rintro e w2 ⟨rfl, hb2⟩
          have L2 := Lk.below hb2
          have p0 := L2.cells.1.1
          go_wp2_with fail
          refine (HSR.out w2 hb2).mono ?_
          rintro e w3 ⟨rfl, hb3⟩
          have b4 := (Below.refl w3.heap.size w3).alloc (Nat.le_refl _) (.cells #[.int .i64 r.kind, .int .i64 r.index, .int .i64 r.term, .string r.data] 72)
          have R4 := RecB.new w3 r
          have hb := (hb2.trans (hb3.mono hb2.size)).trans (b4.mono (Nat.le_trans hb2.size hb3.size))
          have L4 := Lk.below hb
          have X4 := Xk.below hb
          have B4 := Bk.trans (hb.mono hnk)
          have K4 := Kk.trans (Kept.of_below Xk.lt hb)
          have hn4 := Nat.le_trans hn B4.size
          have q0 := L4.cells.1.1
          obtain ⟨⟨d0, d1, d2, d3⟩, hdf⟩ := R4.cells
          clear hb2 hb3 b4 hb L2 p0 HBL HSR Xk Bk Kk Lk hdf
          by_cases he : er = 0
          · subst he
            by_cases hs : st = 2
            · have es : (st == 2) = true := by simpa using hs
              have hno : ¬ (st ≠ 2 ∧ r.index < i) := fun h => h.1 hs
              have HW2 := Lib.hid (HX.out.2.2 rfl hno)
              clear HX hno
              go_wp2_with fail
              refine (HCW.out _ hn4 X4).mono ?_
              rintro e w5 ⟨rfl, X5, hb5, hk5⟩
              have B5 := B4.trans hb5
              have K5 := K4.trans hk5
              clear hb5 hk5 X4 B4 K4 L4 R4 q0 d0 d1 d2 d3 HCW
              by_cases hy : Y.1 = 0
              · have ey : (Y.1 == 0) = true := by simpa using hy
                have HPN := Lib.hid (HW2.out.2 hy)
                clear hy HW2
                go_wp2_with fail
                go_roundw
                case rel => exact ⟨k + 1, Y.2, true, by omega, rfl, by go_num, X5, B5, K5, by show Y.2.writes ≤ _; have := HWW.out; have := HWk.out; omega, HPN.out⟩
                case measure => simp [intOf]; omega
              · have ey : (Y.1 == 0) = false := by simpa using hy
                have HPN : Hid (P = (Y.1, Y.2, wt)) := HW2.out.1 hy
                have HVE : Hid (V = (Y.1, Y.2)) := by
                  show V = _
                  have h := HC1.out.1 (by rw [HPN.out]; exact hy)
                  rw [h, HPN.out]
                clear hy HW2
                go_wp2_with fail
                go_ret
                exact ⟨by rw [HVE.out]; rfl, by rw [HVE.out]; exact X5, B5, K5⟩
            · have es : (st == 2) = false := by simpa using hs
              by_cases hx : r.index < i
              · have ex : decide (r.index < i) = true := by simpa using hx
                have HPN := Lib.hid (HX.out.2.1 rfl hs hx)
                clear HX
                go_wp2_with fail
                go_roundw
                case rel => exact ⟨k + 1, Dk, wt, by omega, rfl, by go_num, X4, B4, K4, by show Dk.writes ≤ _; have := HWk.out; omega, HPN.out⟩
                case measure => simp [intOf]; omega
              · have ex : decide (r.index < i) = false := by simpa using hx
                have hno : ¬ (st ≠ 2 ∧ r.index < i) := fun h => hx h.2
                have HW2 := Lib.hid (HX.out.2.2 rfl hno)
                clear HX hno
                go_wp2_with fail
                refine (HCW.out _ hn4 X4).mono ?_
                rintro e w5 ⟨rfl, X5, hb5, hk5⟩
                have B5 := B4.trans hb5
                have K5 := K4.trans hk5
                clear hb5 hk5 X4 B4 K4 L4 R4 q0 d0 d1 d2 d3 HCW
                by_cases hy : Y.1 = 0
                · have ey : (Y.1 == 0) = true := by simpa using hy
                  have HPN := Lib.hid (HW2.out.2 hy)
                  clear hy HW2
                  go_wp2_with fail
                  go_roundw
                  case rel => exact ⟨k + 1, Y.2, true, by omega, rfl, by go_num, X5, B5, K5, by show Y.2.writes ≤ _; have := HWW.out; have := HWk.out; omega, HPN.out⟩
                  case measure => simp [intOf]; omega
                · have ey : (Y.1 == 0) = false := by simpa using hy
                  have HPN : Hid (P = (Y.1, Y.2, wt)) := HW2.out.1 hy
                  have HVE : Hid (V = (Y.1, Y.2)) := by
                    show V = _
                    have h := HC1.out.1 (by rw [HPN.out]; exact hy)
                    rw [h, HPN.out]
                  clear hy HW2
                  go_wp2_with fail
                  go_ret
                  exact ⟨by rw [HVE.out]; rfl, by rw [HVE.out]; exact X5, B5, K5⟩
          · have ee : (er == 0) = false := by simpa using he
            have HPN : Hid (P = (er, Dk, wt)) := HX.out.1 he
            have HVE : Hid (V = (er, Dk)) := by
              show V = _
              have h := HC1.out.1 (by rw [HPN.out]; exact he)
              rw [h, HPN.out]
            clear he HX
            go_wp2_with fail
            go_ret
            exact ⟨by rw [HVE.out]; rfl, by rw [HVE.out]; exact X4, B4, K4⟩
        · obtain rfl : k = c := by omega
          have HPE : Hid (P = (0, Dk, wt)) := by
            show P = _
            rw [HPk.out, HIL.out]
            rfl
          have p0 := Lk.cells.1.1
          cases wt with
          | true =>
            have HFV : Hid ((Dk.flush.1 ≠ 0 → V = Dk.flush) ∧ (Dk.flush.1 = 0 → V = Dv.cleanL L is ([3, 2].drop (j + 1)) Dk.flush.2)) := by
              show _ ∧ _
              have h := HC1.out.2.2 (by rw [HPE.out]) (by rw [HPE.out])
              rw [HPE.out] at h
              exact h
            have HFW := Lib.hid (flush_writes Dk)
            have HFL := Lib.hid (devw_flush hnk (by have := HWk.out; omega) Xk)
            generalize Dk.flush = Y at HFV HFW HFL
            clear HPE HPk HC1
            go_wp2_with fail
            refine HFL.out.mono ?_
            rintro e w5 ⟨rfl, X5, hb5, hk5⟩
            have B5 := Bk.trans hb5
            have K5 := Kk.trans hk5
            clear hb5 hk5 Xk Bk Kk Lk p0 HFL
            by_cases hy : Y.1 = 0
            · have ey : (Y.1 == 0) = true := by simpa using hy
              have HVN := Lib.hid (HFV.out.2 hy)
              clear hy HFV
              go_wp2_with fail
              go_roundw
              case rel => exact ⟨j + 1, Y.2, by omega, by go_num, X5, B5, K5, by show Y.2.writes ≤ _; have := HFW.out; have := HWk.out; omega, HVN.out⟩
              case measure => simp [intOf]; omega
            · have ey : (Y.1 == 0) = false := by simpa using hy
              have HVE := Lib.hid (HFV.out.1 hy)
              clear hy HFV
              go_wp2_with fail
              go_ret
              exact ⟨by rw [HVE.out]; rfl, by rw [HVE.out]; exact X5, B5, K5⟩
          | false =>
            have HVN : Hid (V = Dv.cleanL L is ([3, 2].drop (j + 1)) Dk) := by
              show V = _
              have h := HC1.out.2.1 (by rw [HPE.out]) (by rw [HPE.out])
              rw [HPE.out] at h
              exact h
            clear HPE HPk HC1
            go_wp2_with fail
            go_roundw
            case rel => exact ⟨j + 1, Dk, by omega, by go_num, Xk, Bk, Kk, by show Dk.writes ≤ _; have := HWk.out; omega, HVN.out⟩
            case measure => simp [intOf]; omega
    · obtain rfl : j = 2 := by omega
      have HVE : Hid (V = (0, D')) := HVj.out
      go_wp2_with fail
      go_ret
      exact ⟨by rw [HVE.out]; rfl, by rw [HVE.out]; exact Xj, Bj, Kj⟩
end
section
open Go.RowKit Go.Maps
set_option linter.unusedVariables false
set_option maxRecDepth 100000

def InR (z : Int) : Prop := -9223372036854775808 ≤ z ∧ z ≤ 9223372036854775807
theorem wfR {z : Int} (h : InR z) : (Lit.int .i64 z).wf = true := (Lit.wf_int_iff .i64 z).2 ⟨by rw [show IntKind.i64.min = -9223372036854775808 by decide]; exact h.1, by rw [show IntKind.i64.max = 9223372036854775807 by decide]; exact h.2⟩
theorem und_i : Tryd.prog.underlying 3 = some (.int .i64) := by kernel_rfl
theorem und_mi : Tryd.prog.underlying 48 = some (.map 3 3) := by kernel_rfl
theorem und_ms : Tryd.prog.underlying 98 = some (.map 3 104) := by kernel_rfl
theorem lawI : Keyed Tryd.prog 3 := int_keyed und_i
theorem zero_i (w : World) : (zeroValue 3).run Tryd.prog w = .ok (.int .i64 0) w := by kernel_rfl
theorem keyI {z : Int} (h : InR z) : keyOf Tryd.prog 3 (.int .i64 z) = some (.int .i64 z) := keyOf_int_mk und_i (wfR h)
theorem key_ne {a b : Int} (h : a ≠ b) : (Lit.int .i64 a) ≠ .int .i64 b := fun e => h (by injection e)
theorem isKeyI (z : Int) : Go.WideAt.IsKeyLit (.int .i64 z) := trivial
/-- Block b is a map of at most k entries that reads as T; a set that reads as S. -/
def MapI (w : World) (b k : Nat) (T : Int → Option Int) : Prop :=
  ∃ D : DataW Unit, w.ownsMap Tryd.prog 3 (plainElem Tryd.prog 3) b k D ∧ ∀ z, InR z → Maps.has D (.int .i64 z) = (T z).isSome ∧ ∀ t, T z = some t → D.atKey (.int .i64 z) (.lit (.int .i64 0)) = .lit (.int .i64 t)
def SetI (w : World) (b k : Nat) (S : Int → Bool) : Prop :=
  ∃ D : DataW Unit, w.ownsMap Tryd.prog 3 unitElem b k D ∧ ∀ z, InR z → Maps.has D (.int .i64 z) = S z
def upd (T : Int → Option Int) (z : Int) (v : Option Int) : Int → Option Int := fun x => if x = z then v else T x
def ups (S : Int → Bool) (z : Int) (v : Bool) : Int → Bool := fun x => if x = z then v else S x
section
variable {w w' : World} {b k : Nat} {T : Int → Option Int} {S : Int → Bool}
theorem MapI.lt (h : MapI w b k T) : b < w.heap.size := by obtain ⟨D, h, _⟩ := h; exact h.lt
theorem SetI.lt (h : SetI w b k S) : b < w.heap.size := by obtain ⟨D, h, _⟩ := h; exact h.lt
theorem MapI.mono (h : MapI w b k T) {k' : Nat} (hk : k ≤ k') : MapI w b k' T := by obtain ⟨D, h, hD⟩ := h; exact ⟨D, h.mono hk, hD⟩
theorem SetI.mono (h : SetI w b k S) {k' : Nat} (hk : k ≤ k') : SetI w b k' S := by obtain ⟨D, h, hD⟩ := h; exact ⟨D, h.mono hk, hD⟩
theorem MapI.keep0 (h : MapI w b k T) (hs : w'.heap[b]? = w.heap[b]?) : MapI w' b k T := by
  obtain ⟨D, ⟨es, clock, hb, F, hn, hD⟩, hT⟩ := h
  exact ⟨D, ⟨es, clock, hs.trans hb, F, hn, hD⟩, hT⟩
theorem SetI.keep0 (h : SetI w b k S) (hs : w'.heap[b]? = w.heap[b]?) : SetI w' b k S := by
  obtain ⟨D, ⟨es, clock, hb, F, hn, hD⟩, hT⟩ := h
  exact ⟨D, ⟨es, clock, hs.trans hb, F, hn, hD⟩, hT⟩
theorem MapI.keep {E : Nat → Prop} (h : MapI w b k T) (kp : Kept E w w') (hb : E b) : MapI w' b k T := h.keep0 (kp b hb)
theorem SetI.keep {E : Nat → Prop} (h : SetI w b k S) (kp : Kept E w w') (hb : E b) : SetI w' b k S := h.keep0 (kp b hb)
theorem MapI.below (h : MapI w b k T) (kp : Below w.heap.size w w') : MapI w' b k T := h.keep0 (kp.block b h.lt)
theorem SetI.below (h : SetI w b k S) (kp : Below w.heap.size w w') : SetI w' b k S := h.keep0 (kp.block b h.lt)
theorem MapI.new (w : World) : MapI (w.alloc (.map #[] 0)) w.heap.size 0 (fun _ => none) := ⟨.map [], World.ownsMap_made w _ _ _, fun z _ => ⟨rfl, fun t h => by cases h⟩⟩
theorem SetI.new (w : World) : SetI (w.alloc (.map #[] 0)) w.heap.size 0 (fun _ => false) := ⟨.map [], World.ownsMap_made w _ _ _, fun z _ => rfl⟩
theorem MapI.at (h : MapI w b k T) {z : Int} (hz : InR z) {c : Int} {D : DataW Unit} (hD : Maps.has D (.int .i64 z) = (T z).isSome ∧ ∀ t, T z = some t → D.atKey (.int .i64 z) (.lit (.int .i64 0)) = .lit (.int .i64 t)) (hat : D.atKey (.int .i64 z) (.lit (.int .i64 0)) = .lit (.int .i64 c)) : c = (T z).getD 0 := by
  cases ht : T z with
  | none =>
    have h1 := atKey_of_not_has (D := D) (k := .int .i64 z) (by rw [hD.1, ht]; rfl) (.lit (.int .i64 0))
    rw [h1] at hat
    injection hat with hat
    injection hat with _ hat
    exact hat.symm
  | some t =>
    rw [hD.2 t ht] at hat
    injection hat with hat
    injection hat with _ hat
    exact hat.symm
theorem MapI.look (h : MapI w b k T) {z : Int} (hz : InR z) : (Instr.lookup 48 (.map (some b)) (.int .i64 z) false).run Tryd.prog w = .ok (.int .i64 ((T z).getD 0)) w := by
  have h0 := h
  obtain ⟨D, ho, hD⟩ := h
  obtain ⟨c, hrun, hat, _⟩ := ho.lookup_int lawI und_mi und_i (zero_i w) (keyI hz)
  rw [hrun, h0.at hz (hD z hz) hat]
theorem MapI.look_ok (h : MapI w b k T) {z : Int} (hz : InR z) : (Instr.lookup 48 (.map (some b)) (.int .i64 z) true).run Tryd.prog w = .ok (.tuple #[.int .i64 ((T z).getD 0), .bool (T z).isSome]) w := by
  have h0 := h
  obtain ⟨D, ho, hD⟩ := h
  obtain ⟨v, ps, hrun, hv⟩ := ho.look_ok lawI und_mi (zero_i w) (plainElem_int und_i (by decide)) (keyI hz)
  obtain ⟨c, rfl, hc, _⟩ := plainElem_int_inv und_i hv
  rw [hrun, h0.at hz (hD z hz) (congrArg Prod.fst hc), (hD z hz).1]
theorem MapI.store (h : MapI w b k T) (hk : k < 1000000000) {z t : Int} (hz : InR z) (ht : InR t) :
    ∃ w', (Instr.mapUpdate 48 (.map (some b)) (.int .i64 z) (.int .i64 t)).run Tryd.prog w = .ok () w' ∧ MapI w' b (k + 1) (upd T z (some t)) ∧ w.grownBy w' (some b) := by
  obtain ⟨D, ho, hD⟩ := h
  obtain ⟨w', hrun, ho', hm⟩ := ho.update lawI und_mi (by unfold maxLen; omega) (keyI hz) (plainElem_int und_i (wfR ht))
  refine ⟨w', hrun, ⟨_, ho', fun x hx => ?_⟩, hm⟩
  unfold upd
  by_cases he : x = z
  · subst he
    rw [if_pos rfl]
    refine ⟨by rw [has_put_same ho.isMap (isKeyI x)]; rfl, fun t' h' => ?_⟩
    rw [atKey_put_same ho.isMap (isKeyI x)]
    injection h' with h'
    rw [h']
  · rw [if_neg he, has_put_other (key_ne he)]
    exact ⟨(hD x hx).1, fun t' h' => by rw [atKey_put_other (key_ne he)]; exact (hD x hx).2 t' h'⟩
theorem SetI.store (h : SetI w b k S) (hk : k < 1000000000) {z : Int} (hz : InR z) :
    ∃ w', (Instr.mapUpdate 98 (.map (some b)) (.int .i64 z) (.agg #[])).run Tryd.prog w = .ok () w' ∧ SetI w' b (k + 1) (ups S z true) ∧ w.grownBy w' (some b) := by
  obtain ⟨D, ho, hD⟩ := h
  obtain ⟨w', hrun, ho', hm⟩ := ho.update lawI und_ms (by unfold maxLen; omega) (keyI hz) unitElem_mk
  refine ⟨w', hrun, ⟨_, ho', fun x hx => ?_⟩, hm⟩
  unfold ups
  by_cases he : x = z
  · subst he
    rw [if_pos rfl, has_put_same ho.isMap (isKeyI x)]
  · rw [if_neg he, has_put_other (key_ne he)]
    exact hD x hx
theorem MapI.del (h : MapI w b k T) {z : Int} (hz : InR z) (ty : TypeId) :
    ∃ w', (Builtin.delete_ #[48, 3] ty #[.map (some b), .int .i64 z]).run Tryd.prog w = .ok (.tuple #[]) w' ∧ MapI w' b k (upd T z none) ∧ w.grownBy w' (some b) := by
  obtain ⟨D, ho, hD⟩ := h
  obtain ⟨w', hrun, ho', hm⟩ := ho.drop lawI und_mi (keyI hz) ty
  refine ⟨w', hrun, ⟨_, ho', fun x hx => ?_⟩, hm.grown⟩
  unfold upd
  by_cases he : x = z
  · subst he
    rw [if_pos rfl]
    exact ⟨by rw [has_del_same]; rfl, fun t' h' => by cases h'⟩
  · rw [if_neg he, has_del_other (key_ne he)]
    exact ⟨(hD x hx).1, fun t' h' => by rw [atKey_del_other (key_ne he)]; exact (hD x hx).2 t' h'⟩
theorem SetI.del (h : SetI w b k S) {z : Int} (hz : InR z) (ty : TypeId) :
    ∃ w', (Builtin.delete_ #[98, 3] ty #[.map (some b), .int .i64 z]).run Tryd.prog w = .ok (.tuple #[]) w' ∧ SetI w' b k (ups S z false) ∧ w.grownBy w' (some b) := by
  obtain ⟨D, ho, hD⟩ := h
  obtain ⟨w', hrun, ho', hm⟩ := ho.drop lawI und_ms (keyI hz) ty
  refine ⟨w', hrun, ⟨_, ho', fun x hx => ?_⟩, hm.grown⟩
  unfold ups
  by_cases he : x = z
  · subst he
    rw [if_pos rfl, has_del_same]
  · rw [if_neg he, has_del_other (key_ne he)]
    exact hD x hx
end
end
section
open Go.RowKit
set_option linter.unusedVariables false
set_option maxRecDepth 100000

structure LogW (n : Nat) (E : Nat → Prop) (w : World) (b B bt bd : Nat) (D : Dv) (L : Lg) (k : Nat) (T : Int → Option Int) (S : Int → Bool) : Prop where
  dev : DevW n E w B D
  log : LogB w b B bt bd L
  terms : MapI w bt k T
  hurts : SetI w bd k S
  eb : E b
  et : E bt
  ed : E bd
  nb : n ≤ b
  nt : n ≤ bt
  nd : n ≤ bd
  bt_ne : b ≠ bt
  bd_ne : b ≠ bd
  td_ne : bt ≠ bd
/-- The blocks of E but the log's three. -/
def But (E : Nat → Prop) (b bt bd : Nat) : Nat → Prop := fun j => E j ∧ j ≠ b ∧ j ≠ bt ∧ j ≠ bd
theorem DevW.grown {n : Nat} {E : Nat → Prop} {w x : World} {B : Nat} {D : Dv} {g : Nat} (h : DevW n E w B D) (hg : w.grownBy x (some g)) (hE : E g) : DevW n E x B D := by
  obtain ⟨S, ⟨R, sv, C, h⟩, hS, hl⟩ := h
  exact ⟨S, ⟨R, sv, C, h.keep hg.size (fun k hk => hg.block k (h.lt k hk) (fun e => (hS k hk).2 (by obtain rfl := Option.some.inj e; exact hE)))⟩, hS, fun k hk => Nat.lt_of_lt_of_le (hl k hk) hg.size⟩
theorem DevW.setCell {n : Nat} {E : Nat → Prop} {w : World} {B : Nat} {D : Dv} (h : DevW n E w B D) {p : Addr} (hE : E p.block) (hn : n ≤ p.block) (v : Value) : DevW n E (w.setCell p v) B D := by
  obtain ⟨S, ⟨R, sv, C, h⟩, hS, hl⟩ := h
  exact ⟨S, ⟨R, sv, C, h.keep (by simp) (fun k hk => Below.heap_setCell w p v k (fun e => (hS k hk).2 (by rw [e]; exact hE)))⟩, hS, fun k hk => by simpa using hl k hk⟩
theorem grown_below {n : Nat} {a w x : World} {g : Nat} (h : Below n a w) (hg : w.grownBy x (some g)) (hn : n ≤ g) (hs : n ≤ w.heap.size) : Below n a x := h.grown hg hs (fun k hk => by obtain rfl := Option.some.inj hk; exact hn)
section
variable {n : Nat} {E : Nat → Prop} {w x : World} {b B bt bd : Nat} {D : Dv} {L : Lg} {k : Nat} {T : Int → Option Int} {S : Int → Bool}
theorem LogW.below (h : LogW n E w b B bt bd D L k T S) (hb : Below w.heap.size w x) : LogW n E x b B bt bd D L k T S :=
  ⟨h.dev.below hb, h.log.below hb, h.terms.below hb, h.hurts.below hb, h.eb, h.et, h.ed, h.nb, h.nt, h.nd, h.bt_ne, h.bd_ne, h.td_ne⟩
theorem LogW.drew (h : LogW n E w b B bt bd D L k T S) : LogW n E w.drew b B bt bd D L k T S := h.below ((Below.refl _ w).drew)
theorem LogW.mono (h : LogW n E w b B bt bd D L k T S) {k' : Nat} (hk : k ≤ k') : LogW n E w b B bt bd D L k' T S :=
  ⟨h.dev, h.log, h.terms.mono hk, h.hurts.mono hk, h.eb, h.et, h.ed, h.nb, h.nt, h.nd, h.bt_ne, h.bd_ne, h.td_ne⟩
theorem LogW.less {F : Nat → Prop} (h : LogW n E w b B bt bd D L k T S) (hF : ∀ j, F j → E j) (hb : F b) (ht : F bt) (hd : F bd) : LogW n F w b B bt bd D L k T S :=
  ⟨h.dev.less hF, h.log, h.terms, h.hurts, hb, ht, hd, h.nb, h.nt, h.nd, h.bt_ne, h.bd_ne, h.td_ne⟩
/-- The device turned, the rest kept. -/
theorem LogW.turn {D' : Dv} (h : LogW n E w b B bt bd D L k T S) (hd : DevW n E x B D') (hk : Kept E w x) : LogW n E x b B bt bd D' L k T S :=
  ⟨hd, h.log.keep hk h.eb, h.terms.keep hk h.et, h.hurts.keep hk h.ed, h.eb, h.et, h.ed, h.nb, h.nt, h.nd, h.bt_ne, h.bd_ne, h.td_ne⟩
theorem LogW.setCount (h : LogW n E w b B bt bd D L k T S) (c : Int) : LogW n E (w.setCell ⟨b, 4, none⟩ (.int .i64 c)) b B bt bd D { L with count := c } k T S :=
  ⟨h.dev.setCell h.eb h.nb _, h.log.setCount c, h.terms.keep0 (block_setCell_other (fun e => h.bt_ne e.symm)), h.hurts.keep0 (block_setCell_other (fun e => h.bd_ne e.symm)), h.eb, h.et, h.ed, h.nb, h.nt, h.nd, h.bt_ne, h.bd_ne, h.td_ne⟩
theorem LogW.setFirst (h : LogW n E w b B bt bd D L k T S) (c : Int) : LogW n E (w.setCell ⟨b, 3, none⟩ (.int .i64 c)) b B bt bd D { L with first := c } k T S :=
  ⟨h.dev.setCell h.eb h.nb _, h.log.setFirst c, h.terms.keep0 (block_setCell_other (fun e => h.bt_ne e.symm)), h.hurts.keep0 (block_setCell_other (fun e => h.bd_ne e.symm)), h.eb, h.et, h.ed, h.nb, h.nt, h.nd, h.bt_ne, h.bd_ne, h.td_ne⟩
theorem LogW.newTerms {k' : Nat} {T' : Int → Option Int} (h : LogW n E w b B bt bd D L k T S) (hg : w.grownBy x (some bt)) (hT : MapI x bt k' T') (hk : k ≤ k') : LogW n E x b B bt bd D L k' T' S :=
  ⟨h.dev.grown hg h.et, (hg.block b h.log.lt (fun e => h.bt_ne (Option.some.inj e))).trans h.log, hT, (h.hurts.keep0 (hg.block bd h.hurts.lt (fun e => h.td_ne (Option.some.inj e).symm))).mono hk, h.eb, h.et, h.ed, h.nb, h.nt, h.nd, h.bt_ne, h.bd_ne, h.td_ne⟩
theorem LogW.newHurts {k' : Nat} {S' : Int → Bool} (h : LogW n E w b B bt bd D L k T S) (hg : w.grownBy x (some bd)) (hS : SetI x bd k' S') (hk : k ≤ k') : LogW n E x b B bt bd D L k' T S' :=
  ⟨h.dev.grown hg h.ed, (hg.block b h.log.lt (fun e => h.bd_ne (Option.some.inj e))).trans h.log, (h.terms.keep0 (hg.block bt h.terms.lt (fun e => h.td_ne (Option.some.inj e)))).mono hk, hS, h.eb, h.et, h.ed, h.nb, h.nt, h.nd, h.bt_ne, h.bd_ne, h.td_ne⟩
theorem Kept.grown {F : Nat → Prop} {a : World} {g : Nat} (h : Kept F a w) (hg : w.grownBy x (some g)) (hF : ∀ j, F j → j < w.heap.size ∧ j ≠ g) : Kept F a x := fun j hj => (hg.block j (hF j hj).1 (fun e => (hF j hj).2 (Option.some.inj e))).trans (h j hj)
theorem Kept.cell {F : Nat → Prop} {a : World} {p : Addr} (h : Kept F a w) (hF : ∀ j, F j → j ≠ p.block) (v : Value) : Kept F a (w.setCell p v) := fun j hj => (Below.heap_setCell w p v j (hF j hj)).trans (h j hj)
end
set_option maxHeartbeats 4000000 in
theorem pterm_any {w : World} {b B bt bd k : Nat} {L : Lg} {T : Int → Option Int} (i : Int) (h : LogB w b B bt bd L) (hT : MapI w bt k T) (hi : InR i) :
    Calls Tryd.prog 54 #[.pointer (some ⟨b, 0, none⟩), .int .i64 i] w fun e w' => e = .returned (.int .i64 ((T i).getD 0)) ∧ w = w' := by
  obtain ⟨⟨_, _, _, _, _, c5, _⟩, _⟩ := h.cells
  have hl := hT.look hi
  go_enter Tryd.func54, Tryd.ntmps54
  go_wp2_with fail
  go_ret
  exact ⟨rfl, rfl⟩
set_option maxHeartbeats 4000000 in
theorem pterm_nil (i : Int) (w : World) : Calls Tryd.prog 54 #[.pointer none, .int .i64 i] w fun e w' => e = .returned (.int .i64 0) ∧ w = w' := by
  go_enter Tryd.func54, Tryd.ntmps54
  go_wp2_with fail
  go_ret
  exact ⟨rfl, rfl⟩
end
section
open Go.RowKit
set_option linter.unusedVariables false
set_option maxRecDepth 100000

def en0 : En := ⟨0, 0, ⟨#[]⟩⟩
/-- What Read answers: the entry, and how it reads (gone 0, good 1, hurt 2, unknown 3). -/
def getE (r : Rc) (T : Option Int) (i : Int) : En × Int :=
  match T with
  | none => if r.isE i = true then (⟨i, r.term, r.data⟩, 1) else (⟨i, 0, ⟨#[]⟩⟩, 3)
  | some t => if r.isE i = true ∧ r.term = t then (⟨i, r.term, r.data⟩, 1) else (⟨i, t, ⟨#[]⟩⟩, 2)
theorem getE_none (r : Rc) (i : Int) : getE r none i = if r.isE i = true then (⟨i, r.term, r.data⟩, 1) else (⟨i, 0, ⟨#[]⟩⟩, 3) := rfl
theorem getE_some (r : Rc) (t i : Int) : getE r (some t) i = if r.isE i = true ∧ r.term = t then (⟨i, r.term, r.data⟩, 1) else (⟨i, t, ⟨#[]⟩⟩, 2) := rfl
def Dv.lread (D : Dv) (L : Lg) (T : Int → Option Int) (i : Int) : En × Int :=
  if L.has i = true then (if (D.sread (L.blk 2 i)).2.2 = 0 then getE (D.sread (L.blk 2 i)).1 (T i) i else (en0, 0)) else (en0, 0)
def lgetV (x : En × Int) : Value := .tuple #[enV x.1, .int .i64 x.2]
def setEn (W : World) (b : Nat) (x : En) : World := ((W.setCell ⟨b, 0, none⟩ (.int .i64 x.index)).setCell ⟨b, 1, none⟩ (.int .i64 x.term)).setCell ⟨b, 2, none⟩ (.string x.data)
theorem EnB.set {W : World} {b : Nat} {y : En} (h : EnB W b y) (x : En) : EnB (setEn W b x) b x :=
  block_setCell (i := 2) (u := .string x.data) (block_setCell (i := 1) (u := .int .i64 x.term) (block_setCell (i := 0) (u := .int .i64 x.index) h))
theorem below_en {B : Nat} {a W : World} {b : Nat} (k : Below B a W) (hb : B ≤ b) (x : En) : Below B a (setEn W b x) := ((k.setCell (p := ⟨b, 0, none⟩) hb _).setCell (p := ⟨b, 1, none⟩) hb _).setCell (p := ⟨b, 2, none⟩) hb _
theorem gret (A : Act) (W : World) (b : Nat) (x : En) (m : Int) (Q : Ending → World → Prop) (h4 : A.tmps.getD 4 undef = .pointer (some ⟨b, 0, none⟩)) (h5 : A.tmps.getD 5 undef = .int .i64 m) (hd : A.defers = []) (hr : EnB W b x)
    (hq : Q (.returned (lgetV (x, m))) W) : bodyPost Tryd.prog Tryd.f24 Q Exit.ret A W := by
  obtain ⟨⟨c0, c1, c2⟩, _⟩ := hr.cells
  have e4 : A.tmps[4]?.getD undef = .pointer (some ⟨b, 0, none⟩) := by simpa using h4
  have e5 : A.tmps[5]?.getD undef = .int .i64 m := by simpa using h5
  exact bodyPost_ret (v := lgetV (x, m)) (by simp [results, Tryd.results24, go_sem, lgetV, enV, e4, e5, c0, c1, c2]) hd hq
theorem setRec_other {W : World} {b : Nat} {r : Rc} {k : Nat} (h : k ≠ b) : (setRec W b r).heap[k]? = W.heap[k]? := by
  unfold setRec
  rw [block_setCell_other h, block_setCell_other h, block_setCell_other h, block_setCell_other h]
/-- The end of the look at a block: the record lies in a new block. -/
theorem get_end {a W : World} {g m : Nat} {x : En} {z : Rc} (r : Rc) (st er : Int) (hZ : RecB W g z) (hN : EnB W m x) (hB : Below a.heap.size a W) (hg : a.heap.size ≤ g) (hm : m ≠ g) :
    ∃ g', Value.pointer (some ⟨g, 0, none⟩) = .pointer (some ⟨g', 0, none⟩) ∧ Value.int .i64 st = .int .i64 st ∧ Value.int .i64 er = .int .i64 er ∧ RecB (setRec W g r) g' r ∧ EnB (setRec W g r) m x ∧ Below a.heap.size a (setRec W g r) :=
  ⟨g, rfl, rfl, rfl, hZ.set r, (setRec_other hm).trans hN, below_rec hB hg r⟩
theorem rec0_new (w : World) : RecB (w.alloc (.cells #[.int .i64 0, .int .i64 0, .int .i64 0, .string ⟨#[]⟩] 72)) w.heap.size rc0 := RecB.new w rc0
theorem get_end1 {a W : World} {m : Nat} {x : En} (r : Rc) (st er : Int) (hN : EnB W m x) (hB : Below a.heap.size a W) :
    ∃ g', Value.pointer (some ⟨W.heap.size, 0, none⟩) = .pointer (some ⟨g', 0, none⟩) ∧ Value.int .i64 st = .int .i64 st ∧ Value.int .i64 er = .int .i64 er ∧
      RecB (W.alloc (.cells #[.int .i64 r.kind, .int .i64 r.index, .int .i64 r.term, .string r.data] 72)) g' r ∧ EnB (W.alloc (.cells #[.int .i64 r.kind, .int .i64 r.index, .int .i64 r.term, .string r.data] 72)) m x ∧ Below a.heap.size a (W.alloc (.cells #[.int .i64 r.kind, .int .i64 r.index, .int .i64 r.term, .string r.data] 72)) :=
  ⟨W.heap.size, rfl, rfl, rfl, RecB.new W r, hN.below ((Below.refl _ W).alloc (Nat.le_refl _) _), hB.alloc hB.size _⟩
theorem LogW.hurtsAt {n : Nat} {E : Nat → Prop} {w x : World} {b B bt bd k k' : Nat} {D : Dv} {L : Lg} {T : Int → Option Int} {S S' : Int → Bool} (h : LogW n E w b B bt bd D L k T S) (hs : w.heap.size ≤ x.heap.size) (hk : ∀ j, j < w.heap.size → j ≠ bd → x.heap[j]? = w.heap[j]?)
    (hS : SetI x bd k' S') (hkk : k ≤ k') : LogW n E x b B bt bd D L k' T S' := by
  refine ⟨?_, (hk b h.log.lt h.bd_ne).trans h.log, (h.terms.keep0 (hk bt h.terms.lt h.td_ne)).mono hkk, hS, h.eb, h.et, h.ed, h.nb, h.nt, h.nd, h.bt_ne, h.bd_ne, h.td_ne⟩
  obtain ⟨Q, ⟨R, sv, C, hd⟩, hQ, hl⟩ := h.dev
  exact ⟨Q, ⟨R, sv, C, hd.keep hs (fun j hj => hk j (hd.lt j hj) (fun e => (hQ j hj).2 (by rw [e]; exact h.ed)))⟩, hQ, fun j hj => Nat.lt_of_lt_of_le (hl j hj) hs⟩
theorem setEn_other {W : World} {b : Nat} {x : En} {k : Nat} (h : k ≠ b) : (setEn W b x).heap[k]? = W.heap[k]? := by
  unfold setEn
  rw [block_setCell_other h, block_setCell_other h, block_setCell_other h]
theorem setEn_size (W : World) (b : Nat) (x : En) : (setEn W b x).heap.size = W.heap.size := by unfold setEn; simp
set_option maxHeartbeats 4000000 in
theorem pget_any {n : Nat} {E : Nat → Prop} {w : World} {b B bt bd k : Nat} {D : Dv} {L : Lg} {T : Int → Option Int} {S : Int → Bool} (i : Int) (hW : LogW n E w b B bt bd D L k T S) (hn : n ≤ w.heap.size) (ht : ∀ x, Below n w x → Tabs x) (hw : D.writes ≤ 1073741824) (hf : L.Fit) (hi : 0 ≤ i ∧ i ≤ 9223372036854775807) (hk : k < 1000000000)
    (hTR : ∀ z t, T z = some t → InR t) :
    Calls Tryd.prog 24 #[.pointer (some ⟨b, 0, none⟩), .int .i64 i] w fun e w' => e = .returned (lgetV (D.lread L T i)) ∧ LogW n E w' b B bt bd D L (k + 1) T (if 2 ≤ (D.lread L T i).2 then ups S i true else S) ∧ Below n w w' ∧ Kept (But E b bt bd) w w' := by
  have HT := Lib.hid ht
  have HF := Lib.hid hf
  obtain ⟨V, hV⟩ : ∃ V, V = D.lread L T i := ⟨_, rfl⟩
  rw [← hV]
  obtain ⟨S', hS'⟩ : ∃ S', S' = if 2 ≤ V.2 then ups S i true else S := ⟨_, rfl⟩
  rw [← hS']
  have HSV := Lib.hid hS'
  clear hS'
  have b0 := (Below.refl _ w).alloc (Nat.le_refl _) (.cells #[.int .i64 0, .int .i64 0, .string ⟨#[]⟩] 60)
  have n0 := EnB.new w en0
  have W0 := hW.below b0
  have HLT : Hid (∀ j, But E b bt bd j → j < w.heap.size) := fun j hj => hW.dev.lt j hj.1
  have HFIN := Lib.hid (fun (x : World) (hb : Below w.heap.size w x) (hs : S' = S) => show LogW n E x b B bt bd D L (k + 1) T S' ∧ Below n w x ∧ Kept (But E b bt bd) w x from ⟨by rw [hs]; exact (hW.below hb).mono (Nat.le_succ k), hb.mono hn, fun j hj => hb.block j (HLT.out j hj)⟩)
  cases hh : L.has i with
  | false =>
    have HV : Hid (V = (en0, 0)) := by show V = _; rw [hV]; unfold Dv.lread; rw [hh]; rfl
    have HSE : Hid (S' = S) := by show S' = S; rw [HSV.out, HV.out, if_neg (by decide)]
    have HH := Lib.hid (phas_any i W0.log (by have := hf.first; omega) hi.2)
    rw [hh] at HH
    clear hV ht hf
    go_enter Tryd.func24, Tryd.ntmps24
    go_wp2_with fail
    refine HH.out.mono ?_
    rintro e w1 ⟨rfl, hb1⟩
    have N1 := n0.below hb1
    have B1 := b0.trans (hb1.mono b0.size)
    obtain ⟨⟨c0, c1, c2⟩, f0, f1, f2⟩ := N1.cells
    go_wp2_with fail
    refine gret _ (setEn w1 w.heap.size en0) w.heap.size en0 0 _ rfl rfl rfl (N1.set en0) ⟨by rw [HV.out], ?_⟩
    exact HFIN.out _ (below_en B1 (Nat.le_refl _) en0) HSE.out
  | true =>
    have HH := Lib.hid (phas_any i W0.log (by have := hf.first; omega) hi.2)
    rw [hh] at HH
    obtain ⟨X, hX⟩ : ∃ X, X = D.sread (L.blk 2 i) := ⟨_, rfl⟩
    have HV : Hid (V = if X.2.2 = 0 then getE X.1 (T i) i else (en0, 0)) := by
      show V = _
      rw [hV, hX]
      unfold Dv.lread
      rw [hh, if_pos rfl]
    have HS := Lib.hid (fun (W : World) (hb : Below w.heap.size w W) => devw_sread (L.blk 2 i) (HT.out _ (hb.mono hn)) hw (hW.dev.below hb))
    rw [← hX] at HS
    have HBL := Lib.hid (fun (W : World) (hb : Below w.heap.size w W) => pblock_any 2 i (hW.log.below hb) (by have := hf.size; omega) (by have := hf.base; omega) hi.1)
    have HLC := Lib.hid (fun (W : World) (hb : Below w.heap.size w W) => (hW.log.below hb).cells)
    have u1 : ¬ b = w.heap.size := Nat.ne_of_lt hW.log.lt
    have hbw := hW.log.lt
    obtain ⟨r, st, er⟩ := X
    unfold sreadV recV at HS
    simp only at HS HV
    clear hV ht hX
    go_enter Tryd.func24, Tryd.ntmps24
    go_wp2_with fail
    refine HH.out.mono ?_
    rintro e w1 ⟨rfl, hb1⟩
    have N1 := n0.below hb1
    have B1 := b0.trans (hb1.mono b0.size)
    obtain ⟨⟨p0, _⟩, _⟩ := HLC.out w1 B1
    have B1d := B1.drew
    have N1d : EnB w1.drew w.heap.size en0 := N1
    have BA : Below w.heap.size w (w1.alloc (.cells #[.int .i64 0, .int .i64 0, .int .i64 0, .string ⟨#[]⟩] 72)).drew := (B1.alloc B1.size _).drew
    have NA : EnB (w1.alloc (.cells #[.int .i64 0, .int .i64 0, .int .i64 0, .string ⟨#[]⟩] 72)).drew w.heap.size en0 := N1.below (((Below.refl _ w1).alloc (Nat.le_refl _) _).drew)
    have ZA : RecB (w1.alloc (.cells #[.int .i64 0, .int .i64 0, .int .i64 0, .string ⟨#[]⟩] 72)).drew w1.heap.size rc0 := RecB.new w1 rc0
    have v1 : ¬ b = w1.heap.size := by have := hb1.size; simp at this; omega
    have v2 : ¬ w1.heap.size = b := fun e => v1 e.symm
    have v3 : w.heap.size ≠ w1.heap.size := Nat.ne_of_lt N1.lt
    clear hb1 n0 b0 HH
    go_upto_region 3 with fail
    go_cut [6, 7, 8] (fun p s e wx => ∃ g, p = .pointer (some ⟨g, 0, none⟩) ∧ s = .int .i64 st ∧ e = .int .i64 er ∧ RecB wx g r ∧ EnB wx w.heap.size en0 ∧ Below w.heap.size w wx)
    case first =>
      go_region_held3 (fun w' => w'.cell? ⟨b, 0, none⟩ = some (.pointer (some ⟨B, 0, none⟩))) (first | (with_reducible assumption) | go_keep)
        (first
          | (go_at_call 43; refine (HBL.out _ ?hBa).mono ?_; (case hBa => first | (with_reducible exact BA) | (with_reducible exact B1d)); rintro e w2 ⟨rfl, hb2⟩; (first
              | (have Z2 : RecB w2 w1.heap.size rc0 := (by with_reducible exact ZA.below hb2); have N2 := NA.below hb2; have B2 := BA.trans (hb2.mono BA.size); have q0 := (HLC.out w2 B2).1.1)
              | (have B2 : Below w.heap.size w w2 := (by with_reducible exact B1d.trans (hb2.mono B1d.size)); have N2 := N1d.below hb2; have q0 := (HLC.out w2 B2).1.1; have v4 : ¬ b = w2.heap.size := (by have := N2.lt; omega); have v5 : ¬ w2.heap.size = b := (fun e => v4 e.symm); have v6 : w.heap.size ≠ w2.heap.size := Nat.ne_of_lt N2.lt)))
          | (go_at_call 32; refine (HS.out _ ?hBb).mono ?_; (case hBb => first | (with_reducible exact B2) | (with_reducible exact (B2.alloc B2.size _))); rintro e w3 ⟨rfl, hb3⟩; (first
              | (have Z3 : RecB w3 w1.heap.size rc0 := (by with_reducible exact Z2.below hb3); have N3 := N2.below hb3; have B3 := B2.trans (hb3.mono B2.size); have q1 := (HLC.out w3 B3).1.1; obtain ⟨⟨d0, d1, d2, d3⟩, k0, k1, k2, k3⟩ := Z3.cells)
              | (have Z3 : RecB w3 w2.heap.size rc0 := (by with_reducible exact (rec0_new w2).below hb3); have N3 := (N2.below ((Below.refl _ w2).alloc (Nat.le_refl _) (.cells #[.int .i64 0, .int .i64 0, .int .i64 0, .string ⟨#[]⟩] 72))).below hb3; have B3 := (B2.alloc B2.size (.cells #[.int .i64 0, .int .i64 0, .int .i64 0, .string ⟨#[]⟩] 72)).trans (hb3.mono (B2.alloc B2.size (.cells #[.int .i64 0, .int .i64 0, .int .i64 0, .string ⟨#[]⟩] 72)).size); have q1 := (HLC.out w3 B3).1.1; obtain ⟨⟨d0, d1, d2, d3⟩, k0, k1, k2, k3⟩ := Z3.cells)
              | (have B3 : Below w.heap.size w w3 := (by with_reducible exact B2.trans (hb3.mono B2.size)); have N3 := N2.below hb3; have q1 := (HLC.out w3 B3).1.1; have v7 : ¬ b = w3.heap.size := (by have := N3.lt; omega); have v8 : ¬ w3.heap.size = b := (fun e => v7 e.symm)))))
      all_goals (go_wp2_with fail; go_meet)
      all_goals first
        | (exact get_end1 r st er N3 B3)
        | (exact get_end r st er Z3 N3 B3 B2.size v6)
        | (exact get_end r st er Z3 N3 B3 B1.size v3)
    case rest =>
      obtain ⟨g, rfl, rfl, rfl, R4, N4, B4⟩ := hcut
      clear p0 B1d N1d BA NA ZA v1 v2 v3 N1 B1 HS HBL
      by_cases he : er = 0
      · subst he
        have hiR : InR i := ⟨by omega, hi.2⟩
        have hbn : w.heap.size ≠ bd := Nat.ne_of_gt hW.hurts.lt
        have hl := (hW.below B4).terms.look_ok hiR
        have HI := Lib.hid (fun (W : World) => pise_any r i W)
        have HV2 : Hid (V = getE r (T i) i) := by show V = _; rw [HV.out, if_pos rfl]
        have HBAD := Lib.hid (fun (w5 w6 : World) (x : En) (B5 : Below w.heap.size w w5) (hg6 : w5.grownBy w6 (some bd)) (hS6 : SetI w6 bd (k + 1) (ups S i true)) (hs : S' = ups S i true) => show LogW n E (setEn w6 w.heap.size x) b B bt bd D L (k + 1) T S' ∧ Below n w (setEn w6 w.heap.size x) ∧ Kept (But E b bt bd) w (setEn w6 w.heap.size x) from by
          have hold : ∀ j, j < w.heap.size → j ≠ bd → (setEn w6 w.heap.size x).heap[j]? = w.heap[j]? := fun j hj hne => by
            rw [setEn_other (Nat.ne_of_lt hj), hg6.block j (Nat.lt_of_lt_of_le hj B5.size) (fun e => hne (Option.some.inj e)), B5.block j hj]
          refine ⟨?_, ?_, fun j hj => hold j (HLT.out j hj) hj.2.2.2⟩
          · rw [hs]
            exact hW.hurtsAt (by rw [setEn_size]; exact Nat.le_trans B5.size hg6.size) hold (hS6.keep0 (setEn_other (fun e => hbn e.symm))) (Nat.le_succ k)
          · exact below_en (grown_below (B5.mono hn) hg6 hW.nd (Nat.le_trans hn B5.size)) hn x)
        have c5 := (HLC.out wc B4).1.2.2.2.2.2.1
        have HC6 := Lib.hid (fun (W : World) (hb : Below w.heap.size w W) => (HLC.out W hb).1.2.2.2.2.2.2)
        obtain ⟨⟨r0, r1, r2, r3⟩, _⟩ := R4.cells
        generalize T i = ti at hl HV2
        generalize hIE : r.isE i = IE at HI
        clear HV hbw u1
        unfold recV at HI
        go_wp2_with fail
        refine (HI.out _).mono ?_
        rintro e w5 ⟨rfl, hb5⟩
        have R5 := R4.below hb5
        have N5 := N4.below hb5
        have B5 := B4.trans (hb5.mono B4.size)
        have c6 := HC6.out w5 B5
        clear R4 N4 hl hb5 c5 r0 r1 r2 r3 B4
        obtain ⟨⟨r0, r1, r2, r3⟩, _⟩ := R5.cells
        cases ti with
        | none =>
          cases IE with
          | true =>
            have HVE : Hid (V = (⟨i, r.term, r.data⟩, 1)) := by show V = _; rw [HV2.out, getE_none, if_pos hIE]
            have HSE : Hid (S' = S) := by show S' = S; rw [HSV.out, HVE.out, if_neg (show ¬ ((2 : Int) ≤ 1) by decide)]
            obtain ⟨⟨c0, c1, c2⟩, f0, f1, f2⟩ := N5.cells
            go_wp2_with fail
            refine gret _ (setEn w5 w.heap.size ⟨i, r.term, r.data⟩) w.heap.size ⟨i, r.term, r.data⟩ 1 _ rfl rfl rfl (N5.set _) ⟨by rw [HVE.out], ?_⟩
            exact HFIN.out _ (below_en B5 (Nat.le_refl _) _) HSE.out
          | false =>
            have HVE : Hid (V = (⟨i, 0, ⟨#[]⟩⟩, 3)) := by show V = _; rw [HV2.out, getE_none, if_neg (by rw [hIE]; decide)]
            obtain ⟨w6, hrun, hS6, hg6⟩ := (hW.below B5).hurts.store hk hiR
            have N6 : EnB w6 w.heap.size en0 := (hg6.block _ N5.lt (fun e => hbn (Option.some.inj e))).trans N5
            obtain ⟨⟨c0, c1, c2⟩, f0, f1, f2⟩ := N6.cells
            have HSE : Hid (S' = ups S i true) := by show S' = _; rw [HSV.out, HVE.out, if_pos (show (2 : Int) ≤ 3 by decide)]
            go_wp2_with fail
            refine gret _ (setEn w6 w.heap.size ⟨i, 0, ⟨#[]⟩⟩) w.heap.size ⟨i, 0, ⟨#[]⟩⟩ 3 _ rfl rfl rfl (N6.set ⟨i, 0, ⟨#[]⟩⟩) ⟨by rw [HVE.out], ?_⟩
            exact HBAD.out w5 w6 ⟨i, 0, ⟨#[]⟩⟩ B5 hg6 hS6 HSE.out
        | some tt =>
          cases IE with
          | true =>
            by_cases hte : r.term = tt
            · subst hte
              have HVE : Hid (V = (⟨i, r.term, r.data⟩, 1)) := by show V = _; rw [HV2.out, getE_some, if_pos ⟨hIE, rfl⟩]
              have HSE : Hid (S' = S) := by show S' = S; rw [HSV.out, HVE.out, if_neg (show ¬ ((2 : Int) ≤ 1) by decide)]
              obtain ⟨⟨c0, c1, c2⟩, f0, f1, f2⟩ := N5.cells
              go_wp2_with fail
              refine gret _ (setEn w5 w.heap.size ⟨i, r.term, r.data⟩) w.heap.size ⟨i, r.term, r.data⟩ 1 _ rfl rfl rfl (N5.set _) ⟨by rw [HVE.out], ?_⟩
              exact HFIN.out _ (below_en B5 (Nat.le_refl _) _) HSE.out
            · have HVE : Hid (V = (⟨i, tt, ⟨#[]⟩⟩, 2)) := by show V = _; rw [HV2.out, getE_some, if_neg (fun h => hte h.2)]
              obtain ⟨w6, hrun, hS6, hg6⟩ := (hW.below B5).hurts.store hk hiR
              have N6 : EnB w6 w.heap.size en0 := (hg6.block _ N5.lt (fun e => hbn (Option.some.inj e))).trans N5
              obtain ⟨⟨c0, c1, c2⟩, f0, f1, f2⟩ := N6.cells
              have HSE : Hid (S' = ups S i true) := by show S' = _; rw [HSV.out, HVE.out, if_pos (show (2 : Int) ≤ 2 by decide)]
              go_wp2_with fail
              refine gret _ (setEn w6 w.heap.size ⟨i, tt, ⟨#[]⟩⟩) w.heap.size ⟨i, tt, ⟨#[]⟩⟩ 2 _ rfl rfl rfl (N6.set ⟨i, tt, ⟨#[]⟩⟩) ⟨by rw [HVE.out], ?_⟩
              exact HBAD.out w5 w6 ⟨i, tt, ⟨#[]⟩⟩ B5 hg6 hS6 HSE.out
          | false =>
            have HVE : Hid (V = (⟨i, tt, ⟨#[]⟩⟩, 2)) := by show V = _; rw [HV2.out, getE_some, if_neg (fun h => by rw [hIE] at h; exact absurd h.1 (by decide))]
            obtain ⟨w6, hrun, hS6, hg6⟩ := (hW.below B5).hurts.store hk hiR
            have N6 : EnB w6 w.heap.size en0 := (hg6.block _ N5.lt (fun e => hbn (Option.some.inj e))).trans N5
            obtain ⟨⟨c0, c1, c2⟩, f0, f1, f2⟩ := N6.cells
            have HSE : Hid (S' = ups S i true) := by show S' = _; rw [HSV.out, HVE.out, if_pos (show (2 : Int) ≤ 2 by decide)]
            go_wp2_with fail
            refine gret _ (setEn w6 w.heap.size ⟨i, tt, ⟨#[]⟩⟩) w.heap.size ⟨i, tt, ⟨#[]⟩⟩ 2 _ rfl rfl rfl (N6.set ⟨i, tt, ⟨#[]⟩⟩) ⟨by rw [HVE.out], ?_⟩
            exact HBAD.out w5 w6 ⟨i, tt, ⟨#[]⟩⟩ B5 hg6 hS6 HSE.out
      · have ee : (er == 0) = false := by simpa using he
        have HVE : Hid (V = (en0, 0)) := by show V = _; rw [HV.out, if_neg he]
        have HSE : Hid (S' = S) := by show S' = S; rw [HSV.out, HVE.out, if_neg (show ¬ ((2 : Int) ≤ 0) by decide)]
        obtain ⟨⟨c0, c1, c2⟩, f0, f1, f2⟩ := N4.cells
        go_wp2_with fail
        refine gret _ (setEn wc w.heap.size en0) w.heap.size en0 0 _ rfl rfl rfl (N4.set en0) ⟨by rw [HVE.out], ?_⟩
        exact HFIN.out _ (below_en B4 (Nat.le_refl _) en0) HSE.out
end
section
open Go.RowKit Go.Maps
set_option linter.unusedVariables false
set_option maxRecDepth 100000

/-- m is the least of a set, or 0 if it is empty. -/
def IsMin (S : Int → Bool) (m : Int) : Prop := (m = 0 ∧ ∀ z, InR z → S z = false) ∨ (m ≠ 0 ∧ InR m ∧ S m = true ∧ ∀ z, InR z → S z = true → m ≤ z)
theorem IsMin.congr {S S' : Int → Bool} {m : Int} (h : IsMin S m) (he : ∀ z, InR z → S z = S' z) : IsMin S' m := by
  rcases h with ⟨h0, h1⟩ | ⟨h0, h1, h2, h3⟩
  · exact .inl ⟨h0, fun z hz => by rw [← he z hz]; exact h1 z hz⟩
  · exact .inr ⟨h0, h1, by rw [← he m h1]; exact h2, fun z hz h => h3 z hz (by rw [he z hz]; exact h)⟩
theorem IsMin.empty (S : Int → Bool) (h : ∀ z, InR z → S z = false) : IsMin S 0 := .inl ⟨rfl, h⟩
/-- One more of the set has come. -/
theorem IsMin.more {S S' : Int → Bool} {m x : Int} (h : IsMin S m) (hx : InR x) (h0 : x ≠ 0) (hs : S' x = true) (ho : ∀ z, z ≠ x → S' z = S z) : IsMin S' (if m = 0 ∨ x < m then x else m) := by
  rcases h with ⟨rfl, h1⟩ | ⟨hm0, h1, h2, h3⟩
  · rw [if_pos (.inl rfl)]
    refine .inr ⟨h0, hx, hs, fun z hz hz2 => ?_⟩
    by_cases e : z = x
    · rw [e]; exact Int.le_refl _
    · rw [ho z e, h1 z hz] at hz2; cases hz2
  · by_cases hl : x < m
    · rw [if_pos (.inr hl)]
      refine .inr ⟨h0, hx, hs, fun z hz hz2 => ?_⟩
      by_cases e : z = x
      · rw [e]; exact Int.le_refl _
      · rw [ho z e] at hz2
        have := h3 z hz hz2
        omega
    · rw [if_neg (fun h => h.elim hm0 hl)]
      refine .inr ⟨hm0, h1, ?_, fun z hz hz2 => ?_⟩
      · by_cases e : m = x
        · rw [e]; exact hs
        · rw [ho m e]; exact h2
      · by_cases e : z = x
        · rw [e]; omega
        · rw [ho z e] at hz2
          exact h3 z hz hz2
theorem zero_u (w : World) : (zeroValue 104).run Tryd.prog w = .ok (.agg #[]) w := by kernel_rfl
set_option maxHeartbeats 4000000 in
theorem phurt_any {w : World} {b B bt bd k : Nat} {L : Lg} {S : Int → Bool} (h : LogB w b B bt bd L) (hS : SetI w bd k S) (hp : ∀ z, InR z → S z = true → z ≠ 0) :
    Calls Tryd.prog 25 #[.pointer (some ⟨b, 0, none⟩)] w fun e w' => ∃ m, e = .returned (.int .i64 m) ∧ IsMin S m ∧ Below w.heap.size w w' := by
  obtain ⟨⟨_, _, _, _, _, _, c6⟩, _⟩ := h.cells
  obtain ⟨D, ho, hD⟩ := hS
  clear h
  go_enter Tryd.func25, Tryd.ntmps25
  go_wp2_with (first
    | (at_range; refine wpList_range_own _ rfl _ 98 rfl 3 104 lawI und_ms _ bd k D rfl ho ?_; intro w0 hrg0 hg0 hs0; go_frame)
    | go_in)
  go_loopw [3] (fun v wr => ∃ (m : Int) (left : Lit → Bool) (cnt : Nat), v = .int .i64 m ∧ wr.ranges Tryd.prog 3 unitElem bd w.heap.size k D left cnt ∧ w.grownBy wr none ∧ IsMin (fun z => Maps.has D (.int .i64 z) && !left (.int .i64 z)) m) (fun _ wr => wr.rangeLeft bd w.heap.size)
  case atStart => exact ⟨0, _, _, rfl, hrg0, hg0, IsMin.empty _ (fun z _ => by simp)⟩
  case round =>
    obtain ⟨m, left, cnt, rfl, hrg, hgw, hmin⟩ := hrel
    go_wp2_with (first
      | (at_next; refine wpList_next_ranges _ rfl _ rfl 3 lawI unitElem (Value.int .i64) (fun _ : Unit => Value.agg #[]) (fun key kl hkey => by obtain ⟨x, rfl, _⟩ := Maps.keyOf_int_inv und_i hkey; exact ⟨x, rfl⟩) (fun v y hv => ⟨(), (unitElem_inv hv).1⟩) bd w.heap.size k D left cnt rfl hrg ?_ ?_)
      | go_in)
    · intro _ hl0
      have HM := Lib.hid (hmin.congr (S' := S) (fun z hz => by rw [hl0, (hD z hz)]; simp))
      clear hmin
      go_wp2
      go_ret
      exact ⟨m, rfl, HM.out, ⟨hgw.os, hgw.tape, hgw.output, hgw.size, fun j hj => hgw.block j hj (by simp)⟩⟩
    · intro x c kl y w1 cnt1 hkey hlx hv hat hrg1 hlt hg1 hs1 hen
      have hgw1 := hgw.andThen hg1 (fun j hj => by cases hj; exact Or.inl (Nat.le_refl _))
      obtain ⟨x', ex, rfl, hwx⟩ := Maps.keyOf_int_inv und_i hkey
      cases ex
      have hxR : InR x := i64_wf hwx
      have hhas : Maps.has D (.int .i64 x) = true := Maps.has_true_of_atKey hat
      have hx0 : x ≠ 0 := hp x hxR (by rw [← hD x hxR]; exact hhas)
      have HM := Lib.hid (hmin.more (S' := fun z => Maps.has D (.int .i64 z) && !((fun z : Lit => left z && !z.sameKey (.int .i64 x)) (.int .i64 z))) hxR hx0 (by simp [hhas, Go.WideAt.sameKey_self (isKeyI x)]) (fun z hz => by simp [sameKey_ne (key_ne hz)]))
      clear hmin hat hv hkey hlx hhas
      by_cases hm0 : m = 0
      · rw [if_pos (.inl hm0)] at HM
        subst hm0
        go_wp2
        go_roundw
        case rel => exact ⟨x, _, cnt1, rfl, hrg1, hgw1, HM.out⟩
        case measure => rw [hrg1.left_eq, hrg.left_eq]; exact hlt
      · have em : (m == 0) = false := by simpa using hm0
        by_cases hxm : x < m
        · rw [if_pos (.inr hxm)] at HM
          have ex : decide (x < m) = true := by simpa using hxm
          go_wp2
          go_roundw
          case rel => exact ⟨x, _, cnt1, rfl, hrg1, hgw1, HM.out⟩
          case measure => rw [hrg1.left_eq, hrg.left_eq]; exact hlt
        · rw [if_neg (fun h => h.elim hm0 hxm)] at HM
          have ex : decide (x < m) = false := by simpa using hxm
          go_wp2
          go_roundw
          case rel => exact ⟨m, _, cnt1, rfl, hrg1, hgw1, HM.out⟩
          case measure => rw [hrg1.left_eq, hrg.left_eq]; exact hlt
set_option maxHeartbeats 4000000 in
theorem phurt_nil (w : World) : Calls Tryd.prog 25 #[.pointer none] w fun e w' => e = .returned (.int .i64 0) ∧ w = w' := by
  go_enter Tryd.func25, Tryd.ntmps25
  go_wp2_with fail
  go_ret
  exact ⟨rfl, rfl⟩
end
section
open Go.RowKit Go.Maps
set_option linter.unusedVariables false
set_option maxRecDepth 100000

def cutT (T : Int → Option Int) (f : Int) (c : Nat) : Int → Option Int := fun z => if f ≤ z ∧ z < f + (c : Int) then none else T z
def cutS (S : Int → Bool) (f : Int) (c : Nat) : Int → Bool := fun z => if f ≤ z ∧ z < f + (c : Int) then false else S z
theorem cutT_zero (T : Int → Option Int) (f : Int) : cutT T f 0 = T := by funext z; unfold cutT; rw [if_neg (by omega)]
theorem cutS_zero (S : Int → Bool) (f : Int) : cutS S f 0 = S := by funext z; unfold cutS; rw [if_neg (by omega)]
theorem cutT_succ (T : Int → Option Int) (f : Int) (c : Nat) : upd (cutT T f c) (f + (c : Int)) none = cutT T f (c + 1) := by
  funext z
  unfold upd cutT
  by_cases h : z = f + (c : Int)
  · rw [if_pos h, if_pos (by omega)]
  · rw [if_neg h]
    by_cases h2 : f ≤ z ∧ z < f + (c : Int)
    · rw [if_pos h2, if_pos (by omega)]
    · rw [if_neg h2, if_neg (by omega)]
theorem cutS_succ (S : Int → Bool) (f : Int) (c : Nat) : ups (cutS S f c) (f + (c : Int)) false = cutS S f (c + 1) := by
  funext z
  unfold ups cutS
  by_cases h : z = f + (c : Int)
  · rw [if_pos h, if_pos (by omega)]
  · rw [if_neg h]
    by_cases h2 : f ≤ z ∧ z < f + (c : Int)
    · rw [if_pos h2, if_pos (by omega)]
    · rw [if_neg h2, if_neg (by omega)]
section
variable {n : Nat} {E : Nat → Prop} {w x y : World} {b B bt bd k k' : Nat} {D : Dv} {L : Lg} {T : Int → Option Int} {S : Int → Bool}
theorem But.lt (h : LogW n E w b B bt bd D L k T S) : ∀ j, But E b bt bd j → j < w.heap.size := fun j hj => h.dev.lt j hj.1
end
set_option maxHeartbeats 4000000 in
theorem pforget_any {n : Nat} {E : Nat → Prop} {w : World} {b B bt bd k : Nat} {D : Dv} {L : Lg} {T : Int → Option Int} {S : Int → Bool} (f : Int) (c : Nat) (hW : LogW n E w b B bt bd D L k T S) (hn : n ≤ w.heap.size) (hf : 0 ≤ f ∧ f ≤ 4611686018427387904) (hc : c ≤ 1000000) :
    Calls Tryd.prog 68 #[.pointer (some ⟨b, 0, none⟩), .int .i64 f, .int .i64 c] w fun e w' => e = .returned (.tuple #[]) ∧ LogW n E w' b B bt bd D L k (cutT T f c) (cutS S f c) ∧ Below n w w' ∧ Kept (But E b bt bd) w w' := by
  have HLT := Lib.hid hW.dev.lt
  go_enter Tryd.func68, Tryd.ntmps68
  go_wp2_with fail
  go_loopw [8] (fun i wr => ∃ (j : Nat), j ≤ c ∧ i = .int .i64 j ∧ LogW n E wr b B bt bd D L k (cutT T f j) (cutS S f j) ∧ Below n w wr ∧ Kept (But E b bt bd) w wr) (fun i _ => c - (intOf i).toNat)
  case atStart => exact ⟨0, by omega, rfl, by rw [cutT_zero, cutS_zero]; exact hW, Below.refl _ _, Kept.refl _ _⟩
  case round =>
    obtain ⟨j, hj, rfl, Wj, Bj, Kj⟩ := hrel
    clear hW
    by_cases hlt : j < c
    · have hlt' : (j : Int) < (c : Int) := by omega
      obtain ⟨z, hz⟩ : ∃ z, z = f + (j : Int) := ⟨_, rfl⟩
      have e1 : IntKind.i64.wrap (f + (j : Int)) = z := (IntWalk.i64_in _ (by omega)).trans hz.symm
      have hzR : InR z := ⟨by omega, by omega⟩
      obtain ⟨w1, hr1, hT1, hg1⟩ := Wj.terms.del hzR 0
      have W1 := Wj.newTerms hg1 hT1 (Nat.le_refl k)
      obtain ⟨w2, hr2, hS2, hg2⟩ := W1.hurts.del hzR 0
      have W2 := W1.newHurts hg2 hS2 (Nat.le_refl k)
      have hnr := Nat.le_trans hn Bj.size
      have B2 := grown_below (grown_below Bj hg1 W1.nt hnr) hg2 W1.nd (Nat.le_trans hnr hg1.size)
      have K2 : Kept (But E b bt bd) w w2 := (Kj.grown hg1 (fun i hi => ⟨But.lt Wj i hi, hi.2.2.1⟩)).grown hg2 (fun i hi => ⟨But.lt W1 i hi, hi.2.2.2⟩)
      have c5 := Wj.log.cells.1.2.2.2.2.2.1
      have c6 := W1.log.cells.1.2.2.2.2.2.2
      rw [hz, cutT_succ, cutS_succ] at W2
      clear hT1 hS2 hg1 hg2 W1 Wj Bj Kj hz
      go_wp2_with fail
      go_roundw
      case rel => exact ⟨j + 1, by omega, by go_num, W2, B2, K2⟩
      case measure => simp [intOf]; omega
    · obtain rfl : j = c := by omega
      go_wp2_with fail
      go_end0
      exact ⟨rfl, Wj, Bj, Kj⟩
set_option maxHeartbeats 4000000 in
theorem pdrop_any {n : Nat} {E : Nat → Prop} {w : World} {b B bt bd k : Nat} {D : Dv} {L : Lg} {T : Int → Option Int} {S : Int → Bool} (f : Int) (hW : LogW n E w b B bt bd D L k T S) (hn : n ≤ w.heap.size) (hf : L.Fit) (hfR : InR f) :
    Calls Tryd.prog 40 #[.pointer (some ⟨b, 0, none⟩), .int .i64 f] w fun e w' => e = .returned (.int .i64 (if L.hasNext f = true then 0 else 1)) ∧
      LogW n E w' b B bt bd D (if L.hasNext f = true then { L with first := f, count := L.count - (f - L.first) } else L) k (if L.hasNext f = true then cutT T L.first (f - L.first).toNat else T) (if L.hasNext f = true then cutS S L.first (f - L.first).toNat else S) ∧ Below n w w' ∧ Kept (But E b bt bd) w w' := by
  have HH := Lib.hid (phasNext_any f hW.log (by have := hf.first; omega) hfR.2)
  cases hh : L.hasNext f with
  | false =>
    rw [hh] at HH
    go_enter Tryd.func40, Tryd.ntmps40
    go_wp2_with fail
    refine HH.out.mono ?_
    rintro e w1 ⟨rfl, hb1⟩
    go_wp2_with fail
    go_ret
    exact ⟨rfl, hW.below hb1, hb1.mono hn, Kept.of_below (But.lt hW) hb1⟩
  | true =>
    rw [hh] at HH
    have hbd : L.first ≤ f ∧ f - L.first ≤ L.count := by simpa [Lg.hasNext] using hh
    have h1 := hf.first
    have h2 := hf.count
    have h3 := hf.size
    obtain ⟨c, hc⟩ := Int.eq_ofNat_of_zero_le (show 0 ≤ f - L.first by omega)
    have e1 : IntKind.i64.wrap (f - L.first) = (c : Int) := (IntWalk.i64_in _ (by omega)).trans hc
    have e2 : IntKind.i64.wrap (L.count - (c : Int)) = L.count - (c : Int) := IntWalk.i64_in _ (by omega)
    have hcn : (f - L.first).toNat = c := by omega
    simp only [if_true]
    rw [hcn, hc]
    clear hh
    go_enter Tryd.func40, Tryd.ntmps40
    go_wp2_with fail
    refine HH.out.mono ?_
    rintro e w1 ⟨rfl, hb1⟩
    have W1 := hW.below hb1
    have B1 := hb1.mono hn
    have K1 := Kept.of_below (But.lt hW) hb1
    have hn1 := Nat.le_trans hn hb1.size
    have HFG := Lib.hid (pforget_any L.first c W1 hn1 (by omega) (by omega))
    obtain ⟨⟨_, _, _, c3, _, _, _⟩, _⟩ := W1.log.cells
    clear hb1 HH hW
    go_wp2_with fail
    refine HFG.out.mono ?_
    rintro e w2 ⟨rfl, W2, hb2, hk2⟩
    have W3 := W2.setFirst f
    have W4 := W3.setCount (L.count - (c : Int))
    have B4 := ((B1.trans hb2).setCell (p := ⟨b, 3, none⟩) W2.nb (.int .i64 f)).setCell (p := ⟨b, 4, none⟩) W2.nb (.int .i64 (L.count - (c : Int)))
    have K4 := ((K1.trans hk2).cell (p := ⟨b, 3, none⟩) (fun j hj => hj.2.1) (.int .i64 f)).cell (p := ⟨b, 4, none⟩) (fun j hj => hj.2.1) (.int .i64 (L.count - (c : Int)))
    obtain ⟨⟨_, _, _, d3, _, _, _⟩, f3, _⟩ := W2.log.cells
    obtain ⟨⟨_, _, _, _, d4, _, _⟩, _, f4⟩ := W3.log.cells
    clear c3 W1 B1 K1 hb2 hk2 W2 W3 HFG
    go_wp2_with fail
    go_ret
    exact ⟨rfl, W4, B4, K4⟩
end
section
open Go.RowKit Go.Maps
set_option linter.unusedVariables false
set_option maxRecDepth 100000

/-- The damaged entries, when so many have been read. -/
def scrubS (D : Dv) (L : Lg) (T : Int → Option Int) (S : Int → Bool) (c : Nat) : Int → Bool := fun z => if (L.first ≤ z ∧ z < L.first + (c : Int)) ∧ 2 ≤ (D.lread L T z).2 then true else S z
theorem scrubS_zero (D : Dv) (L : Lg) (T : Int → Option Int) (S : Int → Bool) : scrubS D L T S 0 = S := by funext z; unfold scrubS; rw [if_neg (by omega)]
theorem scrubS_succ (D : Dv) (L : Lg) (T : Int → Option Int) (S : Int → Bool) (c : Nat) : (if 2 ≤ (D.lread L T (L.first + (c : Int))).2 then ups (scrubS D L T S c) (L.first + (c : Int)) true else scrubS D L T S c) = scrubS D L T S (c + 1) := by
  funext z
  by_cases h : z = L.first + (c : Int)
  · by_cases h2 : 2 ≤ (D.lread L T (L.first + (c : Int))).2
    · rw [if_pos h2]
      unfold ups
      rw [if_pos h]
      unfold scrubS
      rw [if_pos ⟨by omega, by rw [h]; exact h2⟩]
    · rw [if_neg h2]
      unfold scrubS
      rw [if_neg (fun e => by have := e.1; omega), if_neg (fun e => h2 (by have := e.2; rw [h] at this; exact this))]
  · have e : (if 2 ≤ (D.lread L T (L.first + (c : Int))).2 then ups (scrubS D L T S c) (L.first + (c : Int)) true else scrubS D L T S c) z = scrubS D L T S c z := by
      split
      · unfold ups; rw [if_neg h]
      · rfl
    rw [e]
    unfold scrubS
    by_cases h3 : (L.first ≤ z ∧ z < L.first + (c : Int)) ∧ 2 ≤ (D.lread L T z).2
    · rw [if_pos h3, if_pos ⟨by omega, h3.2⟩]
    · rw [if_neg h3, if_neg (fun e => h3 ⟨by omega, e.2⟩)]
theorem pget_to {n : Nat} {E : Nat → Prop} {w : World} {b B bt bd k : Nat} {D : Dv} {L : Lg} {T : Int → Option Int} {S : Int → Bool} (i : Int) (V : En × Int) (S' : Int → Bool) (hV : V = D.lread L T i) (hS : S' = if 2 ≤ V.2 then ups S i true else S) (hW : LogW n E w b B bt bd D L k T S) (hn : n ≤ w.heap.size) (ht : ∀ x, Below n w x → Tabs x) (hw : D.writes ≤ 1073741824) (hf : L.Fit) (hi : 0 ≤ i ∧ i ≤ 9223372036854775807) (hk : k < 1000000000)
    (hTR : ∀ z t, T z = some t → InR t) :
    Calls Tryd.prog 24 #[.pointer (some ⟨b, 0, none⟩), .int .i64 i] w fun e w' => e = .returned (lgetV V) ∧ LogW n E w' b B bt bd D L (k + 1) T S' ∧ Below n w w' ∧ Kept (But E b bt bd) w w' := by
  subst hV
  subst hS
  exact pget_any i hW hn ht hw hf hi hk hTR
set_option maxHeartbeats 4000000 in
theorem pscrub_any {n : Nat} {E : Nat → Prop} {w : World} {b B bt bd k : Nat} {D : Dv} {L : Lg} {T : Int → Option Int} {S : Int → Bool} (c : Nat) (hW : LogW n E w b B bt bd D L k T S) (hn : n ≤ w.heap.size) (ht : ∀ x, Below n w x → Tabs x) (hw : D.writes ≤ 1073741824) (hf : L.Fit) (hcn : L.count = (c : Int)) (hk : k < 900000000)
    (hTR : ∀ z t, T z = some t → InR t) :
    Calls Tryd.prog 23 #[.pointer (some ⟨b, 0, none⟩)] w fun e w' => e = .returned (.tuple #[]) ∧ LogW n E w' b B bt bd D L (k + c) T (scrubS D L T S c) ∧ Below n w w' ∧ Kept (But E b bt bd) w w' := by
  have HT := Lib.hid ht
  have HF := Lib.hid hf
  have HTR := Lib.hid hTR
  have h1 := hf.first
  have h2 := hf.count
  have h3 := hf.size
  obtain ⟨⟨_, _, _, _, c4, _, _⟩, _⟩ := hW.log.cells
  rw [hcn] at c4
  clear ht hf hTR
  go_enter Tryd.func23, Tryd.ntmps23
  go_wp2_with fail
  clear c4
  go_loopw [9] (fun i wr => ∃ (j : Nat), j ≤ c ∧ i = .int .i64 j ∧ LogW n E wr b B bt bd D L (k + j) T (scrubS D L T S j) ∧ Below n w wr ∧ Kept (But E b bt bd) w wr) (fun i _ => c - (intOf i).toNat)
  case atStart => exact ⟨0, by omega, rfl, by rw [scrubS_zero]; exact hW, Below.refl _ _, Kept.refl _ _⟩
  case round =>
    obtain ⟨j, hj, rfl, Wj, Bj, Kj⟩ := hrel
    clear hW
    by_cases hlt : j < c
    · have hlt' : (j : Int) < (c : Int) := by omega
      have e1 : IntKind.i64.wrap (L.first + (j : Int)) = L.first + (j : Int) := IntWalk.i64_in _ (by omega)
      obtain ⟨V, hV⟩ : ∃ V, V = D.lread L T (L.first + (j : Int)) := ⟨_, rfl⟩
      have hS1 : scrubS D L T S (j + 1) = if 2 ≤ V.2 then ups (scrubS D L T S j) (L.first + (j : Int)) true else scrubS D L T S j := by rw [hV]; exact (scrubS_succ D L T S j).symm
      have HG := Lib.hid (pget_to (L.first + (j : Int)) V _ hV hS1 Wj (Nat.le_trans hn Bj.size) (fun x hx => HT.out x (Bj.trans hx)) hw HF.out (by omega) (by omega) HTR.out)
      obtain ⟨⟨_, _, _, c3, _, _, _⟩, _⟩ := Wj.log.cells
      go_wp2_with fail
      refine HG.out.mono ?_
      rintro e w1 ⟨rfl, W1, hb1, hk1⟩
      have B1 := Bj.trans hb1
      have K1 := Kj.trans hk1
      clear hb1 hk1 Wj Bj Kj c3 HG hV hS1
      go_wp2_with fail
      go_roundw
      case rel => exact ⟨j + 1, by omega, by go_num, W1, B1, K1⟩
      case measure => simp [intOf]; omega
    · obtain rfl : j = c := by omega
      go_wp2_with fail
      go_end0
      exact ⟨rfl, Wj, Bj, Kj⟩
set_option maxHeartbeats 4000000 in
theorem pscrub_nil (w : World) : Calls Tryd.prog 23 #[.pointer none] w fun e w' => e = .returned (.tuple #[]) ∧ w = w' := by
  go_enter Tryd.func23, Tryd.ntmps23
  go_wp2_with fail
  refine bodyPost_ret (results_none rfl _ _ _) rfl ?_
  exact ⟨rfl, rfl⟩
/-- What Cut does: the error, the device, how many entries stay; on an error none goes. -/
noncomputable def Dv.cut (D : Dv) (L : Lg) (f : Int) : Int × Dv := D.clean L (idxs f (L.first + L.count - f).toNat)
set_option maxHeartbeats 4000000 in
theorem pcut_any {n : Nat} {E : Nat → Prop} {w : World} {b B bt bd k : Nat} {D : Dv} {L : Lg} {T : Int → Option Int} {S : Int → Bool} (f : Int) (hW : LogW n E w b B bt bd D L k T S) (hn : n ≤ w.heap.size) (ht : ∀ x, Below n w x → Tabs x) (hw : D.writes ≤ 1073000000) (hf : L.Fit) (hfR : InR f) (V : Int × Dv) (hV : V = if L.hasNext f = true then D.cut L f else (1, D)) (L' : Lg) (T' : Int → Option Int) (S' : Int → Bool)
    (hL' : L' = if V.1 = 0 then { L with count := f - L.first } else L) (hT' : T' = if V.1 = 0 then cutT T f (L.first + L.count - f).toNat else T) (hS' : S' = if V.1 = 0 then cutS S f (L.first + L.count - f).toNat else S) :
    Calls Tryd.prog 39 #[.pointer (some ⟨b, 0, none⟩), .int .i64 f] w fun e w' => e = .returned (.int .i64 V.1) ∧
      LogW n E w' b B bt bd V.2 L' k T' S' ∧ Below n w w' ∧ Kept (But E b bt bd) w w' := by
  have HH := Lib.hid (phasNext_any f hW.log (by have := hf.first; omega) hfR.2)
  cases hh : L.hasNext f with
  | false =>
    rw [hh] at HH hV
    obtain rfl : V = (1, D) := hV
    obtain rfl : L' = L := hL'
    obtain rfl : T' = T := hT'
    obtain rfl : S' = S := hS'
    go_enter Tryd.func39, Tryd.ntmps39
    go_wp2_with fail
    refine HH.out.mono ?_
    rintro e w1 ⟨rfl, hb1⟩
    go_wp2_with fail
    go_ret
    exact ⟨rfl, hW.below hb1, hb1.mono hn, Kept.of_below (But.lt hW) hb1⟩
  | true =>
    rw [hh] at HH hV
    have hbd : L.first ≤ f ∧ f - L.first ≤ L.count := by simpa [Lg.hasNext] using hh
    have h1 := hf.first
    have h2 := hf.count
    have h3 := hf.size
    obtain ⟨c, hc⟩ := Int.eq_ofNat_of_zero_le (show 0 ≤ L.first + L.count - f by omega)
    have e1 : IntKind.i64.wrap (L.first + L.count) = L.first + L.count := IntWalk.i64_in _ (by omega)
    have e2 : IntKind.i64.wrap (L.first + L.count - f) = (c : Int) := (IntWalk.i64_in _ (by omega)).trans hc
    have e3 : IntKind.i64.wrap (L.count - (c : Int)) = f - L.first := (IntWalk.i64_in _ (by omega)).trans (by omega)
    have hcn : (L.first + L.count - f).toNat = c := by omega
    replace hV : V = D.clean L (idxs f c) := by rw [hV, if_pos rfl]; unfold Dv.cut; rw [hcn]
    rw [hcn] at hT' hS'
    have HL' := Lib.hid hL'
    have HT' := Lib.hid hT'
    have HS' := Lib.hid hS'
    have HV := Lib.hid hV
    have HT := Lib.hid ht
    have HF := Lib.hid hf
    have HC := Lib.hid (show c ≤ 4096 ∧ 0 ≤ f ∧ f ≤ 4611686018427387904 by omega)
    clear hh hV ht hc hf hL' hT' hS'
    go_enter Tryd.func39, Tryd.ntmps39
    go_wp2_with fail
    refine HH.out.mono ?_
    rintro e w1 ⟨rfl, hb1⟩
    have W1 := hW.below hb1
    have W1d := W1.drew
    have B1 := (hb1.mono hn).drew
    have K1 : Kept (But E b bt bd) w w1.drew := Kept.of_below (But.lt hW) hb1.drew
    have hn1 := Nat.le_trans hn B1.size
    obtain ⟨⟨_, _, _, c3, c4, _, _⟩, _⟩ := W1.log.cells
    have HCL := Lib.hid (pclean_any f c W1d.dev W1d.log W1d.eb hn1 (fun x hx => HT.out x (B1.trans hx)) hw HF.out HC.out.2 HC.out.1)
    rw [← HV.out] at HCL
    clear hb1 HH hW
    go_wp2_with fail
    go_region_held3 (fun w' => w'.cell? ⟨b, 3, none⟩ = some (.int .i64 L.first) ∧ w'.cell? ⟨b, 4, none⟩ = some (.int .i64 L.count)) (first | (with_reducible assumption) | go_keep) (fail)
    all_goals
      go_wp2_with fail
      refine HCL.out.mono ?_
      rintro e w2 ⟨rfl, X2, hb2, hk2⟩
      have W2 := W1d.turn X2 hk2
      have B2 := B1.trans hb2
      have K2 := K1.trans (hk2.mono (fun j hj => hj.1))
      have hn2 := Nat.le_trans hn B2.size
      clear c3 c4 W1 W1d B1 K1 X2 hb2 hk2 HCL
      by_cases hv : V.1 = 0
      · have ev : (V.1 == 0) = true := by simpa using hv
        have HFG := Lib.hid (pforget_any f c W2 hn2 HC.out.2 (by have := HC.out.1; omega))
        have HLE : Hid (L' = { L with count := f - L.first }) := HL'.out.trans (if_pos hv)
        have HTE : Hid (T' = cutT T f c) := HT'.out.trans (if_pos hv)
        have HSE : Hid (S' = cutS S f c) := HS'.out.trans (if_pos hv)
        go_wp2_with fail
        refine HFG.out.mono ?_
        rintro e w3 ⟨rfl, W3, hb3, hk3⟩
        have W4 := W3.setCount (f - L.first)
        have B4 := (B2.trans hb3).setCell (p := ⟨b, 4, none⟩) W3.nb (.int .i64 (f - L.first))
        have K4 := (K2.trans hk3).cell (p := ⟨b, 4, none⟩) (fun j hj => hj.2.1) (.int .i64 (f - L.first))
        obtain ⟨⟨_, _, _, _, d4, _, _⟩, _, f4⟩ := W3.log.cells
        clear W2 B2 K2 hb3 hk3 W3 HFG
        go_wp2_with fail
        go_ret
        exact ⟨by rw [hv]; rfl, by rw [HLE.out, HTE.out, HSE.out]; exact W4, B4, K4⟩
      · have ev : (V.1 == 0) = false := by simpa using hv
        have HLE : Hid (L' = L) := HL'.out.trans (if_neg hv)
        have HTE : Hid (T' = T) := HT'.out.trans (if_neg hv)
        have HSE : Hid (S' = S) := HS'.out.trans (if_neg hv)
        go_wp2_with fail
        go_ret
        exact ⟨rfl, by rw [HLE.out, HTE.out, HSE.out]; exact W2, B2, K2⟩
end
end Go.Proofs.YtigebaaldikeaaaDoor
