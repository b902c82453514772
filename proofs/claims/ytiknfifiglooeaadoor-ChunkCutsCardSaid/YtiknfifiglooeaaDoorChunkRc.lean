/- readCopy: a copy of the list, as it is on the device. No conditions beyond those in each statement. -/
import Derived.Test.YtiknfifiglooeaaDoorChunkLf
import Derived.Test.YtiknfifiglooeaaDoorChunkHu
namespace Go.Proofs.YtiknfifiglooeaaDoor
open Go Go.RowKit Go.Proofs.Tryd
set_option linter.unusedVariables false
set_option maxRecDepth 100000

/-- What readCopy answers, the block's number given. -/
noncomputable def copyF (D : Dv) (q : Int) : Ls × Int := if (D.sread q).2.2 = 0 then (listF (D.sread q).1, 0) else (ls0, (D.sread q).2.2)
theorem cretrc (A : Act) (W : World) (b : Nat) (l : Ls) (sv : Value) (x : Int) (Q : Ending → World → Prop) (h2 : A.tmps.getD 6 undef = .pointer (some ⟨b, 0, none⟩)) (h3 : A.tmps.getD 7 undef = .int .i64 x) (hd : A.defers = []) (hr : LsB W b l.index l.term l.bytes sv)
    (hq : Q (.returned (.tuple #[lsV l sv, .int .i64 x])) W) : bodyPost Tryd.prog Tryd.f74 Q Exit.ret A W := by
  obtain ⟨⟨c0, c1, c2, c3⟩, _⟩ := hr.cells
  have e2 : A.tmps[6]?.getD undef = .pointer (some ⟨b, 0, none⟩) := by simpa using h2
  have e3 : A.tmps[7]?.getD undef = .int .i64 x := by simpa using h3
  exact bodyPost_ret (v := .tuple #[lsV l sv, .int .i64 x]) (by simp [results, Tryd.results74, go_sem, lsV, e2, e3, c0, c1, c2, c3]) hd hq
set_option maxHeartbeats 8000000 in
theorem creadc_any {m : Nat} {E : Nat → Prop} {w : World} {b B : Nat} {base i t n area : Int} {sv : Value} {D : Dv} (ar k : Int) (h : CsB w b B base i t n sv area) (hd : DevW m E w B D) (hb : 0 ≤ base ∧ base ≤ 1000000000) (ha : 0 ≤ ar ∧ ar ≤ 1) (hk : 0 ≤ k ∧ k ≤ 2) (ht : Tabs w) (hw : D.writes ≤ 1073741824) :
    Calls Tryd.prog 74 #[.pointer (some ⟨b, 0, none⟩), .int .i64 ar, .int .i64 k] w fun e w' => ∃ sv', e = .returned (.tuple #[lsV (copyF D (base + ar * 66 + k)).1 sv', .int .i64 (copyF D (base + ar * 66 + k)).2]) ∧ w'.ownsRow w.heap.size 70 1 sv' (copyF D (base + ar * 66 + k)).1.sums.length (smCells (copyF D (base + ar * 66 + k)).1.sums) ∧ Below w.heap.size w w' := by
  obtain ⟨q, hq⟩ : ∃ q : Int, q = base + ar * 66 + k := ⟨_, rfl⟩
  rw [← hq]
  have V0 := LsB.new w 0 0 0 (.slice none 0 0)
  have B0 := (Below.refl w.heap.size w).alloc (Nat.le_refl _) (.cells #[.int .i64 0, .int .i64 0, .int .i64 0, .slice none 0 0] 67)
  have h1 := h.below B0
  have hd1 := hd.below B0
  have ht1 := ht.below B0
  clear h hd ht
  go_enter Tryd.func74, Tryd.ntmps74
  go_upto_region 1 with fail
  generalize (w.alloc (.cells #[.int .i64 0, .int .i64 0, .int .i64 0, .slice none 0 0] 67)) = w1 at V0 B0 h1 hd1 ht1 ⊢
  have HCB := Lib.hid (fun (W : World) (hW : Below w1.heap.size w1 W) => ccopyb_any (h1.below hW) ar k hb ha hk)
  rw [← hq] at HCB
  obtain ⟨r, st, x, hD⟩ : ∃ r st x, D.sread q = (r, st, x) := ⟨_, _, _, rfl⟩
  have HRD := Lib.hid (fun (W : World) (hW : Below w1.heap.size w1 W) => devw_sread q (ht1.below hW) hw (hd1.below hW))
  rw [hD] at HRD
  unfold sreadV recV at HRD
  simp only at HRD
  have HCF : Hid (copyF D q = if x = 0 then (listF r, 0) else (ls0, x)) := by show _ = _; unfold copyF; rw [hD]
  have hsz := c_sread_fits hd1.fits q
  rw [hD] at hsz
  have HSZ : Hid (r.data.size ≤ 512) := hsz
  clear hsz
  obtain ⟨⟨c0, c1, c2, c3, c4, c5, c6⟩, _⟩ := h1.cells
  have bd := (Below.refl w1.heap.size w1).drew
  have BA : Below w1.heap.size w1 (w1.alloc (.cells #[.int .i64 0, .int .i64 0, .int .i64 0, .string ⟨#[]⟩] 58)).drew := ((Below.refl _ w1).alloc (Nat.le_refl _) _).drew
  have NA : RecB (w1.alloc (.cells #[.int .i64 0, .int .i64 0, .int .i64 0, .string ⟨#[]⟩] 58)).drew w1.heap.size rc0 := RecB.new w1 rc0
  have HCW := Lib.hid (fun (W : World) (hW : Below w1.heap.size w1 W) => (h1.below hW).cells.1)
  have y1 : ¬ b = w1.heap.size := Nat.ne_of_lt h1.lt
  have y2 : ¬ w1.heap.size = b := Nat.ne_of_gt h1.lt
  have HV0 := Lib.hid V0
  have HB0 := Lib.hid B0
  clear hD h1 hd1 ht1 V0 B0 hq hb ha hk hw
  clear c1 c2 c3 c4 c5 c6
  go_cut [8, 9, 10] (CkRel w1 r st x)
  case first =>
    go_region_held3 (fun w' => w'.cell? ⟨b, 0, none⟩ = some (.pointer (some ⟨B, 0, none⟩))) (first | (with_reducible assumption) | go_keep)
      ((first
        | (go_at_call 110; refine (HCB.out _ ?hBa).mono ?_; (case hBa => first | (with_reducible exact BA) | (with_reducible exact bd)); rintro e w2 ⟨rfl, rfl⟩)
        | (go_at_call 26; refine (HRD.out _ ?hBb).mono ?_; (case hBb => first | (with_reducible exact BA) | (with_reducible exact bd)); rintro e w3 ⟨rfl, hb3⟩; (first
          | (have N3 : RecB w3 w1.heap.size rc0 := (by with_reducible exact NA.below hb3); have B3 : Below w1.heap.size w1 w3 := (by with_reducible exact BA.trans (hb3.mono BA.size)); obtain ⟨g0, _, _, _, _, _, g6⟩ := HCW.out w3 B3; obtain ⟨⟨n0, n1, n2, n3⟩, k0, k1, k2, k3⟩ := N3.cells; simp only [rc0] at n0 n1 n2 n3)
          | (have B3 : Below w1.heap.size w1 w3 := (by with_reducible exact bd.trans (hb3.mono bd.size)); obtain ⟨g0, _, _, _, _, _, g6⟩ := HCW.out w3 B3)))))
    all_goals (go_wp2_with fail; go_meet)
    all_goals first
      | (exact ⟨w1.heap.size, rfl, rfl, rfl, N3.set r, below_rec B3 (Nat.le_refl _) r⟩)
      | (exact ⟨w3.heap.size, rfl, rfl, rfl, RecB.new w3 r, B3.alloc B3.size _⟩)
  case rest =>
    obtain ⟨rb, rfl, rfl, rfl, RB, B4⟩ := hcut
    clear HCB HRD HCW bd BA NA y1 y2 c0
    have V4 := HV0.out.below B4
    have HV4 := Lib.hid V4
    have HB4 := Lib.hid (HB0.out.trans (B4.mono HB0.out.size))
    obtain ⟨⟨v0, v1, v2, v3⟩, f0, f1, f2, f3⟩ := V4.cells
    obtain ⟨⟨n0, n1, n2, n3⟩, _⟩ := RB.cells
    clear V4 B4 RB
    by_cases hx : x = 0
    · subst hx
      have HC2 : Hid (copyF D q = (listF r, 0)) := by show _ = _; rw [HCF.out, if_pos rfl]
      have HLO := Lib.hid (fun (W : World) => clistof_any r (by have := HSZ.out; omega) W)
      unfold recV at HLO
      go_wp2_with fail
      refine (HLO.out _).mono ?_
      rintro e w4 ⟨sv', rfl, O4, B5⟩
      obtain ⟨sa, sc, rfl⟩ := slice_of O4
      have V5 := HV4.out.below B5
      obtain ⟨⟨y0, y1, y2, y3⟩, z0, z1, z2, z3⟩ := V5.cells
      have HV5 := Lib.hid V5
      have HB5 := Lib.hid (HB4.out.trans (B5.mono HB4.out.size))
      have HO5 := Lib.hid O4
      have HSZ4 := Lib.hid HB4.out.size
      clear V5 B5 O4 HLO v0 v1 v2 v3 f0 f1 f2 f3 n0 n1 n2 n3
      unfold lsV
      go_wp2_with fail
      refine cretrc _ (setLs w4 w.heap.size (listF r).index (listF r).term (listF r).bytes (.slice sa (listF r).sums.length sc)) w.heap.size (listF r) (.slice sa (listF r).sums.length sc) 0 _ rfl rfl rfl (HV5.out.setAll _ _ _ _) ?_
      rw [HC2.out]
      refine ⟨_, rfl, ?_, below_setLs HB5.out (Nat.le_refl _) _ _ _ _⟩
      have hne := HV5.out.not_row HO5.out
      have hO := ownsRow_same (w' := setLs w4 w.heap.size (listF r).index (listF r).term (listF r).bytes (.slice sa (listF r).sums.length sc)) HO5.out (fun j hj => setLs_other (fun e => hne (by rw [hj, e])))
      exact ⟨hO.1, hO.2.imp id (fun ⟨g, cp, cur, e1, e2, e3⟩ => ⟨g, cp, cur, e1, Nat.le_trans HSZ4.out e2, e3⟩)⟩
    · have hx' : (x != 0) = true := by simp [hx]
      have HC2 : Hid (copyF D q = (ls0, x)) := by show _ = _; rw [HCF.out, if_neg hx]
      go_wp2_with fail
      refine cretrc _ (setLs wc w.heap.size 0 0 0 (.slice none 0 0)) w.heap.size ls0 (.slice none 0 0) x _ rfl rfl rfl (HV4.out.setAll 0 0 0 (.slice none 0 0)) ?_
      rw [HC2.out]
      exact ⟨_, rfl, World.ownsRow_nil _ _ _ _, below_setLs HB4.out (Nat.le_refl _) _ _ _ _⟩
end Go.Proofs.YtiknfifiglooeaaDoor
