/- Delete of a tree's node. No conditions beyond those in each statement. -/
import Derived.Test.YtblcpihfnpgfiaaGreatDoorTreeDel
namespace Go.Proofs.YtblcpihfnpgfiaaGreatDoor
open Go.RowKit Go.Maps
set_option linter.unusedVariables false
set_option linter.unusedSimpArgs false
set_option maxRecDepth 100000

set_option maxHeartbeats 4000000 in
theorem delete_err (tb mb k c : Nat) (T : List UInt8 → Option Nd) (z : List UInt8) (v ce : Int) (w : World) (h : TrW w tb mb k c T) (hz : z.length ≤ 1000) (hce : chkN T z v = ce) (h0 : ce ≠ 0) :
    Calls Tryz.prog 34 #[.pointer (some ⟨tb, 0, none⟩), .string (bs z), .int .i64 v] w fun e w' => e = .returned (.int .i64 ce) ∧ Below w.heap.size w w' := by
  have HC := Lib.hid (chk_any tb mb k c T z v w h (by omega))
  rw [hce] at HC
  have e1 : (ce != 0) = true := by simpa using h0
  have e2 : (ce == 0) = false := by simpa using h0
  clear hce h0 h
  go_enter Tryz.func34, Tryz.ntmps34
  go_wp2_with fail
  refine HC.out.mono ?_
  rintro e w1 ⟨rfl, b1⟩
  go_wp2_with fail
  go_ret
  exact ⟨rfl, b1⟩
def lessN (T : List UInt8 → Option Nd) (z : List UInt8) (par : Nd) : List UInt8 → Option Nd := updN (updN T z none) (upP z) (some (upC par))
set_option maxHeartbeats 4000000 in
theorem delete_ok (tb mb k c : Nat) (T : List UInt8 → Option Nd) (z : List UInt8) (v : Int) (w : World) (h : TrW w tb mb k c T) (hz : z.length ≤ 1000) (hK : KeysOk T) (hn : ∀ x n, T x = some n → upP x ≠ z) (nd : Nd) (hck : checkL z = true) (hT : T z = some nd) (hv : chkN T z v = 0) (hzr : z ≠ [47])
    (par : Nd) (hp : T (upP z) = some par) (hpb : 0 ≤ par.below ∧ par.below ≤ 1000000) (hk : k < 1000000) :
    Calls Tryz.prog 34 #[.pointer (some ⟨tb, 0, none⟩), .string (bs z), .int .i64 v] w fun e w' => e = .returned (.int .i64 0) ∧ Left w tb mb (k + 1) (c - 1) (lessN T z par) w' := by
  have HC := Lib.hid (chk_any tb mb k c T z v w h (by omega))
  rw [hv] at HC
  have HKN := Lib.hid (fun (W : World) (hb : Below w.heap.size w W) => kids_none tb mb k c T z W (h.below hb) hz hK hn nd hck hT)
  have HU := Lib.hid (fun W : World => up_path z W hck)
  have hne : upP z ≠ z := hn z nd hT
  have e1 : ((bs z).toList == [47]) = false := by rw [Lib.toList_data, bs_list]; simpa using hzr
  obtain ⟨p0, p1⟩ := hpb
  have hul : (upP z).length ≤ 1000 := by
    obtain ⟨x, q, e, hq, _, hl⟩ := check_split hck hzr
    subst e
    rw [(upP_app hq hzr).1]; unfold upB; simp at hl; split
    · simp
    · omega
  have hulm : (upP z).length ≤ maxLen := by unfold maxLen; omega
  have hp2 : updN T z none (upP z) = some par := by rw [updN_other hne]; exact hp
  have HH := Lib.hid h
  have HT := Lib.hid hT
  have HP2 := Lib.hid hp2
  obtain ⟨T', hT'⟩ : ∃ T', T' = lessN T z par := ⟨_, rfl⟩
  rw [← hT']
  have HT' := Lib.hid hT'
  clear hT hv hn hK hck hzr hp hp2 h hT' hne
  go_enter Tryz.func34, Tryz.ntmps34
  go_wp2_with fail
  refine HC.out.mono ?_
  rintro e w1 ⟨rfl, b1⟩
  go_wp2_with fail
  refine (HKN.out _ b1).mono ?_
  rintro e w2 ⟨rfl, b2⟩
  replace b2 := b1.trans (b2.mono b1.size)
  have H2 := HH.out.below b2
  have x0 := H2.cell
  obtain ⟨w3, hdel, M3, g3⟩ := H2.map.del z (by unfold maxLen; omega) 0
  rw [HT.out] at M3
  have H3 := H2.stored g3 M3
  replace H3 : TrW w3 tb mb k (c - 1) (updN T z none) := H3
  have y0 := H3.cell
  have hl := H3.map.look (upP z) hulm
  rw [HP2.out] at hl
  simp only [Option.getD_some, ndV] at hl
  have hl2 : ∀ m, (Instr.lookup 68 (.map (some mb)) (.string (bs (upP z))) false).run Tryz.prog (w3.drewN m) = .ok (ndV par) (w3.drewN m) := fun m => by
    have := (H3.below (drewN_below w3 m)).map.look (upP z) hulm
    rw [HP2.out] at this; exact this
  have HL2 := Lib.hid hl2
  have g3w := grownBy_trans (below_grownBy b2 (some mb)) g3
  clear H2 M3 g3 b1 b2 hl hl2
  go_wp2_with fail
  refine (HU.out _).mono ?_
  rintro e w4 ⟨rfl, m, rfl⟩
  have b4 := drewN_below w3 m
  have H4 := H3.below b4
  have hl4 := HL2.out m
  unfold ndV at hl4
  have z0 := H4.cell
  clear y0 x0 hdel
  obtain ⟨w4, hw4⟩ : ∃ w4, w4 = w3.drewN m := ⟨_, rfl⟩
  rw [← hw4] at b4 H4 hl4 z0 ⊢
  clear hw4 HL2
  go_upto_region 12 with fail
  have b5 := b4.alloc b4.size (.cells (ndC par) 40)
  have N5 := NdB.new w4 par
  obtain ⟨w5, hw5⟩ : ∃ w5, w5 = w4.alloc (.cells (ndC par) 40) := ⟨_, rfl⟩
  rw [← hw5] at b5 N5
  have hw5' : w4.alloc (.cells #[.string par.data, .int .i64 par.ver, .int .i64 par.below, .int .i64 par.owner, .int .i64 par.made, .int .i64 par.put, .int .i64 par.serial] 40) = w5 := hw5.symm
  rw [hw5']
  clear hw5 hw5'
  obtain ⟨pb, hpb⟩ : ∃ pb, pb = w4.heap.size := ⟨_, rfl⟩
  have hpw : w3.heap.size ≤ pb := by rw [hpb]; exact b4.size
  have htl := H3.lt
  have hml := H3.map.lt
  have hpt : pb ≠ tb := by omega
  have hpm : pb ≠ mb := by omega
  have H5 := H3.below b5
  rw [← hpb] at N5 ⊢
  clear hpb b4 H4 z0 hl4 H3 htl hml
  obtain ⟨⟨c0, c1, c2, c3, c4, c5, c6⟩, f0, f1, f2, f3, f4, f5, f6⟩ := N5.cells
  go_upto_region 13 with fail
  have H8 := H5.setCell ⟨pb, 2, none⟩ (.int .i64 (par.below + 1)) hpt hpm
  have N8 : NdB (w5.setCell ⟨pb, 2, none⟩ (.int .i64 (par.below + 1))) pb (upC par) := N5.set_below _
  have b8 := b5.setCell (p := ⟨pb, 2, none⟩) hpw (.int .i64 (par.below + 1))
  obtain ⟨w8, hw8⟩ : ∃ w8, w8 = w5.setCell ⟨pb, 2, none⟩ (.int .i64 (par.below + 1)) := ⟨_, rfl⟩
  rw [← hw8] at H8 N8 b8 ⊢
  obtain ⟨pn, hpn⟩ : ∃ pn, pn = upC par := ⟨_, rfl⟩
  rw [← hpn] at N8
  have HPN := Lib.hid hpn
  clear hw8 c0 c1 c2 c3 c4 c5 c6 f0 f1 f2 f3 f4 f5 f6 N5 H5 hpn b5
  have H8d := H8.drew
  obtain ⟨hr9, H9, g9⟩ := H8d.run (by omega) (upP z) hulm pn
  have e9 : (if (updN T z none (upP z)).isSome then c - 1 else c - 1 + 1) = c - 1 := by rw [HP2.out]; rfl
  rw [e9] at H9
  have N9 : NdB (stoW mb (upP z) pn w8.drew) pb pn := (g9.block pb N8.lt (fun e => hpm (Option.some.inj e))).trans N8
  have x0 := H8d.cell
  obtain ⟨⟨c0, c1, c2, c3, c4, c5, c6⟩, _⟩ := N8.drew.cells
  have y0 := H9.cell
  obtain ⟨⟨d0, d1, d2, d3, d4, d5, d6⟩, _⟩ := N9.cells
  go_region_held3 (fun w' => w'.cell? ⟨tb, 0, none⟩ = some (.map (some mb)) ∧ w'.cell? ⟨pb, 0, none⟩ = some (.string pn.data) ∧ w'.cell? ⟨pb, 1, none⟩ = some (.int .i64 pn.ver) ∧ w'.cell? ⟨pb, 2, none⟩ = some (.int .i64 pn.below) ∧ w'.cell? ⟨pb, 3, none⟩ = some (.int .i64 pn.owner) ∧ w'.cell? ⟨pb, 4, none⟩ = some (.int .i64 pn.made) ∧ w'.cell? ⟨pb, 5, none⟩ = some (.int .i64 pn.put) ∧ w'.cell? ⟨pb, 6, none⟩ = some (.int .i64 pn.serial)) (first | (with_reducible assumption) | (refine ⟨?_, ?_, ?_, ?_, ?_, ?_, ?_, ?_⟩ <;> with_reducible assumption) | go_keep) (fail)
  have g12 := grownBy_trans g3w (grownBy_trans (below_grownBy b8.drew (some mb)) g9)
  clear hr9 c0 c1 c2 c3 c4 c5 c6 x0
  go_wp2_with fail
  go_ret
  rw [HT'.out]
  unfold lessN
  rw [← HPN.out]
  exact ⟨rfl, H9, g12⟩
end Go.Proofs.YtblcpihfnpgfiaaGreatDoor
