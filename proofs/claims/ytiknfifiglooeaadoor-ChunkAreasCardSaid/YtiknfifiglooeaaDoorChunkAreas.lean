/- Law 7, areas: the snapshot before the newest one is there until the next Put. No conditions beyond those in each statement. -/
import Derived.Test.YtiknfifiglooeaaDoorChunkAr
import Derived.Test.YtiknfifiglooeaaDoorCards
import Derived.Test.YtiknfifiglooeaaDoorTie
import Derived.ProofKit
import Derived.OpenShut
import Derived.ShutString
import Derived.ChangeOld
import Derived.Deep.DeepHandedRow
import Derived.Lib.LaidTab
import Derived.Stop.LaidErr
namespace Go.Proofs.YtiknfifiglooeaaDoor.chunkAreas
open Go.ChangeShapes Go.WideShapes Go.ChangeAt Go.RowKit
open Go.ChangeMaps (open_string shut_string)
set_option linter.unusedVariables false
set_option maxRecDepth 100000
set_option maxHeartbeats 8000000 in
theorem walk (v0 : Value) (zs : List Int) (w : World) (w0 : Fts w v0 zs) (hT : Tabs w) :
    Calls Tryd.prog 9 #[v0] w fun e w' => e = .returned (.bool true) ∧ Below w.heap.size w w' := by
  have HT := Lib.hid (fun (x : World) (hb : Below w.heap.size w x) => hT.below hb)
  obtain ⟨va, vcap, rfl, hlen, _⟩ := id w0
  unfold maxLen at hlen
  have HZ := Lib.hid w0
  clear hT w0
  go_enter Tryd.func9, Tryd.ntmps9
  go_wp2_with fail
  refine (head7_any w HT.out).mono ?_
  rintro e w1 ⟨rfl, hb1⟩
  have HB1 := Lib.hid hb1
  by_cases hfew : 8 < zs.length
  · have hd : decide ((8 : Int) < (zs.length : Int)) = true := by simp; omega
    have hd2 : decide ((zs.length : Int) > 8) = true := by simp; omega
    clear hfew hlen
    go_wp2_with fail
    go_ret
    exact ⟨rfl, HB1.out⟩
  have hd : decide ((8 : Int) < (zs.length : Int)) = false := by simp; omega
  have hd2 : decide ((zs.length : Int) > 8) = false := by simp; omega
  have HLEN : Hid (zs.length ≤ 8) := by show _ ≤ _; omega
  clear hfew hlen hb1
  go_wp2_with fail
  refine (new_any 140 w1).mono ?_
  rintro e w3 ⟨B, rfl, hd3, hb3⟩
  have X3 : DevW w.heap.size (fun _ => False) w3 B (Dv.new ((140 : Nat) : Int)) := devw_new hd3 HB1.out.size (fun j hj => hj.elim) hb3.size
  have HB3 := Lib.hid (HB1.out.trans (hb3.mono HB1.out.size))
  obtain ⟨c1, n1, k1⟩ := new_calm 140 (by decide)
  have HC1 := Lib.hid c1
  have HN1 := Lib.hid n1
  have HK1 := Lib.hid k1
  have HO := Lib.hid (st_open (M := 140) (base := 0) X3 HC1.out HN1.out (by decide) (by decide) HB3.out.size (HT.out _ HB3.out))
  have hopn : opnC (cont (Dv.new ((140 : Nat) : Int))) 0 = (ls0, 0) := opnC_zero (fun ar n _ _ => by rw [cpC_rc0 (x := 0) (by rw [HK1.out])]; rfl)
  rw [hopn] at HO
  clear hopn X3 hd3 c1 n1 k1 hb3
  go_wp2_with fail
  refine HO.out.mono ?_
  rintro e w4 ⟨b, sv, ar, rfl, hbb, har, S4, hb4⟩
  obtain rfl : ar = 0 := by simpa using har
  have HS4 := Lib.hid S4
  have HB4 := Lib.hid (HB3.out.trans (hb4.mono HB3.out.size))
  clear S4 hb4 hbb har HO HB3 HC1 HN1 HK1
  generalize (fun k => False ∨ (w3.heap.size ≤ k ∧ k < w4.heap.size)) = E4 at HS4
  go_wp2_with fail
  go_loopw [6, 32] (fun lv iv wx => ∃ (k : Nat) (E : Nat → Prop) (sk : Value) (l : Ls) (ar : Nat) (D : Dv) (s : ByteArray), k ≤ zs.length ∧ lv = .string s ∧ iv = .int .i64 (k : Int) ∧
    StC w.heap.size E wx b B 140 0 l sk ar D ∧ InvA k l ar D s ∧ Below w.heap.size w wx) (fun _ iv _ => zs.length - (intOf iv).toNat)
  case atStart => exact ⟨0, E4, sv, ls0, 0, _, ⟨#[]⟩, Nat.zero_le _, rfl, rfl, HS4.out, .inl ⟨rfl, rfl, rfl⟩, HB4.out⟩
  case round =>
    as_aux_lemma =>
    obtain ⟨k, E, sk, l, ar, D, s, hk, rfl, rfl, Sk, hI, Bk⟩ := hrel
    clear HS4 HB4
    by_cases hlt : k < zs.length
    case neg =>
      obtain rfl : k = zs.length := by omega
      have hge : ¬ ((zs.length : Int) < (zs.length : Int)) := by omega
      have HBk := Lib.hid Bk
      clear Sk hI
      go_wp2_with fail
      go_ret
      exact ⟨rfl, HBk.out⟩
    have hlt' : (k : Int) < (zs.length : Int) := by omega
    have hk0 : (0 : Int) ≤ (k : Int) := by omega
    obtain ⟨g, off, hga, hcell⟩ : ∃ g off, va = some ⟨g, off, none⟩ ∧ wr.cell? ⟨g, off + k, none⟩ = some (.int .i64 (zs.getD k 0)) := by
      obtain ⟨a, cap, hv, _, h⟩ := HZ.out.below Bk
      simp only [Value.slice.injEq] at hv
      obtain ⟨rfl, _, _⟩ := hv
      rcases h with h | ⟨g, off, ha, _, hc⟩
      · omega
      · exact ⟨g, off, ha, hc k hlt⟩
    subst hga
    generalize zs.getD k 0 = z at hcell
    obtain ⟨n, hn⟩ : ∃ n : Nat, (n : Int) = z % 2048 := ⟨(z % 2048).toNat, by omega⟩
    have hand : bits .and .i64 z 2047 = (n : Int) := by rw [i64_and2047, hn]
    have HN : Hid (n ≤ 2047) := by show n ≤ 2047; omega
    have HK8 : Hid (k < 8) := by show k < 8; have := HLEN.out; omega
    have HSK := Lib.hid Sk
    have HI := Lib.hid hI
    have HBK := Lib.hid Bk
    have HLT := Lib.hid hlt
    have hwk : wrap64 ((k : Int) + 1) = (k : Int) + 1 := IntWalk.wrap64_in _ (by have := HLEN.out; omega)
    clear Sk hI Bk hn hlt hk
    go_wp2_with fail
    refine (text7_any n (k : Int) (by have := HN.out; omega) _).mono ?_
    rintro e w5 ⟨t, rfl, ht, hb5⟩
    have hg : (ofL ((k : Int) + 1) 1 t).Good := ofL_good2 ⟨by omega, by have := HK8.out; omega⟩ ⟨by decide, by decide⟩ (by have := HN.out; omega)
    have HB5 := Lib.hid (HBK.out.trans (hb5.mono HBK.out.size))
    have HG := Lib.hid hg
    have HTS : Hid (t.size ≤ 2047) := by show _ ≤ _; have := HN.out; omega
    have HP := Lib.hid (st_put ((k : Int) + 1) 1 t (HSK.out.below hb5) hg (by rw [HI.out.index]; omega) (by have := HN.out; omega) HB5.out.size (fun x hx => HT.out x (HB5.out.trans hx)))
    clear hb5 hg ht
    go_wp2_with fail
    refine HP.out.mono ?_
    rintro e w6 ⟨rfl, E6, sv6, D6, hE6, S6, k6, hb6, hk6, _⟩
    rw [HI.out.nxt] at S6 k6
    have HS6 := Lib.hid S6
    have HK6 := Lib.hid k6
    have HB6 := Lib.hid (HB5.out.trans hb6)
    clear S6 k6 hb6 hk6 hE6 HP HSK HB5 HBK
    by_cases h0 : k = 0
    · subst h0
      have hx : decide (((0 : Nat) : Int) > 0) = false := by decide
      have hx2 : decide ((0 : Int) < ((0 : Nat) : Int)) = false := by decide
      clear hcell hand hlt' hk0
      go_wp2_with fail
      go_roundw
      case rel => exact ⟨1, E6, sv6, _, _, D6, t, HLT.out, rfl, rfl, HS6.out, InvA.put (k := 0) (l := l) (ar := ar) (D := D) (s := s) HG.out HK6.out, HB6.out⟩
      case measure => simp [intOf]; have := HLT.out; omega
    as_aux_lemma =>
    have HPOS : Hid (0 < k) := by show 0 < k; omega
    have hx : decide ((k : Int) > 0) = true := by simp; omega
    have hx2 : decide ((0 : Int) < (k : Int)) = true := by simp; omega
    obtain ⟨hgo, hsn, har1, har⟩ := HI.out.old HPOS.out (by have := HTS.out; omega) HK6.out
    have HGO := Lib.hid hgo
    have HSN := Lib.hid hsn
    have HAR1 := Lib.hid har1
    have HAR := Lib.hid har
    clear h0 hcell hand hgo hsn har1 har
    go_wp2_with fail
    refine (st_clone HS6.out).mono ?_
    rintro e w7 ⟨C, rfl, X7, hb7⟩
    have HX7 := Lib.hid X7
    have HB7 := Lib.hid hb7
    have HL7 := Lib.hid (dv_lose (k % 2 * 66) X7 HS6.out.calm HS6.out.len (by omega) hb7.size)
    rw [show ((k % 2 * 66 : Nat) : Int) = (k : Int) % 2 * 66 by omega] at HL7
    clear X7 hb7 HX7
    go_wp2_with fail
    refine HL7.out.mono ?_
    rintro e w8 ⟨rfl, D8, X8, c8, n8, k8, hb8⟩
    have HB8 := Lib.hid (HB7.out.trans hb8)
    have HL8 := Lib.hid (dv_lose (k % 2 * 66 + 1) X8 c8 n8 (by omega) (HB7.out.trans hb8).size)
    rw [show ((k % 2 * 66 + 1 : Nat) : Int) = (k : Int) % 2 * 66 + 1 by omega] at HL8
    have HK8' := Lib.hid k8
    clear X8 c8 n8 k8 hb8 HL7 HB7
    go_wp2_with fail
    as_aux_lemma =>
    refine HL8.out.mono ?_
    rintro e w9 ⟨rfl, D9, X9, c9, n9, k9, hb9⟩
    have HB9 := Lib.hid (HB8.out.trans hb9)
    have e9 : cont D9 = lose2 (cont D6) ((1 - ar) * 66) := by rw [k9, HK8'.out, HAR1.out]; rfl
    have HTW := Lib.hid (fun (x : World) (hx : Below w6.heap.size w6 x) => HT.out x (HB6.out.trans (hx.mono HB6.out.size)))
    have HO := Lib.hid (st_open (M := 140) (base := 0) X9 c9 n9 (by decide) (by decide) HB9.out.size (HTW.out _ HB9.out))
    rw [e9, areas_open HSN.out HGO.out HAR.out] at HO
    have HE9 := Lib.hid e9
    clear X9 c9 n9 k9 hb9 HL8 HB8 HK8' e9
    go_wp2_with fail
    refine HO.out.mono ?_
    rintro e w10 ⟨u, su, ar2, rfl, huu, har2, S10, hb10⟩
    obtain rfl : ar2 = ar := by have h : (ar2 : Int) = (ar : Int) := har2; omega
    have HS10 := Lib.hid S10
    have HB10 := Lib.hid (HB9.out.trans (hb10.mono HB9.out.size))
    clear S10 huu har2 hb10 HO HB9
    generalize (fun k => False ∨ (w9.heap.size ≤ k ∧ k < w10.heap.size)) = E10 at HS10
    have HDT := Lib.hid (st_data HS10.out HGO.out (by rw [HE9.out]; exact (areas_snap HSN.out (good_size HGO.out) HAR.out).ck) (fun x hx => HTW.out x (HB10.out.trans (hx.mono HB10.out.size))))
    go_wp2_with fail
    refine HDT.out.mono ?_
    rintro e w11 ⟨rfl, hb11⟩
    have HS11 := Lib.hid (HS10.out.below hb11)
    have HB11 := Lib.hid (HB10.out.trans (hb11.mono HB10.out.size))
    have HLI := Lib.hid (clist_any (ofL (k : Int) 1 s) HS11.out.sto.st HS11.out.sto.sums)
    clear hb11 HDT HS10 HB10
    have hk1 : ¬ (k : Int) = 0 := by have := HPOS.out; omega
    have hhl : hasL (ofL (k : Int) 1 s) = ofL (k : Int) 1 s := by unfold hasL; exact if_neg hk1
    have hhd : decide ((ofL (k : Int) 1 s).index ≠ 0) = true := decide_eq_true hk1
    rw [hhl, hhd] at HLI
    clear hk1 hhl hhd
    go_wp2_with fail
    as_aux_lemma =>
    refine HLI.out.mono ?_
    rintro e w12 ⟨su2, rfl, O12, hb12⟩
    obtain ⟨sa, sc, rfl⟩ := slice_of O12
    rw [show lsV (ofL (k : Int) 1 s) (.slice sa (ofL (k : Int) 1 s).sums.length sc) = .agg #[.int .i64 (k : Int), .int .i64 1, .int .i64 (s.size : Int), .slice sa (ofL (k : Int) 1 s).sums.length sc] from rfl]
    have HB12 := Lib.hid (HB11.out.trans (hb12.mono HB11.out.size))
    have L13 := LsB.new w12 (k : Int) 1 (s.size : Int) (.slice sa (ofL (k : Int) 1 s).sums.length sc)
    have B13 := HB12.out.trans ((Below.refl w12.heap.size w12).alloc (Nat.le_refl _) (.cells #[.int .i64 (k : Int), .int .i64 1, .int .i64 (s.size : Int), .slice sa (ofL (k : Int) 1 s).sums.length sc] 67) |>.mono HB12.out.size)
    clear O12 hb12 HLI HS11 HB11 HB12
    generalize (ofL (k : Int) 1 s).sums.length = nx at L13 B13 ⊢
    go_upto_region 23 with fail
    as_aux_lemma =>
    generalize w12.alloc (.cells #[.int .i64 (k : Int), .int .i64 1, .int .i64 (s.size : Int), .slice sa nx sc] 67) = w13 at L13 B13 ⊢
    obtain ⟨⟨l0, _, _, _⟩, _⟩ := L13.cells
    have HB13 := Lib.hid B13
    clear L13 B13
    go_upto_region 26 with fail
    as_aux_lemma =>
    go_wp2_with fail
    go_roundw
    case rel => exact ⟨k + 1, E6, sv6, _, _, D6, t, HLT.out, rfl, by rw [hwk]; rfl, HS6.out.below HB13.out, InvA.put (l := l) (ar := ar2) (D := D) (s := s) HG.out HK6.out, HB6.out.trans (HB13.out.mono HB6.out.size)⟩
    case measure => rw [hwk]; simp [intOf]; have := HLT.out; omega

theorem own : ownKnob Tryd.prog.godebug = none := by kernel_rfl
theorem laidOut : laidOutB Tryd.prog = true := by kernel_rfl
theorem gHi : Tryd.prog.globalNamed "orchard/sum.highTable" = some 0 := by kernel_rfl
theorem gLo : Tryd.prog.globalNamed "orchard/sum.lowTable" = some 1 := by kernel_rfl
theorem gHiType : (Tryd.prog.globals[0]?).map (·.type) = some 187 := by kernel_rfl
theorem gLoType : (Tryd.prog.globals[1]?).map (·.type) = some 187 := by kernel_rfl
theorem cellsTab : Tryd.prog.cellsOf 187 = 16 := by kernel_rfl
theorem cellsSum : Tryd.prog.cellsOf 70 = 1 := by kernel_rfl

theorem table_lo {W : World} (h : laidMetH Tryd.prog Rows.chunkAreasRow.laid W) : Lib.TabIs Tryd.prog W "orchard/sum.lowTable" .u32 LO :=
  Lib.tabIs_of_head (rest := [("orchard/sum.highTable", Rows.laid_orchard_sum_highTable)]) gLo gLoType Tryd.underlying187 Tryd.underlying70 cellsSum cellsTab h
theorem table_hi {W : World} (h : laidMetH Tryd.prog Rows.chunkAreasRow.laid W) : Lib.TabIs Tryd.prog W "orchard/sum.highTable" .u32 HI :=
  Lib.tabIs_of_head (rest := []) gHi gHiType Tryd.underlying187 Tryd.underlying70 cellsSum cellsTab (laidMet.tail (show laidMet Tryd.prog [("orchard/sum.lowTable", Rows.laid_orchard_sum_lowTable), ("orchard/sum.highTable", Rows.laid_orchard_sum_highTable)] W from h))
theorem tabs_of {W : World} (h : laidMetH Tryd.prog Rows.chunkAreasRow.laid W) : Tabs W := by
  have c0 := fun (j : Nat) (hj : j < 16) => (table_hi h).cell gHi j hj
  have c1 := fun (j : Nat) (hj : j < 16) => (table_lo h).cell gLo j hj
  refine ⟨⟨World.block_lt_of_cell? W _ (c0 0 (by decide)), World.block_lt_of_cell? W _ (c1 0 (by decide))⟩, fun j hj => ?_, fun j hj => ?_⟩
  · rw [c0 j hj, hi_cast j]
  · rw [c1 j hj, lo_cast j]

theorem contract (H : Type) (enc : TypeId × Value → H) (W : World) (base : Nat) (args : Array Value) (ds gs : List (DataW H)) (before : List MemPlace)
    (hval : ∀ (j : Nat) t v, Tryd.f9.params[j]? = some t → args[j]? = some v → Value.okWide Tryd.prog W .any base t v)
    (hW : DataW.Whole enc Tryd.prog Tryd.f9.params.toList Rows.chunkAreasSpec.vars false W args.toList ds gs before) (hL : laidMetH Tryd.prog Rows.chunkAreasRow.laid W) :
    Calls Tryd.prog 9 args W fun e W' => ∃ v, e = .returned v ∧ Rows.chunkAreasSpec.post enc Tryd.prog Tryd.f9 false true false false W args v W' := by
  have hT := tabs_of hL
  have hW' := hW
  obtain ⟨p, q, hA0, hV, rfl, hfz, hnd⟩ := hW
  have hA : DataW.TrodAll enc Tryd.prog W 0 (fun _ => true) true Tryd.f9.params.toList args.toList ds p := hA0
  rw [Tryd.params9] at hA hval
  obtain ⟨v0, vs0, d0, ds0, p0, q0, hargs, rfl, rfl, h0, r0⟩ := trodAll_cons hA
  obtain ⟨rfl, rfl, rfl⟩ := trodAll_nil r0
  obtain rfl : args = #[v0] := by cases args; simp_all
  obtain ⟨rfl, rfl⟩ := trodVars_none hV
  have k0 := h0
  have lt0 : ∀ x ∈ p0, x.block < W.heap.size := by obtain ⟨m, hm⟩ := k0; exact DataW.trod_lt m _ _ _ hm
  obtain ⟨z0, w0⟩ := ints_of (hval 0 90 v0 rfl rfl) h0
  clear hA0
  refine (walk v0 z0 W w0 hT).mono fun e W' ⟨he, bel⟩ => ?_
  subst he
  exact ⟨_, rfl, _, _, _, [], _, [], hW', trodAll_mk1 (shut_bool Tryd.underlying4 _), (trodAll_cons_mk (Below.trod laidOut (by kernel_rfl) (of_decide_eq_true (by kernel_rfl)) k0 bel lt0) trodAll_mk0), rfl, bel.frame _, fun h => by cases h⟩

def setTab (l : List Int) : Obj → Obj
  | .cells _ t frozen => .cells (l.map (Value.int .u32)).toArray t frozen
  | o => o
noncomputable def laidWorld (os : Os) : World :=
  { World.holding Tryd.prog os ⟨#[], #[], []⟩ with heap := ((World.holding Tryd.prog os ⟨#[], #[], []⟩).heap.modify 1 (setTab LO)).modify 0 (setTab HI) }
theorem laid_met (os : Os) : laidMet Tryd.prog Rows.chunkAreasRow.laid ((laidWorld os).forCall (fun _ _ => 0) ⟨#[], #[.slice none 0 0], []⟩).memory :=
  laidMet_of_run' 8 (by kernel_rfl) (by kernel_rfl)
theorem reads (os : Os) {H : Type} (enc : TypeId × Value → H) : ∃ places, DataW.whole enc Tryd.prog ((laidWorld os).forCall (fun _ _ => 0) ⟨#[], #[.slice none 0 0], []⟩).memory Tryd.f9.params.toList Rows.chunkAreasSpec.vars false #[Value.slice none 0 0].toList 8 = some ([.nil], [], places) :=
  ⟨[], by kernel_rfl⟩

set_option maxRecDepth 100000 in
theorem lifted (os : Os) (started : os.Started) (H : Type) (enc : TypeId × Value → H) (F : Stop.Interp) :
    ReturnsInHanded {} Tryd.checked os 9 .any ((OpenSpec.ofChange Rows.chunkAreasSpec).preRow enc Tryd.prog Tryd.f9 Rows.chunkAreasRow.domain false Rows.chunkAreasRow.laid) (((OpenSpec.ofChange Rows.chunkAreasSpec).at F).post enc Tryd.prog Tryd.f9 false true false false) := by
  obtain ⟨places, hx⟩ := reads os enc
  refine returnsInHanded_of_row (C := Tryd.checked) (s := OpenSpec.ofChange Rows.chunkAreasSpec) own started (by kernel_rfl) Tryd.func9
    (witness_row_at (enc := enc) (C := Tryd.checked) false (laidWorld os) #[.slice none 0 0] rfl (by kernel_rfl) (by kernel_rfl) (by kernel_rfl)
      (OpenSpec.preRow_of_cond 8 hx (by kernel_rfl) (fun k hk => by cases hk) (by kernel_rfl) (laid_met os))) ?_
  intro W base args ds gs before hval hW _ _ _ hL _ _
  exact contract H enc W base args ds gs before hval hW hL

theorem said : Rows.ChunkAreasSaid :=
  OpenClaim.holds_of_cond 9 Tryd.f9 rfl rfl rfl rfl rfl rfl rfl ⟨rfl, rfl, rfl, rfl, rfl⟩ rfl rfl rfl rfl rfl (by kernel_rfl) Tryd.func9 (by kernel_rfl)
    (of_decide_eq_true (by kernel_rfl)) (by unfold Func.isWrapper; first | (rw [if_pos (by decide +kernel)]; kernel_rfl) | (rw [if_neg (by decide +kernel)]; exact ⟨rfl, rfl⟩))
    (fun os started H enc _ F => by rw [OpenClaim.pre_eq_preRow]; exact lifted os started H enc F)

theorem plain (f : FuncId) (fn : Func) (hf : Tryd.pinned.checked.prog.funcNamed "orchard/orchardlaw07.ChunkAreas" = some f) (hfn : Tryd.pinned.checked.prog.funcs[f]? = some fn) :
    false = Tryd.pinned.checked.prog.looks [] ∧ ∀ (j : Nat) t, fn.params[j]? = some t → Tryd.pinned.checked.prog.wantsStandIn t = false := by
  obtain rfl : f = 9 := Option.some.inj ((show Tryd.prog.funcNamed "orchard/orchardlaw07.ChunkAreas" = some 9 by kernel_rfl).symm.trans hf) |>.symm
  obtain rfl : fn = Tryd.f9 := (Option.some.inj (Tryd.func9.symm.trans hfn)).symm
  refine ⟨by kernel_rfl, fun j t ht => ?_⟩
  rw [Tryd.params9] at ht
  have hm := Array.mem_of_getElem? ht
  simp at hm
  subst hm
  exact (show Tryd.prog.wantsStandIn 90 = false by kernel_rfl)

theorem card : Rows.ChunkAreasCardSaid :=
  Claim7.holds_tied_plain_at .later [] _ _ _ _ said (fun _ h => by cases h) (by kernel_rfl) (fun _ h => by cases h) chunkAreas_row_tie rfl ⟨rfl, rfl⟩ (by kernel_rfl) rfl plain (by kernel_rfl)
end Go.Proofs.YtiknfifiglooeaaDoor.chunkAreas
