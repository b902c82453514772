/- DevCrashes: behind each failure of power the device is as the model has it, whatever the size, the acts (at most 60 each, of at most 600 bytes) and the fates (at most 100 each): no condition on the input. -/
import Derived.Test.YtmfkbddfjfjfkaaQuad
import Derived.Test.YtmfkbddfjfjfkaaDevArgs
import Derived.Laws.BitsLemmas
namespace Go.Proofs.Ytmfkbddfjfjfkaa.devCrashes
open Go.ChangeShapes Go.WideShapes Go.ChangeAt Go.RowKit
open Go.ChangeMaps (open_string shut_string)
set_option linter.unusedVariables false
theorem i64_and15 (n : Int) : bits .and .i64 n 15 = n % 16 := by
  have h127 : (BitVec.ofInt 64 15).toNat = 2 ^ 4 - 1 := by decide
  have key : (BitVec.ofInt 64 n &&& BitVec.ofInt 64 15).toNat = (n % ((2 ^ 64 : Nat) : Int)).toNat % 2 ^ 4 := by
    rw [BitVec.toNat_and, BitVec.toNat_ofInt, h127, Nat.and_two_pow_sub_one_eq_mod]
  show IntKind.i64.wrap ((BitVec.ofInt 64 n &&& BitVec.ofInt 64 15).toNat : Nat) = n % 16
  rw [key, IntKind.wrap_i64]
  omega
set_option maxRecDepth 100000 in
set_option maxHeartbeats 8000000 in
theorem walkA (a0 : Int) (a1 a2 a3 a4 : Option Addr) (cap1 cap2 cap3 cap4 : Nat) (qs rs : List Ac) (zs ys : List Int) (w : World) (h1 : Acts w (.slice a1 qs.length cap1) qs) (h2 : Fts w (.slice a2 zs.length cap2) zs) (h3 : Acts w (.slice a3 rs.length cap3) rs) (h4 : Fts w (.slice a4 ys.length cap4) ys)
    (hf1 : fewB qs = true) (hf3 : fewB rs = true) (hl2 : zs.length ≤ 100) (hl4 : ys.length ≤ 100) :
    Calls Try.prog 4 #[.int .i64 a0, .slice a1 qs.length cap1, .slice a2 zs.length cap2, .slice a3 rs.length cap3, .slice a4 ys.length cap4] w fun e w' => e = .returned (.bool true) ∧ Below w.heap.size w w' := by
  have hand := i64_and15 a0
  obtain ⟨m, hm, hm2⟩ : ∃ m : Int, bits .and .i64 a0 15 = m ∧ 0 ≤ m ∧ m ≤ 15 := ⟨_, rfl, by rw [hand]; omega, by rw [hand]; omega⟩
  have hd2 : decide ((100 : Int) < (zs.length : Int)) = false := by simp; omega
  have hd4 : decide ((100 : Int) < (ys.length : Int)) = false := by simp; omega
  have hl60 : qs.length ≤ 60 := by
    unfold fewB at hf1
    rw [Bool.and_eq_true] at hf1
    exact of_decide_eq_true hf1.2
  have hl61 : rs.length ≤ 60 := by
    unfold fewB at hf3
    rw [Bool.and_eq_true] at hf3
    exact of_decide_eq_true hf3.2
  have HA := Lib.hid h1
  have HZ := Lib.hid h2
  have HC := Lib.hid h3
  have HY := Lib.hid h4
  have hfw1 := fun (W : World) (hW : Below w.heap.size w W) => few_any a1 cap1 qs W (h1.below hW)
  rw [hf1] at hfw1
  have hfw3 := fun (W : World) (hW : Below w.heap.size w W) => few_any a3 cap3 rs W (h3.below hW)
  rw [hf3] at hfw3
  have HF1 := Lib.hid hfw1
  have HF3 := Lib.hid hfw3
  clear hand h1 h2 h3 h4 hf1 hf3 hfw1 hfw3
  go_enter Try.func4, Try.ntmps4
  go_wp2_with (first
    | (go_at_call 8; refine (head_any _).mono ?_; rintro e w0 ⟨rfl, hb0⟩)
    | (go_at_call 9; first
        | ((with_reducible refine (HF1.out _ hb0).mono ?_); rintro e w1 ⟨rfl, hb1⟩; have hB1 := hb0.trans (hb1.mono hb0.size))
        | ((with_reducible refine (HF3.out _ hB1).mono ?_); rintro e w2 ⟨rfl, hb2⟩; have hB2 := hB1.trans (hb2.mono hB1.size))))
  clear hb0 hb1 hb2 hB1 hd2 hd4
  refine (new_any m w2).mono ?_
  rintro e w3 ⟨B, rfl, hd3, hb3⟩
  go_wp2_with fail
  refine (mnew_any m (by omega) w3).mono ?_
  rintro e w4 ⟨C, rfl, hm4, hb4⟩
  have hB4 := (hB2.trans (hb3.mono hB2.size)).trans (hb4.mono (hB2.trans (hb3.mono hB2.size)).size)
  have hduo : Duo w.heap.size w4 B (Dv.new m) C (Md.new m) := duo_new hB2.size hd3 hb4 hm4 hb3.size
  have hag : Agree (Dv.new m) (Md.new m) := agree_new m
  clear hd3 hb3 hm4 hb4 hB2
  go_wp2_with fail
  have hduol := hduo.row #[.slice a1 qs.length cap1, .slice a3 rs.length cap3]
  have hB5 : Below w.heap.size w (w4.alloc (.cells #[.slice a1 qs.length cap1, .slice a3 rs.length cap3] 22)) := hB4.alloc hB4.size _
  obtain ⟨mv, hmv⟩ : ∃ mv, mv = #[Value.slice a1 qs.length cap1, Value.slice a3 rs.length cap3] := ⟨_, rfl⟩
  have HMV := Lib.hid hmv
  rw [← hmv] at hduol hB5 ⊢
  generalize w4.alloc (.cells mv 22) = w5 at *
  generalize w4.heap.size = L at *
  clear hduo hB4 hmv hm
  have hz0 : (Md.new m).since.length = 0 := by simp [Md.new, Md.newN]
  go_loopw [48, 11, 12] (fun i d x wr => ∃ (k : Int) (B C : Nat) (D : Dv) (M : Md), 0 ≤ k ∧ k ≤ 2 ∧ i = .int .i64 k ∧ d = .pointer (some ⟨B, 0, none⟩) ∧ x = .pointer (some ⟨C, 0, none⟩) ∧ Duol w.heap.size wr B D C M L mv ∧ Agree D M ∧ M.since.length = 0 ∧ Below w.heap.size w wr) (fun i _ _ _ => (2 - intOf i).toNat)
  case atStart => exact ⟨0, B, C, _, _, by omega, by omega, rfl, rfl, rfl, hduol, hag, hz0, hB5⟩
  case round =>
    obtain ⟨k, B1, C1, D0, M0, hk, hk2, rfl, rfl, rfl, hD0, hG0, hS0, hB0⟩ := hrel
    clear hduol hag hz0 hB5
    have hrow := hD0.row
    rw [HMV.out] at hrow
    rcases (by omega : k = 0 ∨ k = 1 ∨ k = 2) with rfl | rfl | rfl
    · have hcell : wr.cell? ⟨L, 0, none⟩ = some (.slice a1 qs.length cap1) := hrow.cell rfl
      clear hrow
      go_wp2_with fail
      clear hcell
      go_loopw [55] (fun i wr => ∃ (j : Nat) (D : Dv) (M : Md), j ≤ qs.length ∧ i = .int .i64 j ∧ Duol w.heap.size wr B1 D C1 M L mv ∧ Agree D M ∧ M.since.length ≤ j ∧ Below w.heap.size w wr) (fun i _ => qs.length - (intOf i).toNat)
      case atStart => exact ⟨0, D0, M0, Nat.zero_le _, rfl, hD0, hG0, by omega, hB0⟩
      case round =>
        obtain ⟨j, D, M, hj, rfl, hD, hG, hms, hB⟩ := hrel
        clear hD0 hG0 hS0 hB0
        by_cases hlt : j < qs.length
        · obtain ⟨hok, g, off, rfl, h0, h1, h2, h3, h4⟩ := act_at HA.out hB hlt
          have hpl := agree_play hG hD.duo.fitsM (qs.getD j ac0)
          have hms1 := do_since M (qs.getD j ac0)
          have hwr := hG.writes
          generalize qs.getD j ac0 = a at *
          have hT := hD.quad a
          have hb0 : Below wr.heap.size wr (wr.alloc (.cells #[.int .i64 a.k, .int .i64 a.block, .int .i64 a.n, .string a.data, .int .u8 a.bits] 30)) := (Below.refl _ _).alloc (Nat.le_refl _) _
          have hsz : w.heap.size ≤ (wr.alloc (.cells #[.int .i64 a.k, .int .i64 a.block, .int .i64 a.n, .string a.data, .int .u8 a.bits] 30)).heap.size := Nat.le_trans hB.size hb0.size
          have HB0 := Lib.hid (hB.trans (hb0.mono hB.size))
          have hwd : D.writes ≤ 1073741824 := by omega
          have hwm : M.since.length < 1073741824 := by omega
          have HPL := Lib.hid (fun (x : World) (M' : Md) (hn : w.heap.size ≤ x.heap.size) (h : Quad w.heap.size x B1 D C1 M' L mv wr.heap.size a) => by have := h.play hn a hok hwd; rwa [hpl.1] at this)
          have HDO := Lib.hid (fun (x : World) (D' : Dv) (hn : w.heap.size ≤ x.heap.size) (h : Quad w.heap.size x B1 D' C1 M L mv wr.heap.size a) => h.do hn a hok hwm)
          have HAG := Lib.hid hpl.2
          have HMS := Lib.hid (by omega : (M.do a).2.since.length ≤ j + 1)
          clear hpl hG hD hwd hwm hok hms hms1 hwr
          generalize (D.play a).2 = D1 at *
          generalize M.do a = r1 at *
          obtain ⟨r, M1⟩ := r1
          simp only at HPL HDO HAG HMS
          go_wp2_with fail
          generalize wr.alloc (.cells #[.int .i64 a.k, .int .i64 a.block, .int .i64 a.n, .string a.data, .int .u8 a.bits] 30) = w6 at *
          have hT' : Quad w.heap.size w6.drew B1 D C1 M L mv wr.heap.size a := hT.below (below_drewN w6 1)
          have hsz' : w.heap.size ≤ w6.drew.heap.size := hsz
          obtain ⟨y0, y1, y2, y3, y4⟩ := hT.box
          clear h0 h1 h2 h3 h4 hb0 hT
          go_region_with (first
            | (go_at_call 12; first
                | ((with_reducible refine (HPL.out _ _ hSd hTd).mono ?_); rintro e w8 ⟨rfl, hTT, hb8⟩; have hBB := hBd.trans hb8; have hSS := Nat.le_trans hSd hb8.size)
                | ((with_reducible refine (HPL.out _ _ hsz' hT').mono ?_); rintro e w7 ⟨rfl, hTp, hb7⟩; obtain ⟨z0, z1, z2, z3, z4⟩ := hTp.box; have hBp := (Below.refl w.heap.size w6).drew.trans hb7; have hSp := Nat.le_trans hsz' hb7.size))
            | (go_at_call 13; first
                | ((with_reducible refine (HDO.out _ _ hSp hTp).mono ?_); rintro e w8 ⟨rfl, hTT, hb8⟩; have hBB := hBp.trans hb8; have hSS := Nat.le_trans hSp hb8.size)
                | ((with_reducible refine (HDO.out _ _ hsz' hT').mono ?_); rintro e w7 ⟨rfl, hTd, hb7⟩; obtain ⟨z0, z1, z2, z3, z4⟩ := hTd.box; have hBd := (Below.refl w.heap.size w6).drew.trans hb7; have hSd := Nat.le_trans hsz' hb7.size)))
          all_goals
            go_wp2_with fail
            go_roundw
            case rel => exact ⟨j + 1, D1, M1, by omega, by go_num, hTT.duol, HAG.out, HMS.out, HB0.out.trans hBB⟩
            case measure => simp [intOf]; omega
        · obtain rfl : j = qs.length := by omega
          clear hlt hj
          have hwr := hG.writes
          have hD2 := hD.below ((Below.refl wr.heap.size wr).alloc (Nat.le_refl _) (.cells #[.slice a2 zs.length cap2, .slice a4 ys.length cap4] 37))
          have hB2 := hB.alloc hB.size (.cells #[.slice a2 zs.length cap2, .slice a4 ys.length cap4] 37)
          have hfc : (wr.alloc (.cells #[.slice a2 zs.length cap2, .slice a4 ys.length cap4] 37)).cell? ⟨wr.heap.size, 0, none⟩ = some (.slice a2 zs.length cap2) := (Whole.new wr _ _).cell rfl
          have HCR := Lib.hid (hD2.duo.crash (.slice a2 zs.length cap2) zs (by omega) (HZ.out.below hB2))
          have hA2 := hG.crash hD2.duo.fitsD zs
          have hrow2 := hD2.row
          have hMC := fun (x : World) (hb : Below (wr.alloc (.cells #[.slice a2 zs.length cap2, .slice a4 ys.length cap4] 37)).heap.size (wr.alloc (.cells #[.slice a2 zs.length cap2, .slice a4 ys.length cap4] 37)) x) => (hD2.duo.below hb).mcrash (.slice a2 zs.length cap2) zs (HZ.out.below (hB2.trans (hb.mono hB2.size)))
          have HMC := Lib.hid hMC
          have hs2 : (M.crash zs).since.length = 0 := by rw [← hA2.writes]; rfl
          have hw2 : (D.crash zs).writes = 0 := rfl
          have HNIL := Lib.hid (fun (hf : (D.crash zs).Fits) => crash_nil D zs hf)
          clear hD hG hms hwr hB hMC hD2
          generalize D.crash zs = E at *
          generalize M.crash zs = N at *
          go_wp2_with fail
          refine HCR.out.mono ?_
          rintro e w7 ⟨B7, rfl, hd7, hb7⟩
          have hmc := HMC.out _ hb7
          clear hfc
          go_wp2_with fail
          refine hmc.mono ?_
          rintro e w8 ⟨C7, rfl, hm8, hb8⟩
          have hD8 : Duol w.heap.size w8 B7 E C7 N L mv := duol_new hB2.size hrow2 hd7 hb7 hm8 hb8
          have hB8 := (hB2.trans (hb7.mono hB2.size)).trans (hb8.mono (hB2.trans (hb7.mono hB2.size)).size)
          have hnil := HNIL.out hD8.duo.fitsD
          clear hmc hd7 hb7 hm8 hb8 hrow2 hB2
          go_wp2_with fail
          refine (hD8.duo.same hA2 (by omega)).mono ?_
          rintro e w9 ⟨rfl, hb9⟩
          have hD9 := hD8.below hb9
          have hB9 := hB8.trans (hb9.mono hB8.size)
          have hcr := hD9.duo.crash (.slice none 0 0) [] (by omega) (Fts.nil _)
          rw [hnil] at hcr
          clear hD8 hB8 hb9 hnil
          go_wp2_with fail
          refine hcr.mono ?_
          rintro e w10 ⟨B10, rfl, hd10, hb10⟩
          have hD10 := hD9.below hb10
          have hB10 := hB9.trans (hb10.mono hB9.size)
          have hsm := (hD9.duo.swap hB9.size hb10 hd10).same hA2 (by omega)
          clear hD9 hB9 hd10 hb10 hcr
          go_wp2_with fail
          refine hsm.mono ?_
          rintro e w11 ⟨rfl, hb11⟩
          clear hsm
          go_wp2_with fail
          go_roundw
          case rel => exact ⟨1, B7, C7, E, N, by omega, by omega, by go_num, rfl, rfl, hD10.below hb11, hA2, hs2, hB10.trans (hb11.mono hB10.size)⟩
          case measure => simp [intOf]
    · have hcell : wr.cell? ⟨L, 1, none⟩ = some (.slice a3 rs.length cap3) := hrow.cell rfl
      clear hrow
      go_wp2_with fail
      clear hcell
      go_loopw [55] (fun i wr => ∃ (j : Nat) (D : Dv) (M : Md), j ≤ rs.length ∧ i = .int .i64 j ∧ Duol w.heap.size wr B1 D C1 M L mv ∧ Agree D M ∧ M.since.length ≤ j ∧ Below w.heap.size w wr) (fun i _ => rs.length - (intOf i).toNat)
      case atStart => exact ⟨0, D0, M0, Nat.zero_le _, rfl, hD0, hG0, by omega, hB0⟩
      case round =>
        obtain ⟨j, D, M, hj, rfl, hD, hG, hms, hB⟩ := hrel
        clear hD0 hG0 hS0 hB0
        by_cases hlt : j < rs.length
        · obtain ⟨hok, g, off, rfl, h0, h1, h2, h3, h4⟩ := act_at HC.out hB hlt
          have hpl := agree_play hG hD.duo.fitsM (rs.getD j ac0)
          have hms1 := do_since M (rs.getD j ac0)
          have hwr := hG.writes
          generalize rs.getD j ac0 = a at *
          have hT := hD.quad a
          have hb0 : Below wr.heap.size wr (wr.alloc (.cells #[.int .i64 a.k, .int .i64 a.block, .int .i64 a.n, .string a.data, .int .u8 a.bits] 30)) := (Below.refl _ _).alloc (Nat.le_refl _) _
          have hsz : w.heap.size ≤ (wr.alloc (.cells #[.int .i64 a.k, .int .i64 a.block, .int .i64 a.n, .string a.data, .int .u8 a.bits] 30)).heap.size := Nat.le_trans hB.size hb0.size
          have HB0 := Lib.hid (hB.trans (hb0.mono hB.size))
          have hwd : D.writes ≤ 1073741824 := by omega
          have hwm : M.since.length < 1073741824 := by omega
          have HPL := Lib.hid (fun (x : World) (M' : Md) (hn : w.heap.size ≤ x.heap.size) (h : Quad w.heap.size x B1 D C1 M' L mv wr.heap.size a) => by have := h.play hn a hok hwd; rwa [hpl.1] at this)
          have HDO := Lib.hid (fun (x : World) (D' : Dv) (hn : w.heap.size ≤ x.heap.size) (h : Quad w.heap.size x B1 D' C1 M L mv wr.heap.size a) => h.do hn a hok hwm)
          have HAG := Lib.hid hpl.2
          have HMS := Lib.hid (by omega : (M.do a).2.since.length ≤ j + 1)
          clear hpl hG hD hwd hwm hok hms hms1 hwr
          generalize (D.play a).2 = D1 at *
          generalize M.do a = r1 at *
          obtain ⟨r, M1⟩ := r1
          simp only at HPL HDO HAG HMS
          go_wp2_with fail
          generalize wr.alloc (.cells #[.int .i64 a.k, .int .i64 a.block, .int .i64 a.n, .string a.data, .int .u8 a.bits] 30) = w6 at *
          have hT' : Quad w.heap.size w6.drew B1 D C1 M L mv wr.heap.size a := hT.below (below_drewN w6 1)
          have hsz' : w.heap.size ≤ w6.drew.heap.size := hsz
          obtain ⟨y0, y1, y2, y3, y4⟩ := hT.box
          clear h0 h1 h2 h3 h4 hb0 hT
          go_region_with (first
            | (go_at_call 12; first
                | ((with_reducible refine (HPL.out _ _ hSd hTd).mono ?_); rintro e w8 ⟨rfl, hTT, hb8⟩; have hBB := hBd.trans hb8; have hSS := Nat.le_trans hSd hb8.size)
                | ((with_reducible refine (HPL.out _ _ hsz' hT').mono ?_); rintro e w7 ⟨rfl, hTp, hb7⟩; obtain ⟨z0, z1, z2, z3, z4⟩ := hTp.box; have hBp := (Below.refl w.heap.size w6).drew.trans hb7; have hSp := Nat.le_trans hsz' hb7.size))
            | (go_at_call 13; first
                | ((with_reducible refine (HDO.out _ _ hSp hTp).mono ?_); rintro e w8 ⟨rfl, hTT, hb8⟩; have hBB := hBp.trans hb8; have hSS := Nat.le_trans hSp hb8.size)
                | ((with_reducible refine (HDO.out _ _ hsz' hT').mono ?_); rintro e w7 ⟨rfl, hTd, hb7⟩; obtain ⟨z0, z1, z2, z3, z4⟩ := hTd.box; have hBd := (Below.refl w.heap.size w6).drew.trans hb7; have hSd := Nat.le_trans hsz' hb7.size)))
          all_goals
            go_wp2_with fail
            go_roundw
            case rel => exact ⟨j + 1, D1, M1, by omega, by go_num, hTT.duol, HAG.out, HMS.out, HB0.out.trans hBB⟩
            case measure => simp [intOf]; omega
        · obtain rfl : j = rs.length := by omega
          clear hlt hj
          have hwr := hG.writes
          have hD2 := hD.below ((Below.refl wr.heap.size wr).alloc (Nat.le_refl _) (.cells #[.slice a2 zs.length cap2, .slice a4 ys.length cap4] 37))
          have hB2 := hB.alloc hB.size (.cells #[.slice a2 zs.length cap2, .slice a4 ys.length cap4] 37)
          have hfc : (wr.alloc (.cells #[.slice a2 zs.length cap2, .slice a4 ys.length cap4] 37)).cell? ⟨wr.heap.size, 1, none⟩ = some (.slice a4 ys.length cap4) := (Whole.new wr _ _).cell rfl
          have HCR := Lib.hid (hD2.duo.crash (.slice a4 ys.length cap4) ys (by omega) (HY.out.below hB2))
          have hA2 := hG.crash hD2.duo.fitsD ys
          have hrow2 := hD2.row
          have hMC := fun (x : World) (hb : Below (wr.alloc (.cells #[.slice a2 zs.length cap2, .slice a4 ys.length cap4] 37)).heap.size (wr.alloc (.cells #[.slice a2 zs.length cap2, .slice a4 ys.length cap4] 37)) x) => (hD2.duo.below hb).mcrash (.slice a4 ys.length cap4) ys (HY.out.below (hB2.trans (hb.mono hB2.size)))
          have HMC := Lib.hid hMC
          have hs2 : (M.crash ys).since.length = 0 := by rw [← hA2.writes]; rfl
          have hw2 : (D.crash ys).writes = 0 := rfl
          have HNIL := Lib.hid (fun (hf : (D.crash ys).Fits) => crash_nil D ys hf)
          clear hD hG hms hwr hB hMC hD2
          generalize D.crash ys = E at *
          generalize M.crash ys = N at *
          go_wp2_with fail
          refine HCR.out.mono ?_
          rintro e w7 ⟨B7, rfl, hd7, hb7⟩
          have hmc := HMC.out _ hb7
          clear hfc
          go_wp2_with fail
          refine hmc.mono ?_
          rintro e w8 ⟨C7, rfl, hm8, hb8⟩
          have hD8 : Duol w.heap.size w8 B7 E C7 N L mv := duol_new hB2.size hrow2 hd7 hb7 hm8 hb8
          have hB8 := (hB2.trans (hb7.mono hB2.size)).trans (hb8.mono (hB2.trans (hb7.mono hB2.size)).size)
          have hnil := HNIL.out hD8.duo.fitsD
          clear hmc hd7 hb7 hm8 hb8 hrow2 hB2
          go_wp2_with fail
          refine (hD8.duo.same hA2 (by omega)).mono ?_
          rintro e w9 ⟨rfl, hb9⟩
          have hD9 := hD8.below hb9
          have hB9 := hB8.trans (hb9.mono hB8.size)
          have hcr := hD9.duo.crash (.slice none 0 0) [] (by omega) (Fts.nil _)
          rw [hnil] at hcr
          clear hD8 hB8 hb9 hnil
          go_wp2_with fail
          refine hcr.mono ?_
          rintro e w10 ⟨B10, rfl, hd10, hb10⟩
          have hD10 := hD9.below hb10
          have hB10 := hB9.trans (hb10.mono hB9.size)
          have hsm := (hD9.duo.swap hB9.size hb10 hd10).same hA2 (by omega)
          clear hD9 hB9 hd10 hb10 hcr
          go_wp2_with fail
          refine hsm.mono ?_
          rintro e w11 ⟨rfl, hb11⟩
          clear hsm
          go_wp2_with fail
          go_roundw
          case rel => exact ⟨2, B7, C7, E, N, by omega, by omega, by go_num, rfl, rfl, hD10.below hb11, hA2, hs2, hB10.trans (hb11.mono hB10.size)⟩
          case measure => simp [intOf]
    · clear hrow hD0 hG0
      go_wp2_with fail
      go_ret
      exact ⟨rfl, hB0⟩

set_option maxRecDepth 100000 in
set_option maxHeartbeats 1000000 in
theorem walk (a0 : Int) (v1 : Value) (qs : List Ac) (v2 : Value) (zs : List Int) (v3 : Value) (rs : List Ac) (v4 : Value) (ys : List Int) (w : World) (_ : (Lit.int .i64 a0).wf = true) (h1 : Acts w v1 qs) (h2 : Fts w v2 zs) (h3 : Acts w v3 rs) (h4 : Fts w v4 ys) :
    Calls Try.prog 4 #[.int .i64 a0, v1, v2, v3, v4] w fun e w' => e = .returned (.bool true) ∧ Below w.heap.size w w' := by
  obtain ⟨a1, cap1, e1, hm1, q1, _⟩ := id h1
  obtain ⟨a2, cap2, e2, hm2, q2⟩ := id h2
  obtain ⟨a3, cap3, e3, hm3, q3, _⟩ := id h3
  obtain ⟨a4, cap4, e4, hm4, q4⟩ := id h4
  subst e1 e2 e3 e4
  clear q1 q2 q3 q4
  unfold maxLen at hm1 hm2 hm3 hm4
  have HF1 := Lib.hid (fun (W : World) (hW : Below w.heap.size w W) => few_any a1 cap1 qs W (h1.below hW))
  have HF3 := Lib.hid (fun (W : World) (hW : Below w.heap.size w W) => few_any a3 cap3 rs W (h3.below hW))
  by_cases hf1 : fewB qs = true
  rotate_left
  · rw [show fewB qs = false by simpa using hf1] at HF1
    clear h1 h2 h3 h4 hf1 HF3
    go_enter Try.func4, Try.ntmps4
    go_wp2_with (first
      | (go_at_call 8; refine (head_any _).mono ?_; rintro e w0 ⟨rfl, hb0⟩)
      | (go_at_call 9; first
          | ((with_reducible refine (HF1.out _ hb0).mono ?_); rintro e w1 ⟨rfl, hb1⟩; have hB1 := hb0.trans (hb1.mono hb0.size))
          | ((with_reducible refine (HF3.out _ hB1).mono ?_); rintro e w2 ⟨rfl, hb2⟩; have hB2 := hB1.trans (hb2.mono hB1.size))))
    go_ret
    exact ⟨rfl, hB1⟩
  by_cases hf3 : fewB rs = true
  rotate_left
  · rw [hf1] at HF1
    rw [show fewB rs = false by simpa using hf3] at HF3
    clear h1 h2 h3 h4 hf1 hf3
    go_enter Try.func4, Try.ntmps4
    go_wp2_with (first
      | (go_at_call 8; refine (head_any _).mono ?_; rintro e w0 ⟨rfl, hb0⟩)
      | (go_at_call 9; first
          | ((with_reducible refine (HF1.out _ hb0).mono ?_); rintro e w1 ⟨rfl, hb1⟩; have hB1 := hb0.trans (hb1.mono hb0.size))
          | ((with_reducible refine (HF3.out _ hB1).mono ?_); rintro e w2 ⟨rfl, hb2⟩; have hB2 := hB1.trans (hb2.mono hB1.size))))
    go_ret
    exact ⟨rfl, hB2⟩
  by_cases hl2 : zs.length ≤ 100
  rotate_left
  · rw [hf1] at HF1
    rw [hf3] at HF3
    have hd2 : decide ((100 : Int) < (zs.length : Int)) = true := by simp; omega
    clear h1 h2 h3 h4 hf1 hf3
    go_enter Try.func4, Try.ntmps4
    go_wp2_with (first
      | (go_at_call 8; refine (head_any _).mono ?_; rintro e w0 ⟨rfl, hb0⟩)
      | (go_at_call 9; first
          | ((with_reducible refine (HF1.out _ hb0).mono ?_); rintro e w1 ⟨rfl, hb1⟩; have hB1 := hb0.trans (hb1.mono hb0.size))
          | ((with_reducible refine (HF3.out _ hB1).mono ?_); rintro e w2 ⟨rfl, hb2⟩; have hB2 := hB1.trans (hb2.mono hB1.size))))
    go_ret
    exact ⟨rfl, hB2⟩
  by_cases hl4 : ys.length ≤ 100
  rotate_left
  · rw [hf1] at HF1
    rw [hf3] at HF3
    have hd2 : decide ((100 : Int) < (zs.length : Int)) = false := by simp; omega
    have hd4 : decide ((100 : Int) < (ys.length : Int)) = true := by simp; omega
    clear h1 h2 h3 h4 hf1 hf3
    go_enter Try.func4, Try.ntmps4
    go_wp2_with (first
      | (go_at_call 8; refine (head_any _).mono ?_; rintro e w0 ⟨rfl, hb0⟩)
      | (go_at_call 9; first
          | ((with_reducible refine (HF1.out _ hb0).mono ?_); rintro e w1 ⟨rfl, hb1⟩; have hB1 := hb0.trans (hb1.mono hb0.size))
          | ((with_reducible refine (HF3.out _ hB1).mono ?_); rintro e w2 ⟨rfl, hb2⟩; have hB2 := hB1.trans (hb2.mono hB1.size))))
    go_ret
    exact ⟨rfl, hB2⟩
  exact walkA a0 a1 a2 a3 a4 cap1 cap2 cap3 cap4 qs rs zs ys w h1 h2 h3 h4 hf1 hf3 hl2 hl4

theorem own : ownKnob Try.prog.godebug = none := by kernel_rfl
theorem laidOut : laidOutB Try.prog = true := by kernel_rfl

set_option maxRecDepth 100000 in
theorem lifted (os : Os) (started : os.Started) (H : Type) (enc : TypeId × Value → H) :
    ReturnsInHanded {} Try.checked os 4 .any (Rows.devCrashesSpec.pre6 enc Try.prog Try.f4 Rows.devCrashesRow.domain false) (Rows.devCrashesSpec.post enc Try.prog Try.f4 false true false false) := by
  refine returnsInHanded_of_change (C := Try.checked) own started (by kernel_rfl) Try.func4
    (ChangeSpec.witness6 (enc := enc) (C := Try.checked) false ⟨#[], #[.int .i64 0, .slice none 0 0, .slice none 0 0, .slice none 0 0, .slice none 0 0], []⟩ 8 (by kernel_rfl) (by kernel_rfl) (by kernel_rfl) (by kernel_rfl)) ?_
  intro W base args ds gs before hval0 hW hcnd _
  have hval : ∀ (j : Nat) t v, Try.f4.params[j]? = some t → args[j]? = some v → Value.okWide Try.prog W .any base t v := hval0
  have hW' := hW
  obtain ⟨p, q, hA0, hV, rfl, hfz, hnd⟩ := hW
  have hA : DataW.TrodAll enc Try.prog W 0 (fun _ => true) true Try.f4.params.toList args.toList ds p := hA0
  rw [Try.params4] at hA hval
  obtain ⟨v0, vs0, d0, ds0, p0, q0, hargs, rfl, rfl, h0, r0⟩ := trodAll_cons hA
  obtain ⟨v1, vs1, d1, ds1, p1, q1, rfl, rfl, rfl, h1, r1⟩ := trodAll_cons r0
  obtain ⟨v2, vs2, d2, ds2, p2, q2, rfl, rfl, rfl, h2, r2⟩ := trodAll_cons r1
  obtain ⟨v3, vs3, d3, ds3, p3, q3, rfl, rfl, rfl, h3, r3⟩ := trodAll_cons r2
  obtain ⟨v4, vs4, d4, ds4, p4, q4, rfl, rfl, rfl, h4, r4⟩ := trodAll_cons r3
  obtain ⟨rfl, rfl, rfl⟩ := trodAll_nil r4
  obtain rfl : args = #[v0, v1, v2, v3, v4] := by cases args; simp_all
  obtain ⟨rfl, rfl⟩ := trodVars_none hV
  obtain ⟨a0, rfl, rfl, rfl, w0⟩ := open_int Try.underlying3 (hval 0 3 v0 rfl rfl) h0
  have k1 := h1
  have lt1 : ∀ x ∈ p1, x.block < W.heap.size := by obtain ⟨m, hm⟩ := k1; exact DataW.trod_lt m _ _ _ hm
  obtain ⟨z1, w1⟩ := acts_of (hval 1 22 v1 rfl rfl) h1
  have k2 := h2
  have lt2 : ∀ x ∈ p2, x.block < W.heap.size := by obtain ⟨m, hm⟩ := k2; exact DataW.trod_lt m _ _ _ hm
  obtain ⟨z2, w2⟩ := fts_of (hval 2 37 v2 rfl rfl) h2
  have k3 := h3
  have lt3 : ∀ x ∈ p3, x.block < W.heap.size := by obtain ⟨m, hm⟩ := k3; exact DataW.trod_lt m _ _ _ hm
  obtain ⟨z3, w3⟩ := acts_of (hval 3 22 v3 rfl rfl) h3
  have k4 := h4
  have lt4 : ∀ x ∈ p4, x.block < W.heap.size := by obtain ⟨m, hm⟩ := k4; exact DataW.trod_lt m _ _ _ hm
  obtain ⟨z4, w4⟩ := fts_of (hval 4 37 v4 rfl rfl) h4
  clear hA0 hval0
  refine (walk a0 v1 z1 v2 z2 v3 z3 v4 z4 W w0 w1 w2 w3 w4).mono fun e W' ⟨he, bel⟩ => ?_
  subst he
  exact ⟨_, rfl, _, _, _, [], _, [], hW', trodAll_mk1 (shut_bool Try.underlying4 _), (trodAll_cons_mk (shut_int Try.underlying3 w0) (trodAll_cons_mk (Below.trod laidOut (by kernel_rfl) (of_decide_eq_true (by kernel_rfl)) k1 bel lt1) (trodAll_cons_mk (Below.trod laidOut (by kernel_rfl) (of_decide_eq_true (by kernel_rfl)) k2 bel lt2) (trodAll_cons_mk (Below.trod laidOut (by kernel_rfl) (of_decide_eq_true (by kernel_rfl)) k3 bel lt3) (trodAll_cons_mk (Below.trod laidOut (by kernel_rfl) (of_decide_eq_true (by kernel_rfl)) k4 bel lt4) trodAll_mk0))))), rfl, bel.frame _, fun h => by cases h⟩

theorem over : Rows.devCrashesRow.holds Try.pinned (OpenSpec.ofChange Rows.devCrashesSpec) :=
  OpenClaim.holds_of_wide 4 Try.f4 rfl rfl rfl rfl rfl rfl rfl ⟨rfl, rfl, rfl, rfl, rfl⟩ rfl rfl rfl rfl rfl (by kernel_rfl) Try.func4 (by kernel_rfl)
    (of_decide_eq_true (by kernel_rfl)) (by unfold Func.isWrapper; first | (rw [if_pos (by decide +kernel)]; kernel_rfl) | (rw [if_neg (by decide +kernel)]; exact ⟨rfl, rfl⟩))
    (fun os started H enc _ => lifted os started H enc)

theorem proved : Rows.DevCrashesSaid := over

end Go.Proofs.Ytmfkbddfjfjfkaa.devCrashes
