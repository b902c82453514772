/- WatchMany: forty watches. No condition on the input. -/
import Derived.Test.YthchpkbojinkeaaDoorWManyM
namespace Go.Proofs.YthchpkbojinkeaaDoor
open Go.RowKit Go.Maps Go.Shelf
set_option linter.unusedVariables false
set_option maxRecDepth 100000
theorem i64_and15 (n : Int) : bits .and .i64 n 15 = n % 16 := by
  have h127 : (BitVec.ofInt 64 15).toNat = 2 ^ 4 - 1 := by decide
  have key : (BitVec.ofInt 64 n &&& BitVec.ofInt 64 15).toNat = (n % ((2 ^ 64 : Nat) : Int)).toNat % 2 ^ 4 := by
    rw [BitVec.toNat_and, BitVec.toNat_ofInt, h127, Nat.and_two_pow_sub_one_eq_mod]
  show IntKind.i64.wrap ((BitVec.ofInt 64 n &&& BitVec.ofInt 64 15).toNat : Nat) = n % 16
  rw [key, IntKind.wrap_i64]
  omega
set_option maxHeartbeats 8000000 in
theorem many_walk (a0 : Int) (w : World) :
    Calls Tryd.prog 8 #[.int .i64 a0] w fun e w' => e = .returned (.bool true) ∧ Below w.heap.size w w' := by
  have HH := Lib.hid (head_any w)
  obtain ⟨m, hm16, hm⟩ : ∃ m : Nat, m < 16 ∧ bits .and .i64 a0 15 = (m : Int) := ⟨(a0 % 16).toNat, by omega, by rw [i64_and15]; omega⟩
  obtain ⟨N, hN, hN1, hN2⟩ : ∃ N : Nat, IntKind.i64.wrap (30 + (m : Int)) = (N : Int) ∧ 30 ≤ N ∧ N ≤ 45 := ⟨30 + m, by rw [IntWalk.i64_in _ (by omega)]; omega, by omega, by omega⟩
  clear hm16
  go_enter Tryd.func8, Tryd.ntmps8
  go_wp2_with fail
  refine HH.out.mono ?_
  rintro e w1 ⟨rfl, b1⟩
  have HN := Lib.hid (bnew_any w1)
  go_wp2_with fail
  refine HN.out.mono ?_
  rintro e w2 ⟨rfl, hk2, b2⟩
  have hbase : w.heap.size ≤ w1.heap.size := b1.size
  have B2 : Hid (Below w.heap.size w w2) := Lib.hid (b1.trans (b2.mono b1.size))
  obtain ⟨bb, hbb⟩ : ∃ bb, bb = w1.heap.size := ⟨_, rfl⟩
  rw [← hbb] at hk2 hbase ⊢
  have HK2 := Lib.hid hk2
  clear HN hm b1 b2 HH hN hk2 hbb
  go_wp2_with fail
  go_loopw [4, 5, 6] (fun iv _ _ wr => ∃ (j : Nat) (v' : Value), j ≤ N ∧ iv = .int .i64 ((j : Int) + 1) ∧ Hid (BkW wr bb bb v' (.slice none 0 0) (.map none) (lM (min j 40)) [] 0 0 (fun _ => none)) ∧ Hid (Below w.heap.size w wr)) (fun iv _ _ _ => N + 1 - (intOf iv).toNat)
  case atStart => exact ⟨0, _, by omega, rfl, HK2, B2⟩
  case round =>
    obtain ⟨j, v', hj, rfl, HT, bk⟩ := hrel
    clear HK2 B2
    by_cases hlt : j < N
    · have hlt2 : decide ((j : Int) + 1 ≤ (N : Int)) = true := by simp; omega
      have s1 : IntKind.i64.wrap ((j : Int) + 1 + 1) = (j : Int) + 1 + 1 := IntWalk.i64_in _ (by omega)
      obtain ⟨b, hb⟩ : ∃ b : Bool, b = decide ((j + 1) % 2 = 0) := ⟨_, rfl⟩
      have hb2 : (((j : Int) + 1) % 2 == 0) = b := by
        rw [hb, Bool.eq_iff_iff, beq_iff_eq, decide_eq_true_iff]
        omega
      have hv : waV (wM (j + 1)) = .agg #[.int .i64 ((j : Int) + 1), .string ⟨#[47]⟩, .bool false, .bool b] := by rw [hb]; rfl
      clear hb
      go_upto_region 9 with fail
      have NA := heap_alloc_new wr (.cells #[.int .i64 ((j : Int) + 1), .string ⟨#[47]⟩, .bool false, .bool b] 45)
      have bA := (Below.refl wr.heap.size wr).alloc (Nat.le_refl _) (.cells #[.int .i64 ((j : Int) + 1), .string ⟨#[47]⟩, .bool false, .bool b] 45)
      obtain ⟨w3, hw3⟩ : ∃ w3, w3 = wr.alloc (.cells #[.int .i64 ((j : Int) + 1), .string ⟨#[47]⟩, .bool false, .bool b] 45) := ⟨_, rfl⟩
      obtain ⟨xb, hxb⟩ : ∃ xb, xb = wr.heap.size := ⟨_, rfl⟩
      rw [← hw3] at NA bA ⊢
      have ha := add_any bb bb v' _ _ (lM (min j 40)) [] 0 0 _ (wM (j + 1)) w3 (HT.out.below bA) (monoM _ _) (by rw [lM_len]; omega)
      have hne1 : v'.ownBlock ≠ some xb := fun e => by
        obtain ⟨c1, q, _⟩ := row_own HT.out.ws e
        have := (Array.getElem?_eq_some_iff.1 q).1
        omega
      have hne2 : xb ≠ bb := by have := HT.out.lt; omega
      rw [← hxb] at NA ⊢
      have B3 : Hid (Below w.heap.size w w3) := Lib.hid (bk.out.trans (bA.mono bk.out.size))
      have hxl : xb < w3.heap.size := (Array.getElem?_eq_some_iff.1 NA).1
      have q0 : w3.cell? ⟨xb, 0, none⟩ = some (.int .i64 ((j : Int) + 1)) := by simp [World.cell?, NA]
      have q1 : w3.cell? ⟨xb, 1, none⟩ = some (.string ⟨#[47]⟩) := by simp [World.cell?, NA]
      have q2 : w3.cell? ⟨xb, 2, none⟩ = some (.bool false) := by simp [World.cell?, NA]
      have q3 : w3.cell? ⟨xb, 3, none⟩ = some (.bool b) := by simp [World.cell?, NA]
      have HNA := Lib.hid NA
      rw [hv] at ha
      clear hw3 hxb bA NA hb2
      by_cases h40 : j < 40
      · have d1 : decide ((40 : Int) < (j : Int) + 1) = false := by simp; omega
        have d2 : decide ((j : Int) + 1 ≤ 40) = true := by simp; omega
        have d3 : min ((j : Int) + 1) 40 = (j : Int) + 1 := by omega
        have d4 : ((j + 1 : Nat) : Int) = (j : Int) + 1 := by omega
        rw [show min j 40 = j by omega, (addM_new h40).1, (addM_new h40).2] at ha
        have HA := Lib.hid ha
        clear ha HT bk
        go_wp2_with fail
        refine HA.out.mono ?_
        rintro e w4 ⟨rfl, v4, hk4, b4, hkp⟩
        have N4 := (hkp xb hxl hne1 hne2).trans HNA.out
        have r0 : w4.cell? ⟨xb, 0, none⟩ = some (.int .i64 ((j : Int) + 1)) := by simp [World.cell?, N4]
        have r1 : w4.cell? ⟨xb, 1, none⟩ = some (.string ⟨#[47]⟩) := by simp [World.cell?, N4]
        have r2 : w4.cell? ⟨xb, 2, none⟩ = some (.bool false) := by simp [World.cell?, N4]
        have r3 : w4.cell? ⟨xb, 3, none⟩ = some (.bool b) := by simp [World.cell?, N4]
        have hxl4 : xb < w4.heap.size := (Array.getElem?_eq_some_iff.1 N4).1
        have ha2 := add_any bb bb v4 _ _ (lM (j + 1)) [] 0 0 _ (wM (j + 1)) w4 hk4 (monoM _ _) (by rw [lM_len]; omega)
        rw [(addM_old (m := j + 1) (n := j + 1) (by omega) (by omega) (by omega)).1, (addM_old (m := j + 1) (n := j + 1) (by omega) (by omega) (by omega)).2, hv] at ha2
        have HA2 := Lib.hid ha2
        have B4 : Hid (Below w.heap.size w w4) := Lib.hid (B3.out.trans (b4.mono hbase))
        clear HA ha2 hk4 b4 hkp N4 q0 q1 q2 q3 hxl
        go_wp2_with fail
        refine HA2.out.mono ?_
        rintro e w5 ⟨rfl, v5, hk5, b5, _⟩
        have HW := Lib.hid (watches_any bb bb v5 _ _ (lM (j + 1)) [] 0 0 _ w5 hk5 (by rw [lM_len]; omega))
        have HK5 := Lib.hid hk5
        have B5 : Hid (Below w.heap.size w w5) := Lib.hid (B4.out.trans (b5.mono hbase))
        clear HA2 hk5 b5 r0 r1 r2 r3 hxl4
        go_wp2_with fail
        refine HW.out.mono ?_
        rintro e w6 ⟨v6, rfl, hr6, b6⟩
        obtain ⟨a6, c6, rfl, _, _⟩ := waV_form hr6
        rw [lM_len]
        have HK6 := Lib.hid (HK5.out.below b6)
        have B6 : Hid (Below w.heap.size w w6) := Lib.hid (B5.out.trans (b6.mono B5.out.size))
        clear hr6 b6 HW HK5 B5
        go_wp2_with fail
        go_roundw
        case rel => exact ⟨j + 1, v5, by omega, by go_num, (by rw [show min (j + 1) 40 = j + 1 by omega]; exact HK6), B6⟩
        case measure => simp [intOf]; omega
      · have d1 : decide ((40 : Int) < (j : Int) + 1) = true := by simp; omega
        have d2 : decide ((j : Int) + 1 ≤ 40) = false := by simp; omega
        have d3 : min ((j : Int) + 1) 40 = 40 := by omega
        rw [show min j 40 = 40 by omega, (addM_full (n := j + 1) (by omega) (by omega)).1, (addM_full (n := j + 1) (by omega) (by omega)).2] at ha
        have HA := Lib.hid ha
        clear ha HT bk
        go_wp2_with fail
        refine HA.out.mono ?_
        rintro e w4 ⟨rfl, v4, hk4, b4, _⟩
        have HW := Lib.hid (watches_any bb bb v4 _ _ (lM 40) [] 0 0 _ w4 hk4 (by rw [lM_len]; omega))
        have HK4 := Lib.hid hk4
        have B4 : Hid (Below w.heap.size w w4) := Lib.hid (B3.out.trans (b4.mono hbase))
        clear HA hk4 b4 q0 q1 q2 q3 hxl
        go_wp2_with fail
        refine HW.out.mono ?_
        rintro e w6 ⟨v6, rfl, hr6, b6⟩
        obtain ⟨a6, c6, rfl, _, _⟩ := waV_form hr6
        rw [lM_len]
        have HK6 := Lib.hid (HK4.out.below b6)
        have B6 : Hid (Below w.heap.size w w6) := Lib.hid (B4.out.trans (b6.mono B4.out.size))
        clear hr6 b6 HW HK4 B4
        go_wp2_with fail
        go_roundw
        case rel => exact ⟨j + 1, v4, by omega, by go_num, (by rw [show min (j + 1) 40 = 40 by omega]; exact HK6), B6⟩
        case measure => simp [intOf]; omega
    · have hlt2 : decide ((j : Int) + 1 ≤ (N : Int)) = false := by simp; omega
      obtain rfl : j = N := by omega
      obtain ⟨M, hM⟩ : ∃ M, M = min j 40 := ⟨_, rfl⟩
      rw [← hM] at HT
      have hf := fire_any bb bb v' _ _ (lM M) [] 0 0 _ ⟨#[47]⟩ (bs []) (bs []) 3 1 wr HT.out up_r (fun x hx => sesM (by omega) x hx) (by rw [lM_len]; omega) (by decide) (by decide)
      have hfl := fireS_len (s := ⟨#[47]⟩) (up := bs []) (what := 3) (when := 1) (lM M) ([], fun _ => none)
      rw [lM_len] at hfl
      have hfw := fireW_M (bs []) M
      have hev := fun z h1 h2 => evM (bs []) 1 M z (fun _ => none) h1 h2
      obtain ⟨Ws3, hWs3⟩ : ∃ X, X = fireW ⟨#[47]⟩ (bs []) 3 (lM M) := ⟨_, rfl⟩
      obtain ⟨S3, hS3⟩ : ∃ X, X = fireS ⟨#[47]⟩ (bs []) 3 1 (lM M) ([], fun _ => none) := ⟨_, rfl⟩
      rw [← hWs3] at hf hfw
      rw [← hS3] at hf hfl hev
      clear hWs3 hS3
      have HF := Lib.hid hf
      have HEV := Lib.hid hev
      have hfl2 : S3.1.length ≤ 40 := by simp at hfl; omega
      have hmin : min (j : Int) 40 = (M : Int) := by omega
      have hM40 : M ≤ 40 := by omega
      have hHM := Lib.hid hM
      clear hf hev hfl hM
      go_wp2_with fail
      refine HF.out.mono ?_
      rintro e w3 ⟨rfl, v3, e3, m3, k3, c3, hk3, _, b3⟩
      have HK3 := Lib.hid hk3
      have B3 : Hid (Below w.heap.size w w3) := Lib.hid (bk.out.trans (b3.mono hbase))
      clear HF hk3 b3 HT bk
      go_wp2_with fail
      go_loopw [7, 8] (fun lv iv wr => ∃ i : Nat, i ≤ M ∧ lv = .int .i64 (((i + 1) / 2 : Nat) : Int) ∧ iv = .int .i64 ((i : Int) + 1) ∧ Hid (BkW wr bb bb v3 e3 m3 Ws3 S3.1 k3 c3 S3.2) ∧ Hid (Below w.heap.size w wr)) (fun _ iv _ => M + 1 - (intOf iv).toNat)
      case atStart => exact ⟨0, by omega, rfl, rfl, HK3, B3⟩
      case round =>
        obtain ⟨i, hi, rfl, rfl, HT, bk⟩ := hrel
        clear HK3 B3
        by_cases hlt : i < M
        · have hlt2 : decide ((i : Int) + 1 ≤ (M : Int)) = true := by simp; omega
          have s1 : IntKind.i64.wrap ((i : Int) + 1 + 1) = (i : Int) + 1 + 1 := IntWalk.i64_in _ (by omega)
          have hl := HEV.out (i + 1) (by omega) (by omega)
          rw [show ((i + 1 : Nat) : Int) = (i : Int) + 1 by omega] at hl
          have HE := Lib.hid (events_any bb bb v3 e3 m3 Ws3 S3.1 k3 c3 S3.2 ((i : Int) + 1) wr HT.out (by omega))
          have HL := Lib.hid hl
          clear hl
          by_cases hp : (i + 1) % 2 = 1
          · have p1 : (((i : Int) + 1) % 2 == 1) = true := by rw [beq_iff_eq]; omega
            have p2 : IntKind.i64.wrap ((((i + 1) / 2 : Nat) : Int) + 1) = (((i + 1) / 2 : Nat) : Int) + 1 := IntWalk.i64_in _ (by omega)
            have HP : Hid ((((i + 1) / 2 : Nat) : Int) + 1 = (((i + 1 + 1) / 2 : Nat) : Int)) := Lib.hid (by omega)
            clear hp
            go_wp2_with fail
            refine HE.out.mono ?_
            rintro e w4 ⟨v4, rfl, hr4, b4⟩
            obtain ⟨a4, c4, rfl, _, _⟩ := evV_form hr4
            rw [HL.out]
            have HK4 := Lib.hid (HT.out.below b4)
            have B4 : Hid (Below w.heap.size w w4) := Lib.hid (bk.out.trans (b4.mono bk.out.size))
            clear hr4 b4 HE HL HT bk
            go_wp2_with fail
            go_roundw
            case rel => exact ⟨i + 1, by omega, by rw [← HP.out]; try go_num, by go_num, HK4, B4⟩
            case measure => simp [intOf]; omega
          · have p1 : (((i : Int) + 1) % 2 == 1) = false := by rw [beq_eq_false_iff_ne]; omega
            have HP : Hid ((((i + 1) / 2 : Nat) : Int) = (((i + 1 + 1) / 2 : Nat) : Int)) := Lib.hid (by omega)
            clear hp
            go_wp2_with fail
            refine HE.out.mono ?_
            rintro e w4 ⟨v4, rfl, hr4, b4⟩
            obtain ⟨a4, c4, rfl, _, _⟩ := evV_form hr4
            rw [HL.out]
            have HK4 := Lib.hid (HT.out.below b4)
            have B4 : Hid (Below w.heap.size w w4) := Lib.hid (bk.out.trans (b4.mono bk.out.size))
            clear hr4 b4 HE HL HT bk
            go_wp2_with fail
            go_roundw
            case rel => exact ⟨i + 1, by omega, by rw [← HP.out]; try go_num, by go_num, HK4, B4⟩
            case measure => simp [intOf]; omega
        · have hlt2 : decide ((i : Int) + 1 ≤ (M : Int)) = false := by simp; omega
          obtain rfl : i = M := by omega
          have hWl : Ws3.length ≤ 100 := by omega
          have HW := Lib.hid (watches_any bb bb v3 e3 m3 Ws3 S3.1 k3 c3 S3.2 wr HT.out (by omega))
          have HWL := Lib.hid hfw
          clear hfw
          go_wp2_with fail
          refine HW.out.mono ?_
          rintro e w4 ⟨v4, rfl, hr4, b4⟩
          obtain ⟨a4, c4, rfl, _, _⟩ := waV_form hr4
          rw [HWL.out]
          have hk4 := HT.out.below b4
          have B4 : Hid (Below w.heap.size w w4) := Lib.hid (bk.out.trans (b4.mono bk.out.size))
          have hb1 := add_bad bb bb v3 e3 m3 Ws3 S3.1 k3 c3 S3.2 ⟨0, ⟨#[47]⟩, false, false⟩ w4 hk4 (by decide)
          have HB1 := Lib.hid hb1
          have HK4 := Lib.hid hk4
          clear hr4 b4 HW HT bk hb1 hk4
          go_wp2_with fail
          refine HB1.out.mono ?_
          rintro e w5 ⟨rfl, b5⟩
          have hb2 := add_path bb bb v3 e3 m3 Ws3 S3.1 k3 c3 S3.2 ⟨1, ⟨#[120]⟩, false, false⟩ w5 (HK4.out.below b5) (by decide) (by decide)
          have e10 : checkE (⟨1, ⟨#[120]⟩, false, false⟩ : Wa).path.data.toList = 10 := by decide
          rw [e10] at hb2
          have HB2 := Lib.hid hb2
          have B5 : Hid (Below w.heap.size w w5) := Lib.hid (B4.out.trans (b5.mono B4.out.size))
          clear hb2 e10 b5 HB1
          go_wp2_with fail
          refine HB2.out.mono ?_
          rintro e w6 ⟨rfl, b6⟩
          have B6 : Hid (Below w.heap.size w w6) := Lib.hid (B5.out.trans (b6.mono B5.out.size))
          clear b6 HB2
          go_wp2_with fail
          go_ret
          exact ⟨rfl, B6.out⟩
end Go.Proofs.YthchpkbojinkeaaDoor
