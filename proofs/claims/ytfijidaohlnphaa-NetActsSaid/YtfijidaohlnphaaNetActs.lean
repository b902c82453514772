/- NetActs: whatever is sent, taken and passed, what is due first comes first. No condition on the input. -/
import Derived.Test.YtfijidaohlnphaaNActS
import Derived.Test.YtfijidaohlnphaaRows
import Derived.ProofKit
import Derived.OpenShut
import Derived.ShutString
import Derived.ChangeOld
import Derived.Deep.DeepHandedRow
import Derived.Lib.LaidTab
import Derived.Stop.LaidErr
import Derived.Lay
namespace Go.Proofs.Ytfijidaohlnphaa.netActs
open Go.ChangeShapes Go.WideShapes Go.ChangeAt Go.RowKit
open Go.ChangeMaps (open_string shut_string)
set_option linter.unusedVariables false
set_option maxRecDepth 100000
set_option maxHeartbeats 16000000 in
theorem walk (v : Value) (n : Nat) (W : World) (hz : ActsR W v n) : Calls Try.prog 3 #[v] W fun e w' => e = .returned (.bool true) ∧ Below W.heap.size W w' := by
  have HH := Lib.hid (head_any W)
  obtain ⟨a, cc, rfl, hz⟩ := hz
  have HZ := Lib.hid hz
  clear hz
  go_enter Try.func3, Try.ntmps3
  go_wp2_with fail
  refine HH.out.mono ?_
  rintro e w1 ⟨rfl, b1⟩
  by_cases hbig : 200 < n
  · have q1 : decide ((200 : Int) < (n : Int)) = true := by simp; omega
    have HB1 := Lib.hid b1
    clear HH b1 hbig
    go_wp2_with fail
    go_ret
    exact ⟨rfl, HB1.out⟩
  · have q1 : decide ((200 : Int) < (n : Int)) = false := by simp; omega
    have HL : Hid (n ≤ 200) := Lib.hid (by omega)
    have N1 := NetX.new (base := w1.heap.size) (heap_alloc_new w1 (.cells #[.int .i64 0, .int .i64 0, .slice none 0 0] 28)) (Nat.le_refl _)
    have bA := ((Below.refl w1.heap.size w1).alloc (Nat.le_refl _) (.cells #[.int .i64 0, .int .i64 0, .slice none 0 0] 28)).alloc (by simp) (.cells #[] 43)
    have N2 := N1.below ((Below.refl _ (w1.alloc (.cells #[.int .i64 0, .int .i64 0, .slice none 0 0] 28))).alloc (Nat.le_refl _) (.cells #[] 43))
    have O2 : IRow ((w1.alloc (.cells #[.int .i64 0, .int .i64 0, .slice none 0 0] 28)).alloc (.cells #[] 43)) w1.heap.size (.slice (some ⟨w1.heap.size + 1, 0, none⟩) 0 0) [] := by
      have := World.ownsRow_made (base := w1.heap.size) (e := 43) (size := 2) (w1.alloc (.cells #[.int .i64 0, .int .i64 0, .slice none 0 0] 28)) #[] 0 (by simp) (Nat.zero_le _) rfl
      rwa [show (w1.alloc (.cells #[.int .i64 0, .int .i64 0, .slice none 0 0] 28)).heap.size = w1.heap.size + 1 by simp] at this
    have HST0 : Hid (ActS W ((w1.alloc (.cells #[.int .i64 0, .int .i64 0, .slice none 0 0] 28)).alloc (.cells #[] 43)) w1.heap.size 0 0 0 [] (.slice (some ⟨w1.heap.size + 1, 0, none⟩) 0 0)) := Lib.hid ⟨Nat.le_refl _, Nat.le_refl _, by decide, N2, O2, b1.trans (bA.mono b1.size)⟩
    have HS1 := Lib.hid b1.size
    clear N1 bA N2 O2 b1 HH hbig
    go_wp2_with fail
    obtain ⟨nb, hnb⟩ : ∃ nb, nb = w1.heap.size := ⟨_, rfl⟩
    rw [← hnb] at HST0 HS1 ⊢
    have HNB := Lib.hid hnb
    clear hnb
    go_loopw [4, 5, 26] (fun wv nv iv wr => ∃ (i now : Nat) (F : List Fl) (sent : Int), nv = .int .i64 (now : Int) ∧ iv = .int .i64 i ∧ i ≤ n ∧ Hid (ActS W wr nb i now sent F wv)) (fun _ _ iv _ => n - (intOf iv).toNat)
    case atStart => exact ⟨0, 0, [], 0, rfl, rfl, Nat.zero_le _, HST0⟩
    case round =>
      obtain ⟨i, now, F, sent, rfl, rfl, hin, HR⟩ := hrel
      clear HST0
      by_cases hlt : i < n
      · have hlt2 : decide ((i : Int) < (n : Int)) = true := by simp; omega
        have HN200 : Hid (i < 200) := Lib.hid (by have := HL.out; omega)
        obtain ⟨g0, off, rfl, hg0, ak, ad, hak, had, hc0, hc1⟩ := HZ.out i hlt
        have c0 := (HR.out.bel.cell (p := ⟨g0, off + i * 2, none⟩) hg0).trans hc0
        have c1 := (HR.out.bel.cell (p := ⟨g0, off + i * 2 + 1, none⟩) hg0).trans hc1
        obtain ⟨wa, wc, hwv, hwc, hwf⟩ := HR.out.row.form
        rw [List.length_map] at hwv hwc hwf
        subst hwv
        have HROW := Lib.hid HR.out.row
        have HWF := Lib.hid hwf
        have HWC := Lib.hid hwc
        obtain ⟨WA, hst, hcell, hbA⟩ := new_act wr ak ad
        have HST := Lib.hid hst
        have HAB := Lib.hid (And.intro hcell hbA)
        have NA := HR.out.net.below hbA
        obtain ⟨ca0, ca1⟩ := two_cells hcell
        have e26 : wrap64 ((i : Int) + 1) = (i : Int) + 1 := IntWalk.wrap64_in _ (by have := HN200.out; omega)
        have HIR := Lib.hid (And.intro hak had)
        clear hg0 hak had hc0 hc1 hwc hwf hst hcell hbA
        have hi0 : (0 : Int) ≤ (i : Int) := by omega
        have hi1 : (i : Int) < (n : Int) := by omega
        have hk6 := kind6_lt ak
        have hcases : kind6 ak = 0 ∨ kind6 ak = 1 ∨ kind6 ak = 2 ∨ kind6 ak = 3 ∨ kind6 ak = 4 ∨ kind6 ak = 5 := by omega
        clear hk6
        rcases hcases with hku | hku | hku | hku | hku | hku
        · have hk : wrap64 ((IntKind.u64.wrap ak).tmod 6) = 0 := by rw [kind6_form, hku]; rfl
          clear hku
          by_cases hdc : ad < 0
          · have hd1 : ad < 0 := hdc
            obtain ⟨D, hD⟩ : ∃ D : Int, D = (now : Int) := ⟨_, rfl⟩
            have eD : wrap64 (now : Int) = (now : Int) := IntWalk.wrap64_in _ (by have := HR.out.nw; have := HN200.out; omega)
            have HDD : Hid (D = (now : Int) + min (max ad 0) 1048576) := Lib.hid (by rw [hD]; omega)
            have HDN := Lib.hid hD
            clear hD
            obtain ⟨W3, hW3, N3, M3, b3⟩ := one_new NA i
            have HSD := Lib.hid (N3.send1 (by have := HR.out.fl; have := HN200.out; omega) ad M3 (by have := HR.out.nw; have := HN200.out; omega) (by have := HR.out.st; have := HN200.out; omega))
            unfold mgA mgI at hW3
            simp only at hW3
            have HW3 := Lib.hid hW3
            have HB3 := Lib.hid b3
            clear hW3 N3 M3 b3 NA
            go_wp2_with (first | (refine wpList_store_run HST.out rfl rfl rfl rfl ?_))
            rw [← HW3.out]
            refine HSD.out.mono ?_
            rintro e w4 ⟨rfl, f, hf, N4, b4, k4⟩
            have hbw3 : wr.heap.size ≤ WA.heap.size := HAB.out.2.size
            have hab4 : w4.heap[wr.heap.size]? = some (.cells #[.int .i64 ak, .int .i64 ad] 31 (0, 0)) := by
              have h1 := (HB3.out.block _ (lt_of_block HAB.out.1)).trans HAB.out.1
              exact (k4 _ _ _ _ h1 (by decide) (by decide)).trans h1
            have ca4 := (two_cells hab4).2
            have hbel4 : Below W.heap.size W w4 := ((HR.out.bel.trans (HAB.out.2.mono HR.out.bel.size)).trans (HB3.out.mono (HR.out.bel.trans (HAB.out.2.mono HR.out.bel.size)).size)).trans (b4.mono HS1.out)
            have R4 : IRow w4 nb (.slice wa F.length wc) (F.map keyF) := ((HROW.out.below HAB.out.2).below HB3.out).keepT k4
            have NI : w4.heap.size ≤ (w4.alloc (.cells #[.int .i64 (now : Int), .int .i64 i] 43)).heap.size := by simp
            have bI := (Below.refl w4.heap.size w4).alloc (Nat.le_refl _) (.cells #[.int .i64 (now : Int), .int .i64 i] 43)
            have hnI := heap_alloc_new w4 (.cells #[.int .i64 (now : Int), .int .i64 i] 43)
            obtain ⟨W5, hW5⟩ : ∃ W5, W5 = w4.alloc (.cells #[.int .i64 (now : Int), .int .i64 i] 43) := ⟨_, rfl⟩
            rw [← hW5] at bI hnI
            obtain ⟨v6, w6, hrun, R6, g6⟩ := (R4.below bI).push (by rw [List.length_map]; have := HR.out.fl; have := HN200.out; omega) (by have := N4.nb_lt; have := bI.size; omega) ((now : Int), (i : Int)) hnI 1
            have HRUN := Lib.hid hrun
            have HW5 := Lib.hid hW5
            have HNX : Hid (NetX w6 nb nb now (sent + 1) (F ++ [f])) := Lib.hid ((N4.below bI).other g6 (fun q hq => by obtain ⟨_, cs, hcs⟩ := (R4.below bI).block q hq; exact ⟨cs, _, _, hcs, by decide, by decide, by decide⟩))
            have hkey : (F ++ [f]).map keyF = F.map keyF ++ [((now : Int), (i : Int))] := by
              rw [List.map_append]
              have : keyF f = ((now : Int), (i : Int)) := by unfold keyF; rw [hf.due, hf.ix, ← HDD.out]; rw [HDN.out]
              simp [this]
            have HRX : Hid (IRow w6 nb v6 ((F ++ [f]).map keyF)) := Lib.hid (by rw [hkey]; exact R6)
            have HBX : Hid (Below W.heap.size W w6) := Lib.hid ((hbel4.trans (bI.mono hbel4.size)).grown g6 (Nat.le_trans hbel4.size bI.size) (fun q hq => by
              obtain ⟨h1, _⟩ := (R4.below bI).block q hq
              have := HS1.out
              omega))
            clear HSD HW3 HB3 HST hf N4 b4 k4 hbw3 hab4 hbel4 R4 NI bI hnI hW5 hrun R6 g6 hkey
            go_upto_region 35 with (first | (at_builtin; rw [← HW5.out]; refine Lib.wpList_append_run _ rfl _ _ _ _ rfl _ _ rfl rfl _ _ HRUN.out ?_; go_frame))
            clear HRUN HW5 ca4
            have hnx := HNX.out
            have hrx := HRX.out
            obtain ⟨l, hl⟩ : ∃ l, l = (F ++ [f]).length := ⟨_, rfl⟩
            have HLN := Lib.hid hnx.nlen
            have HNW := Lib.hid hnx.nnow
            rw [← hl] at HLN
            obtain ⟨a8, c8, hv8, _⟩ := hrx.form
            rw [List.length_map, ← hl] at hv8
            have HV8 := Lib.hid hv8
            have HL8 := Lib.hid hl
            clear hl hnx hrx
            obtain rfl := HV8.out
            go_wp2_with fail
            refine HLN.out.mono ?_
            rintro e w20 ⟨rfl, rfl⟩
            go_wp2_with fail
            refine HNW.out.mono ?_
            rintro e w21 ⟨rfl, rfl⟩
            clear HLN HNW
            go_wp2_with fail
            go_roundw
            case rel => exact ⟨i + 1, now, F ++ [f], sent + 1, rfl, by rw [e26]; rfl, hlt, Lib.hid ⟨by have := HR.out.nw; omega, by rw [List.length_append]; have := HR.out.fl; show F.length + 1 ≤ _; omega, by have := HR.out.st; push_cast; omega, HNX.out, HRX.out, HBX.out⟩⟩
            case measure =>
              show n - (intOf (.int .i64 (wrap64 ((i : Int) + 1)))).toNat < n - (intOf (.int .i64 (i : Int))).toNat
              rw [e26]
              simp [intOf]; omega
          · by_cases hdm : ad ≤ 1048576
            · have hd1 : ¬ ad < 0 := hdc
              have hd2 : ad ≤ 1048576 := hdm
              have hd3 : ¬ (1048576 : Int) < ad := by omega
              obtain ⟨D, hD⟩ : ∃ D : Int, D = (now : Int) + ad := ⟨_, rfl⟩
              have eD : wrap64 ((now : Int) + ad) = D := by rw [IntWalk.wrap64_in _ (by have := HR.out.nw; have := HN200.out; omega), hD]
              have HDD : Hid (D = (now : Int) + min (max ad 0) 1048576) := Lib.hid (by rw [hD]; omega)
              clear hD
              obtain ⟨W3, hW3, N3, M3, b3⟩ := one_new NA i
              have HSD := Lib.hid (N3.send1 (by have := HR.out.fl; have := HN200.out; omega) ad M3 (by have := HR.out.nw; have := HN200.out; omega) (by have := HR.out.st; have := HN200.out; omega))
              unfold mgA mgI at hW3
              simp only at hW3
              have HW3 := Lib.hid hW3
              have HB3 := Lib.hid b3
              clear hW3 N3 M3 b3 NA
              go_wp2_with (first | (refine wpList_store_run HST.out rfl rfl rfl rfl ?_))
              rw [← HW3.out]
              refine HSD.out.mono ?_
              rintro e w4 ⟨rfl, f, hf, N4, b4, k4⟩
              have hbw3 : wr.heap.size ≤ WA.heap.size := HAB.out.2.size
              have hab4 : w4.heap[wr.heap.size]? = some (.cells #[.int .i64 ak, .int .i64 ad] 31 (0, 0)) := by
                have h1 := (HB3.out.block _ (lt_of_block HAB.out.1)).trans HAB.out.1
                exact (k4 _ _ _ _ h1 (by decide) (by decide)).trans h1
              have ca4 := (two_cells hab4).2
              have hbel4 : Below W.heap.size W w4 := ((HR.out.bel.trans (HAB.out.2.mono HR.out.bel.size)).trans (HB3.out.mono (HR.out.bel.trans (HAB.out.2.mono HR.out.bel.size)).size)).trans (b4.mono HS1.out)
              have R4 : IRow w4 nb (.slice wa F.length wc) (F.map keyF) := ((HROW.out.below HAB.out.2).below HB3.out).keepT k4
              have NI : w4.heap.size ≤ (w4.alloc (.cells #[.int .i64 D, .int .i64 i] 43)).heap.size := by simp
              have bI := (Below.refl w4.heap.size w4).alloc (Nat.le_refl _) (.cells #[.int .i64 D, .int .i64 i] 43)
              have hnI := heap_alloc_new w4 (.cells #[.int .i64 D, .int .i64 i] 43)
              obtain ⟨W5, hW5⟩ : ∃ W5, W5 = w4.alloc (.cells #[.int .i64 D, .int .i64 i] 43) := ⟨_, rfl⟩
              rw [← hW5] at bI hnI
              obtain ⟨v6, w6, hrun, R6, g6⟩ := (R4.below bI).push (by rw [List.length_map]; have := HR.out.fl; have := HN200.out; omega) (by have := N4.nb_lt; have := bI.size; omega) (D, (i : Int)) hnI 1
              have HRUN := Lib.hid hrun
              have HW5 := Lib.hid hW5
              have HNX : Hid (NetX w6 nb nb now (sent + 1) (F ++ [f])) := Lib.hid ((N4.below bI).other g6 (fun q hq => by obtain ⟨_, cs, hcs⟩ := (R4.below bI).block q hq; exact ⟨cs, _, _, hcs, by decide, by decide, by decide⟩))
              have hkey : (F ++ [f]).map keyF = F.map keyF ++ [(D, (i : Int))] := by
                rw [List.map_append]
                have : keyF f = (D, (i : Int)) := by unfold keyF; rw [hf.due, hf.ix, ← HDD.out]
                simp [this]
              have HRX : Hid (IRow w6 nb v6 ((F ++ [f]).map keyF)) := Lib.hid (by rw [hkey]; exact R6)
              have HBX : Hid (Below W.heap.size W w6) := Lib.hid ((hbel4.trans (bI.mono hbel4.size)).grown g6 (Nat.le_trans hbel4.size bI.size) (fun q hq => by
                obtain ⟨h1, _⟩ := (R4.below bI).block q hq
                have := HS1.out
                omega))
              clear HSD HW3 HB3 HST hf N4 b4 k4 hbw3 hab4 hbel4 R4 NI bI hnI hW5 hrun R6 g6 hkey
              go_upto_region 35 with (first | (at_builtin; rw [← HW5.out]; refine Lib.wpList_append_run _ rfl _ _ _ _ rfl _ _ rfl rfl _ _ HRUN.out ?_; go_frame))
              clear HRUN HW5 ca4
              have hnx := HNX.out
              have hrx := HRX.out
              obtain ⟨l, hl⟩ : ∃ l, l = (F ++ [f]).length := ⟨_, rfl⟩
              have HLN := Lib.hid hnx.nlen
              have HNW := Lib.hid hnx.nnow
              rw [← hl] at HLN
              obtain ⟨a8, c8, hv8, _⟩ := hrx.form
              rw [List.length_map, ← hl] at hv8
              have HV8 := Lib.hid hv8
              have HL8 := Lib.hid hl
              clear hl hnx hrx
              obtain rfl := HV8.out
              go_wp2_with fail
              refine HLN.out.mono ?_
              rintro e w20 ⟨rfl, rfl⟩
              go_wp2_with fail
              refine HNW.out.mono ?_
              rintro e w21 ⟨rfl, rfl⟩
              clear HLN HNW
              go_wp2_with fail
              go_roundw
              case rel => exact ⟨i + 1, now, F ++ [f], sent + 1, rfl, by rw [e26]; rfl, hlt, Lib.hid ⟨by have := HR.out.nw; omega, by rw [List.length_append]; have := HR.out.fl; show F.length + 1 ≤ _; omega, by have := HR.out.st; push_cast; omega, HNX.out, HRX.out, HBX.out⟩⟩
              case measure =>
                show n - (intOf (.int .i64 (wrap64 ((i : Int) + 1)))).toNat < n - (intOf (.int .i64 (i : Int))).toNat
                rw [e26]
                simp [intOf]; omega
            · have hd1 : ¬ ad < 0 := hdc
              have hd2 : ¬ ad ≤ 1048576 := hdm
              have hd3 : (1048576 : Int) < ad := by omega
              obtain ⟨D, hD⟩ : ∃ D : Int, D = (now : Int) + 1048576 := ⟨_, rfl⟩
              have eD : wrap64 ((now : Int) + 1048576) = D := by rw [IntWalk.wrap64_in _ (by have := HR.out.nw; have := HN200.out; omega), hD]
              have HDD : Hid (D = (now : Int) + min (max ad 0) 1048576) := Lib.hid (by rw [hD]; omega)
              clear hD
              obtain ⟨W3, hW3, N3, M3, b3⟩ := one_new NA i
              have HSD := Lib.hid (N3.send1 (by have := HR.out.fl; have := HN200.out; omega) ad M3 (by have := HR.out.nw; have := HN200.out; omega) (by have := HR.out.st; have := HN200.out; omega))
              unfold mgA mgI at hW3
              simp only at hW3
              have HW3 := Lib.hid hW3
              have HB3 := Lib.hid b3
              clear hW3 N3 M3 b3 NA
              go_wp2_with (first | (refine wpList_store_run HST.out rfl rfl rfl rfl ?_))
              rw [← HW3.out]
              refine HSD.out.mono ?_
              rintro e w4 ⟨rfl, f, hf, N4, b4, k4⟩
              have hbw3 : wr.heap.size ≤ WA.heap.size := HAB.out.2.size
              have hab4 : w4.heap[wr.heap.size]? = some (.cells #[.int .i64 ak, .int .i64 ad] 31 (0, 0)) := by
                have h1 := (HB3.out.block _ (lt_of_block HAB.out.1)).trans HAB.out.1
                exact (k4 _ _ _ _ h1 (by decide) (by decide)).trans h1
              have ca4 := (two_cells hab4).2
              have hbel4 : Below W.heap.size W w4 := ((HR.out.bel.trans (HAB.out.2.mono HR.out.bel.size)).trans (HB3.out.mono (HR.out.bel.trans (HAB.out.2.mono HR.out.bel.size)).size)).trans (b4.mono HS1.out)
              have R4 : IRow w4 nb (.slice wa F.length wc) (F.map keyF) := ((HROW.out.below HAB.out.2).below HB3.out).keepT k4
              have NI : w4.heap.size ≤ (w4.alloc (.cells #[.int .i64 D, .int .i64 i] 43)).heap.size := by simp
              have bI := (Below.refl w4.heap.size w4).alloc (Nat.le_refl _) (.cells #[.int .i64 D, .int .i64 i] 43)
              have hnI := heap_alloc_new w4 (.cells #[.int .i64 D, .int .i64 i] 43)
              obtain ⟨W5, hW5⟩ : ∃ W5, W5 = w4.alloc (.cells #[.int .i64 D, .int .i64 i] 43) := ⟨_, rfl⟩
              rw [← hW5] at bI hnI
              obtain ⟨v6, w6, hrun, R6, g6⟩ := (R4.below bI).push (by rw [List.length_map]; have := HR.out.fl; have := HN200.out; omega) (by have := N4.nb_lt; have := bI.size; omega) (D, (i : Int)) hnI 1
              have HRUN := Lib.hid hrun
              have HW5 := Lib.hid hW5
              have HNX : Hid (NetX w6 nb nb now (sent + 1) (F ++ [f])) := Lib.hid ((N4.below bI).other g6 (fun q hq => by obtain ⟨_, cs, hcs⟩ := (R4.below bI).block q hq; exact ⟨cs, _, _, hcs, by decide, by decide, by decide⟩))
              have hkey : (F ++ [f]).map keyF = F.map keyF ++ [(D, (i : Int))] := by
                rw [List.map_append]
                have : keyF f = (D, (i : Int)) := by unfold keyF; rw [hf.due, hf.ix, ← HDD.out]
                simp [this]
              have HRX : Hid (IRow w6 nb v6 ((F ++ [f]).map keyF)) := Lib.hid (by rw [hkey]; exact R6)
              have HBX : Hid (Below W.heap.size W w6) := Lib.hid ((hbel4.trans (bI.mono hbel4.size)).grown g6 (Nat.le_trans hbel4.size bI.size) (fun q hq => by
                obtain ⟨h1, _⟩ := (R4.below bI).block q hq
                have := HS1.out
                omega))
              clear HSD HW3 HB3 HST hf N4 b4 k4 hbw3 hab4 hbel4 R4 NI bI hnI hW5 hrun R6 g6 hkey
              go_upto_region 35 with (first | (at_builtin; rw [← HW5.out]; refine Lib.wpList_append_run _ rfl _ _ _ _ rfl _ _ rfl rfl _ _ HRUN.out ?_; go_frame))
              clear HRUN HW5 ca4
              have hnx := HNX.out
              have hrx := HRX.out
              obtain ⟨l, hl⟩ : ∃ l, l = (F ++ [f]).length := ⟨_, rfl⟩
              have HLN := Lib.hid hnx.nlen
              have HNW := Lib.hid hnx.nnow
              rw [← hl] at HLN
              obtain ⟨a8, c8, hv8, _⟩ := hrx.form
              rw [List.length_map, ← hl] at hv8
              have HV8 := Lib.hid hv8
              have HL8 := Lib.hid hl
              clear hl hnx hrx
              obtain rfl := HV8.out
              go_wp2_with fail
              refine HLN.out.mono ?_
              rintro e w20 ⟨rfl, rfl⟩
              go_wp2_with fail
              refine HNW.out.mono ?_
              rintro e w21 ⟨rfl, rfl⟩
              clear HLN HNW
              go_wp2_with fail
              go_roundw
              case rel => exact ⟨i + 1, now, F ++ [f], sent + 1, rfl, by rw [e26]; rfl, hlt, Lib.hid ⟨by have := HR.out.nw; omega, by rw [List.length_append]; have := HR.out.fl; show F.length + 1 ≤ _; omega, by have := HR.out.st; push_cast; omega, HNX.out, HRX.out, HBX.out⟩⟩
              case measure =>
                show n - (intOf (.int .i64 (wrap64 ((i : Int) + 1)))).toNat < n - (intOf (.int .i64 (i : Int))).toNat
                rw [e26]
                simp [intOf]; omega
        · have hk : wrap64 ((IntKind.u64.wrap ak).tmod 6) = 1 := by rw [kind6_form, hku]; rfl
          clear hku
          by_cases hdc : ad < 0
          · have hd1 : ad < 0 := hdc
            obtain ⟨D, hD⟩ : ∃ D : Int, D = (now : Int) := ⟨_, rfl⟩
            have eD : wrap64 (now : Int) = (now : Int) := IntWalk.wrap64_in _ (by have := HR.out.nw; have := HN200.out; omega)
            have HDD : Hid (D = (now : Int) + min (max ad 0) 1048576) := Lib.hid (by rw [hD]; omega)
            have HDN := Lib.hid hD
            clear hD
            obtain ⟨W3, hW3, N3, M3, b3⟩ := one_new NA i
            have HSD := Lib.hid (N3.send1 (by have := HR.out.fl; have := HN200.out; omega) ad M3 (by have := HR.out.nw; have := HN200.out; omega) (by have := HR.out.st; have := HN200.out; omega))
            unfold mgA mgI at hW3
            simp only at hW3
            have HW3 := Lib.hid hW3
            have HB3 := Lib.hid b3
            clear hW3 N3 M3 b3 NA
            go_wp2_with (first | (refine wpList_store_run HST.out rfl rfl rfl rfl ?_))
            rw [← HW3.out]
            refine HSD.out.mono ?_
            rintro e w4 ⟨rfl, f, hf, N4, b4, k4⟩
            have hbw3 : wr.heap.size ≤ WA.heap.size := HAB.out.2.size
            have hab4 : w4.heap[wr.heap.size]? = some (.cells #[.int .i64 ak, .int .i64 ad] 31 (0, 0)) := by
              have h1 := (HB3.out.block _ (lt_of_block HAB.out.1)).trans HAB.out.1
              exact (k4 _ _ _ _ h1 (by decide) (by decide)).trans h1
            have ca4 := (two_cells hab4).2
            have hbel4 : Below W.heap.size W w4 := ((HR.out.bel.trans (HAB.out.2.mono HR.out.bel.size)).trans (HB3.out.mono (HR.out.bel.trans (HAB.out.2.mono HR.out.bel.size)).size)).trans (b4.mono HS1.out)
            have R4 : IRow w4 nb (.slice wa F.length wc) (F.map keyF) := ((HROW.out.below HAB.out.2).below HB3.out).keepT k4
            have NI : w4.heap.size ≤ (w4.alloc (.cells #[.int .i64 (now : Int), .int .i64 i] 43)).heap.size := by simp
            have bI := (Below.refl w4.heap.size w4).alloc (Nat.le_refl _) (.cells #[.int .i64 (now : Int), .int .i64 i] 43)
            have hnI := heap_alloc_new w4 (.cells #[.int .i64 (now : Int), .int .i64 i] 43)
            obtain ⟨W5, hW5⟩ : ∃ W5, W5 = w4.alloc (.cells #[.int .i64 (now : Int), .int .i64 i] 43) := ⟨_, rfl⟩
            rw [← hW5] at bI hnI
            obtain ⟨v6, w6, hrun, R6, g6⟩ := (R4.below bI).push (by rw [List.length_map]; have := HR.out.fl; have := HN200.out; omega) (by have := N4.nb_lt; have := bI.size; omega) ((now : Int), (i : Int)) hnI 1
            have HRUN := Lib.hid hrun
            have HW5 := Lib.hid hW5
            have HNX : Hid (NetX w6 nb nb now (sent + 1) (F ++ [f])) := Lib.hid ((N4.below bI).other g6 (fun q hq => by obtain ⟨_, cs, hcs⟩ := (R4.below bI).block q hq; exact ⟨cs, _, _, hcs, by decide, by decide, by decide⟩))
            have hkey : (F ++ [f]).map keyF = F.map keyF ++ [((now : Int), (i : Int))] := by
              rw [List.map_append]
              have : keyF f = ((now : Int), (i : Int)) := by unfold keyF; rw [hf.due, hf.ix, ← HDD.out]; rw [HDN.out]
              simp [this]
            have HRX : Hid (IRow w6 nb v6 ((F ++ [f]).map keyF)) := Lib.hid (by rw [hkey]; exact R6)
            have HBX : Hid (Below W.heap.size W w6) := Lib.hid ((hbel4.trans (bI.mono hbel4.size)).grown g6 (Nat.le_trans hbel4.size bI.size) (fun q hq => by
              obtain ⟨h1, _⟩ := (R4.below bI).block q hq
              have := HS1.out
              omega))
            clear HSD HW3 HB3 HST hf N4 b4 k4 hbw3 hab4 hbel4 R4 NI bI hnI hW5 hrun R6 g6 hkey
            go_upto_region 35 with (first | (at_builtin; rw [← HW5.out]; refine Lib.wpList_append_run _ rfl _ _ _ _ rfl _ _ rfl rfl _ _ HRUN.out ?_; go_frame))
            clear HRUN HW5 ca4
            have hnx := HNX.out
            have hrx := HRX.out
            obtain ⟨l, hl⟩ : ∃ l, l = (F ++ [f]).length := ⟨_, rfl⟩
            have HLN := Lib.hid hnx.nlen
            have HNW := Lib.hid hnx.nnow
            rw [← hl] at HLN
            obtain ⟨a8, c8, hv8, _⟩ := hrx.form
            rw [List.length_map, ← hl] at hv8
            have HV8 := Lib.hid hv8
            have HL8 := Lib.hid hl
            clear hl hnx hrx
            obtain rfl := HV8.out
            go_wp2_with fail
            refine HLN.out.mono ?_
            rintro e w20 ⟨rfl, rfl⟩
            go_wp2_with fail
            refine HNW.out.mono ?_
            rintro e w21 ⟨rfl, rfl⟩
            clear HLN HNW
            go_wp2_with fail
            go_roundw
            case rel => exact ⟨i + 1, now, F ++ [f], sent + 1, rfl, by rw [e26]; rfl, hlt, Lib.hid ⟨by have := HR.out.nw; omega, by rw [List.length_append]; have := HR.out.fl; show F.length + 1 ≤ _; omega, by have := HR.out.st; push_cast; omega, HNX.out, HRX.out, HBX.out⟩⟩
            case measure =>
              show n - (intOf (.int .i64 (wrap64 ((i : Int) + 1)))).toNat < n - (intOf (.int .i64 (i : Int))).toNat
              rw [e26]
              simp [intOf]; omega
          · by_cases hdm : ad ≤ 1048576
            · have hd1 : ¬ ad < 0 := hdc
              have hd2 : ad ≤ 1048576 := hdm
              have hd3 : ¬ (1048576 : Int) < ad := by omega
              obtain ⟨D, hD⟩ : ∃ D : Int, D = (now : Int) + ad := ⟨_, rfl⟩
              have eD : wrap64 ((now : Int) + ad) = D := by rw [IntWalk.wrap64_in _ (by have := HR.out.nw; have := HN200.out; omega), hD]
              have HDD : Hid (D = (now : Int) + min (max ad 0) 1048576) := Lib.hid (by rw [hD]; omega)
              clear hD
              obtain ⟨W3, hW3, N3, M3, b3⟩ := one_new NA i
              have HSD := Lib.hid (N3.send1 (by have := HR.out.fl; have := HN200.out; omega) ad M3 (by have := HR.out.nw; have := HN200.out; omega) (by have := HR.out.st; have := HN200.out; omega))
              unfold mgA mgI at hW3
              simp only at hW3
              have HW3 := Lib.hid hW3
              have HB3 := Lib.hid b3
              clear hW3 N3 M3 b3 NA
              go_wp2_with (first | (refine wpList_store_run HST.out rfl rfl rfl rfl ?_))
              rw [← HW3.out]
              refine HSD.out.mono ?_
              rintro e w4 ⟨rfl, f, hf, N4, b4, k4⟩
              have hbw3 : wr.heap.size ≤ WA.heap.size := HAB.out.2.size
              have hab4 : w4.heap[wr.heap.size]? = some (.cells #[.int .i64 ak, .int .i64 ad] 31 (0, 0)) := by
                have h1 := (HB3.out.block _ (lt_of_block HAB.out.1)).trans HAB.out.1
                exact (k4 _ _ _ _ h1 (by decide) (by decide)).trans h1
              have ca4 := (two_cells hab4).2
              have hbel4 : Below W.heap.size W w4 := ((HR.out.bel.trans (HAB.out.2.mono HR.out.bel.size)).trans (HB3.out.mono (HR.out.bel.trans (HAB.out.2.mono HR.out.bel.size)).size)).trans (b4.mono HS1.out)
              have R4 : IRow w4 nb (.slice wa F.length wc) (F.map keyF) := ((HROW.out.below HAB.out.2).below HB3.out).keepT k4
              have NI : w4.heap.size ≤ (w4.alloc (.cells #[.int .i64 D, .int .i64 i] 43)).heap.size := by simp
              have bI := (Below.refl w4.heap.size w4).alloc (Nat.le_refl _) (.cells #[.int .i64 D, .int .i64 i] 43)
              have hnI := heap_alloc_new w4 (.cells #[.int .i64 D, .int .i64 i] 43)
              obtain ⟨W5, hW5⟩ : ∃ W5, W5 = w4.alloc (.cells #[.int .i64 D, .int .i64 i] 43) := ⟨_, rfl⟩
              rw [← hW5] at bI hnI
              obtain ⟨v6, w6, hrun, R6, g6⟩ := (R4.below bI).push (by rw [List.length_map]; have := HR.out.fl; have := HN200.out; omega) (by have := N4.nb_lt; have := bI.size; omega) (D, (i : Int)) hnI 1
              have HRUN := Lib.hid hrun
              have HW5 := Lib.hid hW5
              have HNX : Hid (NetX w6 nb nb now (sent + 1) (F ++ [f])) := Lib.hid ((N4.below bI).other g6 (fun q hq => by obtain ⟨_, cs, hcs⟩ := (R4.below bI).block q hq; exact ⟨cs, _, _, hcs, by decide, by decide, by decide⟩))
              have hkey : (F ++ [f]).map keyF = F.map keyF ++ [(D, (i : Int))] := by
                rw [List.map_append]
                have : keyF f = (D, (i : Int)) := by unfold keyF; rw [hf.due, hf.ix, ← HDD.out]
                simp [this]
              have HRX : Hid (IRow w6 nb v6 ((F ++ [f]).map keyF)) := Lib.hid (by rw [hkey]; exact R6)
              have HBX : Hid (Below W.heap.size W w6) := Lib.hid ((hbel4.trans (bI.mono hbel4.size)).grown g6 (Nat.le_trans hbel4.size bI.size) (fun q hq => by
                obtain ⟨h1, _⟩ := (R4.below bI).block q hq
                have := HS1.out
                omega))
              clear HSD HW3 HB3 HST hf N4 b4 k4 hbw3 hab4 hbel4 R4 NI bI hnI hW5 hrun R6 g6 hkey
              go_upto_region 35 with (first | (at_builtin; rw [← HW5.out]; refine Lib.wpList_append_run _ rfl _ _ _ _ rfl _ _ rfl rfl _ _ HRUN.out ?_; go_frame))
              clear HRUN HW5 ca4
              have hnx := HNX.out
              have hrx := HRX.out
              obtain ⟨l, hl⟩ : ∃ l, l = (F ++ [f]).length := ⟨_, rfl⟩
              have HLN := Lib.hid hnx.nlen
              have HNW := Lib.hid hnx.nnow
              rw [← hl] at HLN
              obtain ⟨a8, c8, hv8, _⟩ := hrx.form
              rw [List.length_map, ← hl] at hv8
              have HV8 := Lib.hid hv8
              have HL8 := Lib.hid hl
              clear hl hnx hrx
              obtain rfl := HV8.out
              go_wp2_with fail
              refine HLN.out.mono ?_
              rintro e w20 ⟨rfl, rfl⟩
              go_wp2_with fail
              refine HNW.out.mono ?_
              rintro e w21 ⟨rfl, rfl⟩
              clear HLN HNW
              go_wp2_with fail
              go_roundw
              case rel => exact ⟨i + 1, now, F ++ [f], sent + 1, rfl, by rw [e26]; rfl, hlt, Lib.hid ⟨by have := HR.out.nw; omega, by rw [List.length_append]; have := HR.out.fl; show F.length + 1 ≤ _; omega, by have := HR.out.st; push_cast; omega, HNX.out, HRX.out, HBX.out⟩⟩
              case measure =>
                show n - (intOf (.int .i64 (wrap64 ((i : Int) + 1)))).toNat < n - (intOf (.int .i64 (i : Int))).toNat
                rw [e26]
                simp [intOf]; omega
            · have hd1 : ¬ ad < 0 := hdc
              have hd2 : ¬ ad ≤ 1048576 := hdm
              have hd3 : (1048576 : Int) < ad := by omega
              obtain ⟨D, hD⟩ : ∃ D : Int, D = (now : Int) + 1048576 := ⟨_, rfl⟩
              have eD : wrap64 ((now : Int) + 1048576) = D := by rw [IntWalk.wrap64_in _ (by have := HR.out.nw; have := HN200.out; omega), hD]
              have HDD : Hid (D = (now : Int) + min (max ad 0) 1048576) := Lib.hid (by rw [hD]; omega)
              clear hD
              obtain ⟨W3, hW3, N3, M3, b3⟩ := one_new NA i
              have HSD := Lib.hid (N3.send1 (by have := HR.out.fl; have := HN200.out; omega) ad M3 (by have := HR.out.nw; have := HN200.out; omega) (by have := HR.out.st; have := HN200.out; omega))
              unfold mgA mgI at hW3
              simp only at hW3
              have HW3 := Lib.hid hW3
              have HB3 := Lib.hid b3
              clear hW3 N3 M3 b3 NA
              go_wp2_with (first | (refine wpList_store_run HST.out rfl rfl rfl rfl ?_))
              rw [← HW3.out]
              refine HSD.out.mono ?_
              rintro e w4 ⟨rfl, f, hf, N4, b4, k4⟩
              have hbw3 : wr.heap.size ≤ WA.heap.size := HAB.out.2.size
              have hab4 : w4.heap[wr.heap.size]? = some (.cells #[.int .i64 ak, .int .i64 ad] 31 (0, 0)) := by
                have h1 := (HB3.out.block _ (lt_of_block HAB.out.1)).trans HAB.out.1
                exact (k4 _ _ _ _ h1 (by decide) (by decide)).trans h1
              have ca4 := (two_cells hab4).2
              have hbel4 : Below W.heap.size W w4 := ((HR.out.bel.trans (HAB.out.2.mono HR.out.bel.size)).trans (HB3.out.mono (HR.out.bel.trans (HAB.out.2.mono HR.out.bel.size)).size)).trans (b4.mono HS1.out)
              have R4 : IRow w4 nb (.slice wa F.length wc) (F.map keyF) := ((HROW.out.below HAB.out.2).below HB3.out).keepT k4
              have NI : w4.heap.size ≤ (w4.alloc (.cells #[.int .i64 D, .int .i64 i] 43)).heap.size := by simp
              have bI := (Below.refl w4.heap.size w4).alloc (Nat.le_refl _) (.cells #[.int .i64 D, .int .i64 i] 43)
              have hnI := heap_alloc_new w4 (.cells #[.int .i64 D, .int .i64 i] 43)
              obtain ⟨W5, hW5⟩ : ∃ W5, W5 = w4.alloc (.cells #[.int .i64 D, .int .i64 i] 43) := ⟨_, rfl⟩
              rw [← hW5] at bI hnI
              obtain ⟨v6, w6, hrun, R6, g6⟩ := (R4.below bI).push (by rw [List.length_map]; have := HR.out.fl; have := HN200.out; omega) (by have := N4.nb_lt; have := bI.size; omega) (D, (i : Int)) hnI 1
              have HRUN := Lib.hid hrun
              have HW5 := Lib.hid hW5
              have HNX : Hid (NetX w6 nb nb now (sent + 1) (F ++ [f])) := Lib.hid ((N4.below bI).other g6 (fun q hq => by obtain ⟨_, cs, hcs⟩ := (R4.below bI).block q hq; exact ⟨cs, _, _, hcs, by decide, by decide, by decide⟩))
              have hkey : (F ++ [f]).map keyF = F.map keyF ++ [(D, (i : Int))] := by
                rw [List.map_append]
                have : keyF f = (D, (i : Int)) := by unfold keyF; rw [hf.due, hf.ix, ← HDD.out]
                simp [this]
              have HRX : Hid (IRow w6 nb v6 ((F ++ [f]).map keyF)) := Lib.hid (by rw [hkey]; exact R6)
              have HBX : Hid (Below W.heap.size W w6) := Lib.hid ((hbel4.trans (bI.mono hbel4.size)).grown g6 (Nat.le_trans hbel4.size bI.size) (fun q hq => by
                obtain ⟨h1, _⟩ := (R4.below bI).block q hq
                have := HS1.out
                omega))
              clear HSD HW3 HB3 HST hf N4 b4 k4 hbw3 hab4 hbel4 R4 NI bI hnI hW5 hrun R6 g6 hkey
              go_upto_region 35 with (first | (at_builtin; rw [← HW5.out]; refine Lib.wpList_append_run _ rfl _ _ _ _ rfl _ _ rfl rfl _ _ HRUN.out ?_; go_frame))
              clear HRUN HW5 ca4
              have hnx := HNX.out
              have hrx := HRX.out
              obtain ⟨l, hl⟩ : ∃ l, l = (F ++ [f]).length := ⟨_, rfl⟩
              have HLN := Lib.hid hnx.nlen
              have HNW := Lib.hid hnx.nnow
              rw [← hl] at HLN
              obtain ⟨a8, c8, hv8, _⟩ := hrx.form
              rw [List.length_map, ← hl] at hv8
              have HV8 := Lib.hid hv8
              have HL8 := Lib.hid hl
              clear hl hnx hrx
              obtain rfl := HV8.out
              go_wp2_with fail
              refine HLN.out.mono ?_
              rintro e w20 ⟨rfl, rfl⟩
              go_wp2_with fail
              refine HNW.out.mono ?_
              rintro e w21 ⟨rfl, rfl⟩
              clear HLN HNW
              go_wp2_with fail
              go_roundw
              case rel => exact ⟨i + 1, now, F ++ [f], sent + 1, rfl, by rw [e26]; rfl, hlt, Lib.hid ⟨by have := HR.out.nw; omega, by rw [List.length_append]; have := HR.out.fl; show F.length + 1 ≤ _; omega, by have := HR.out.st; push_cast; omega, HNX.out, HRX.out, HBX.out⟩⟩
              case measure =>
                show n - (intOf (.int .i64 (wrap64 ((i : Int) + 1)))).toNat < n - (intOf (.int .i64 (i : Int))).toNat
                rw [e26]
                simp [intOf]; omega
        · have hk : wrap64 ((IntKind.u64.wrap ak).tmod 6) = 2 := by rw [kind6_form, hku]; rfl
          clear hku

          have HNA := Lib.hid NA
          have HRA := Lib.hid (HROW.out.below HAB.out.2)
          have HBA := Lib.hid (HR.out.bel.trans (HAB.out.2.mono HR.out.bel.size))
          have HWR := Lib.hid HAB.out.2
          have HFL : Hid (F.length ≤ 200) := Lib.hid (by have := HR.out.fl; have := HN200.out; omega)
          clear NA
          go_wp2_with (first | (refine wpList_store_run HST.out rfl rfl rfl rfl ?_))
          clear HST ca0 ca1 c0 c1
          go_loopw [8, 64] (fun bv kv wx => ∃ (k : Nat) (b : Int), bv = .int .i64 b ∧ kv = .int .i64 k ∧ k ≤ F.length ∧ Hid (BestI (F.map keyF) now k b) ∧ Hid (Below WA.heap.size WA wx)) (fun _ kv _ => F.length - (intOf kv).toNat)
          case atStart => exact ⟨0, -1, rfl, rfl, Nat.zero_le _, Lib.hid BestI.start, Lib.hid (Below.refl _ _)⟩
          case round =>
            obtain ⟨k, b, rfl, rfl, hkl, HBI, HBX⟩ := hrel
            by_cases hlk : k < F.length
            · have hlk2 : decide ((k : Int) < (F.length : Int)) = true := by simp; omega
              obtain ⟨g, rfl, hg, hcells⟩ := HWF.out (by omega)
              obtain ⟨hcc0, hcc1⟩ := hcells k hlk
              obtain ⟨due, hdue⟩ : ∃ x, x = ((F.map keyF).getD k (0, 0)).1 := ⟨_, rfl⟩
              obtain ⟨idn, hidn⟩ : ∃ x, x = ((F.map keyF).getD k (0, 0)).2 := ⟨_, rfl⟩
              rw [← hdue] at hcc0
              rw [← hidn] at hcc1
              have hgA : g < WA.heap.size := Nat.lt_of_lt_of_le hg HWR.out.size
              have cx0 := (HBX.out.cell (p := ⟨g, k * 2, none⟩) hgA).trans ((HWR.out.cell (p := ⟨g, k * 2, none⟩) hg).trans hcc0)
              have cx1 := (HBX.out.cell (p := ⟨g, k * 2 + 1, none⟩) hgA).trans ((HWR.out.cell (p := ⟨g, k * 2 + 1, none⟩) hg).trans hcc1)
              obtain ⟨W5, hst5, hcell5, hb5⟩ := new_item wr due idn
              have HST5 := Lib.hid hst5
              have HX0 := Lib.hid (show W5.drew.cell? ⟨wr.heap.size, 0, none⟩ = some (.int .i64 due) from (two_cells hcell5).1)
              have HB5 := Lib.hid (HBX.out.trans (hb5.mono HBX.out.size))
              have hk0 : (0 : Int) ≤ (k : Int) := by omega
              have hk1 : (k : Int) < (F.length : Int) := by omega
              have ek : wrap64 ((k : Int) + 1) = (k : Int) + 1 := IntWalk.wrap64_in _ (by have := HFL.out; omega)
              have HHC := Lib.hid hcells
              have HHG := Lib.hid hg
              have HGA := Lib.hid hgA
              have HDUE := Lib.hid hdue
              have HBD : Hid (Below WA.heap.size WA W5.drew) := Lib.hid HB5.out.drew
              have HLK := Lib.hid hlk
              clear hst5 hcell5 hb5 hcells hcc0 hcc1 hg hgA hdue hidn hkl
              by_cases hle : due ≤ (now : Int)
              · have HLE : Hid (decide (due ≤ (now : Int)) = true) := Lib.hid (decide_eq_true hle)
                have HLE2 := Lib.hid hle
                clear hle
                by_cases hbn : b = -1
                · obtain rfl := hbn
                  go_upto_region 24 with (first | (refine wpList_store_run HST5.out rfl rfl rfl rfl ?_))
                  clear HST5 cx0 cx1
                  refine wp_region_inv_last 17 (IFJ (FkB wr.heap.size due now) (fun _ _ W => W = W5.drew)) (by kernel_rfl) (by kernel_rfl) (by kernel_rfl) (by kernel_rfl) (by kernel_rfl) ?_ ?_ ?_
                  · intro x
                    exact ⟨fun j hj => (by cases hj), rfl⟩
                  · intro k o hk ho b x w1 hI hbi hW
                    match k, ho with
                      | 0, ho =>
                        obtain rfl := Option.some.inj ho
                        exact gstep_field rfl (wanted0 rfl) _ _ _ rfl _ (eval_of 10 _ (by kernel_rfl) rfl) _ (run_fI0 _ _) ⟨_, rfl, IFJ.step hI rfl hI.2⟩
                      | 1, ho =>
                        obtain rfl := Option.some.inj ho
                        exact gstep_load rfl (wanted0 rfl) _ _ rfl _ (eval_at 69 0 _ (by kernel_rfl) (show 69 < 165 by decide) (hI.1 0 (hW 0 (by kernel_rfl)))) _ (run_ld w1 wr.heap.size 0 _ (by rw [hI.2]; exact HX0.out)) ⟨_, rfl, IFJ.step hI rfl hI.2⟩
                      | 2, ho =>
                        obtain rfl := Option.some.inj ho
                        exact gstep_move rfl (wanted0 rfl) _ rfl _ (eval_of 5 _ (by kernel_rfl) rfl) ⟨_, rfl, IFJ.step hI rfl hI.2⟩
                      | 3, ho =>
                        obtain rfl := Option.some.inj ho
                        exact gstep_bin rfl (wanted0 rfl) _ _ _ _ _ rfl _ _ (eval_at 70 1 _ (by kernel_rfl) (show 70 < 165 by decide) (hI.1 1 (hW 1 (by kernel_rfl)))) (eval_at 71 2 _ (by kernel_rfl) (show 71 < 165 by decide) (hI.1 2 (hW 2 (by kernel_rfl)))) _ (run_le w1 _ _ _ HLE.out _ _) ⟨_, rfl, IFJ.step hI rfl hI.2⟩
                      | 4, ho =>
                        obtain rfl := Option.some.inj ho
                        exact gstep_move rfl (wanted0 rfl) _ rfl _ (eval_at 72 3 _ (by kernel_rfl) (show 72 < 165 by decide) (hI.1 3 (hW 3 (by kernel_rfl)))) ⟨_, rfl, IFJ.step hI rfl hI.2⟩
                      | 5, ho =>
                        obtain rfl := Option.some.inj ho
                        exact gstep_move rfl (wanted_at 73 4 true _ true rfl (by kernel_rfl) (show 73 < 165 by decide) (hI.1 4 (hW 4 (by kernel_rfl))) rfl) _ rfl _ (eval_of 8 _ (by kernel_rfl) rfl) ⟨_, rfl, IFJ.step hI rfl hI.2⟩
                      | 6, ho =>
                        obtain rfl := Option.some.inj ho
                        exact gstep_bin rfl (wanted_at 73 4 true _ true rfl (by kernel_rfl) (show 73 < 165 by decide) (hI.1 4 (hW 4 (by kernel_rfl))) rfl) _ _ _ _ _ rfl _ _ (eval_at 74 5 _ (by kernel_rfl) (show 74 < 165 by decide) (hI.1 5 (hW 5 (by kernel_rfl)))) rfl _ (run_lsT w1 _ _) ⟨_, rfl, IFJ.step hI rfl hI.2⟩
                      | 7, ho =>
                        obtain rfl := Option.some.inj ho
                        exact gstep_move rfl (wanted_at 73 4 true _ true rfl (by kernel_rfl) (show 73 < 165 by decide) (hI.1 4 (hW 4 (by kernel_rfl))) rfl) _ rfl _ (eval_at 75 6 _ (by kernel_rfl) (show 75 < 165 by decide) (hI.1 6 (hW 6 (by kernel_rfl)))) ⟨_, rfl, IFJ.step hI rfl hI.2⟩
                      | 8, ho =>
                        obtain rfl := Option.some.inj ho
                        exact gstep_skip rfl (wanted_at 76 7 false _ false rfl (by kernel_rfl) (show 76 < 165 by decide) (hI.1 7 (hW 7 (by kernel_rfl))) rfl) ⟨_, rfl, IFJ.step hI rfl hI.2⟩
                      | 9, ho =>
                        obtain rfl := Option.some.inj ho
                        exact gstep_skip rfl (wanted_at 76 7 false _ false rfl (by kernel_rfl) (show 76 < 165 by decide) (hI.1 7 (hW 7 (by kernel_rfl))) rfl) ⟨_, rfl, IFJ.step hI rfl hI.2⟩
                      | 10, ho =>
                        obtain rfl := Option.some.inj ho
                        exact gstep_skip rfl (wanted_at 76 7 false _ false rfl (by kernel_rfl) (show 76 < 165 by decide) (hI.1 7 (hW 7 (by kernel_rfl))) rfl) ⟨_, rfl, IFJ.step hI rfl hI.2⟩
                      | 11, ho =>
                        obtain rfl := Option.some.inj ho
                        exact gstep_skip rfl (wanted_at 76 7 false _ false rfl (by kernel_rfl) (show 76 < 165 by decide) (hI.1 7 (hW 7 (by kernel_rfl))) rfl) ⟨_, rfl, IFJ.step hI rfl hI.2⟩
                      | 12, ho =>
                        obtain rfl := Option.some.inj ho
                        exact gstep_skip rfl (wanted_at 76 7 false _ false rfl (by kernel_rfl) (show 76 < 165 by decide) (hI.1 7 (hW 7 (by kernel_rfl))) rfl) ⟨_, rfl, IFJ.step hI rfl hI.2⟩
                      | 13, ho =>
                        obtain rfl := Option.some.inj ho
                        exact gstep_skip rfl (wanted_at 76 7 false _ false rfl (by kernel_rfl) (show 76 < 165 by decide) (hI.1 7 (hW 7 (by kernel_rfl))) rfl) ⟨_, rfl, IFJ.step hI rfl hI.2⟩
                      | 14, ho =>
                        obtain rfl := Option.some.inj ho
                        exact gstep_skip rfl (wanted_at 76 7 false _ false rfl (by kernel_rfl) (show 76 < 165 by decide) (hI.1 7 (hW 7 (by kernel_rfl))) rfl) ⟨_, rfl, IFJ.step hI rfl hI.2⟩
                      | 15, ho =>
                        obtain rfl := Option.some.inj ho
                        exact gstep_skip rfl (wanted_at 76 7 false _ false rfl (by kernel_rfl) (show 76 < 165 by decide) (hI.1 7 (hW 7 (by kernel_rfl))) rfl) ⟨_, rfl, IFJ.step hI rfl hI.2⟩
                      | 16, ho =>
                        obtain rfl := Option.some.inj ho
                        exact gstep_pick rfl (wanted_at 73 4 true _ true rfl (by kernel_rfl) (show 73 < 165 by decide) (hI.1 4 (hW 4 (by kernel_rfl))) rfl) _ _ _ rfl _ (eval_at 76 7 _ (by kernel_rfl) (show 76 < 165 by decide) (hI.1 7 (hW 7 (by kernel_rfl)))) _ (if_pos rfl) ⟨_, rfl, IFJ.step hI rfl hI.2⟩
                      | n + 17, ho => omega
                  · intro o ho bq x w1 hI hA
                    obtain rfl := Option.some.inj ho
                    refine gstep_pick rfl (wanted0 rfl) _ _ _ rfl _ (eval_at 73 4 _ (by kernel_rfl) (show 73 < 165 by decide) (hI.1 4 (hA 4 (by decide)))) _ ((if_pos rfl).trans (eval_at 85 16 _ (by kernel_rfl) (show 85 < 165 by decide) (hI.1 16 (hA 16 (by decide))))) ?_
                    simp only [putAll, Act.put, List.setIfInBounds_toArray, List.set_cons_succ, List.set_cons_zero]
                    obtain rfl := hI.2
                    clear hI hA
                    go_wp2_with fail
                    go_roundw
                    case rel => exact ⟨k + 1, (k : Int), rfl, by rw [ek]; rfl, HLK.out, Lib.hid (by exact HBI.out.first (by rw [← HDUE.out]; exact HLE2.out)), Lib.hid HBD.out⟩
                    case measure =>
                      have := HLK.out
                      show F.length - (intOf (.int .i64 (wrap64 ((k : Int) + 1)))).toNat < F.length - (intOf (.int .i64 (k : Int))).toNat
                      rw [ek]
                      simp [intOf]; omega
                · obtain ⟨m, hbm, hml⟩ : ∃ m : Nat, b = (m : Int) ∧ m < k := by
                    rcases HBI.out with ⟨e, _⟩ | ⟨m, e, h1, _⟩
                    · exact absurd e hbn
                    · exact ⟨m, e, h1⟩
                  subst hbm
                  obtain ⟨due2, hdue2⟩ : ∃ x, x = ((F.map keyF).getD m (0, 0)).1 := ⟨_, rfl⟩
                  have hc2 := (HHC.out m (by omega)).1
                  rw [← hdue2] at hc2
                  have HG0 : Hid (W5.drew.cell? ⟨g, m * 2, none⟩ = some (.int .i64 due2)) := Lib.hid ((HBD.out.cell (p := ⟨g, m * 2, none⟩) HGA.out).trans ((HWR.out.cell (p := ⟨g, m * 2, none⟩) HHG.out).trans hc2))
                  have HML : Hid (m < F.length) := Lib.hid (by omega)
                  have HLL : Hid (F.length ≤ 2000) := Lib.hid (by have := HFL.out; omega)
                  have HD2 := Lib.hid hdue2
                  obtain ⟨B, hB⟩ : ∃ B, B = decide (due < due2) := ⟨_, rfl⟩
                  have HLT := Lib.hid hB.symm
                  clear hbn hml hdue2 hc2 hB
                  go_upto_region 24 with (first | (refine wpList_store_run HST5.out rfl rfl rfl rfl ?_))
                  clear HST5 cx0 cx1
                  refine wp_region_inv_last 17 (IFJ (FkC wr.heap.size g F.length wc m due now due2 B) (fun _ _ W => W = W5.drew)) (by kernel_rfl) (by kernel_rfl) (by kernel_rfl) (by kernel_rfl) (by kernel_rfl) ?_ ?_ ?_
                  · intro x
                    exact ⟨fun j hj => (by cases hj), rfl⟩
                  · intro k o hk ho b x w1 hI hbi hW
                    match k, ho with
                      | 0, ho =>
                        obtain rfl := Option.some.inj ho
                        exact gstep_field rfl (wanted0 rfl) _ _ _ rfl _ (eval_of 10 _ (by kernel_rfl) rfl) _ (run_fI0 _ _) ⟨_, rfl, IFJ.step hI rfl hI.2⟩
                      | 1, ho =>
                        obtain rfl := Option.some.inj ho
                        exact gstep_load rfl (wanted0 rfl) _ _ rfl _ (eval_at 69 0 _ (by kernel_rfl) (show 69 < 165 by decide) (hI.1 0 (hW 0 (by kernel_rfl)))) _ (run_ld w1 wr.heap.size 0 _ (by rw [hI.2]; exact HX0.out)) ⟨_, rfl, IFJ.step hI rfl hI.2⟩
                      | 2, ho =>
                        obtain rfl := Option.some.inj ho
                        exact gstep_move rfl (wanted0 rfl) _ rfl _ (eval_of 5 _ (by kernel_rfl) rfl) ⟨_, rfl, IFJ.step hI rfl hI.2⟩
                      | 3, ho =>
                        obtain rfl := Option.some.inj ho
                        exact gstep_bin rfl (wanted0 rfl) _ _ _ _ _ rfl _ _ (eval_at 70 1 _ (by kernel_rfl) (show 70 < 165 by decide) (hI.1 1 (hW 1 (by kernel_rfl)))) (eval_at 71 2 _ (by kernel_rfl) (show 71 < 165 by decide) (hI.1 2 (hW 2 (by kernel_rfl)))) _ (run_le w1 _ _ _ HLE.out _ _) ⟨_, rfl, IFJ.step hI rfl hI.2⟩
                      | 4, ho =>
                        obtain rfl := Option.some.inj ho
                        exact gstep_move rfl (wanted0 rfl) _ rfl _ (eval_at 72 3 _ (by kernel_rfl) (show 72 < 165 by decide) (hI.1 3 (hW 3 (by kernel_rfl)))) ⟨_, rfl, IFJ.step hI rfl hI.2⟩
                      | 5, ho =>
                        obtain rfl := Option.some.inj ho
                        exact gstep_move rfl (wanted_at 73 4 true _ true rfl (by kernel_rfl) (show 73 < 165 by decide) (hI.1 4 (hW 4 (by kernel_rfl))) rfl) _ rfl _ (eval_of 8 _ (by kernel_rfl) rfl) ⟨_, rfl, IFJ.step hI rfl hI.2⟩
                      | 6, ho =>
                        obtain rfl := Option.some.inj ho
                        exact gstep_bin rfl (wanted_at 73 4 true _ true rfl (by kernel_rfl) (show 73 < 165 by decide) (hI.1 4 (hW 4 (by kernel_rfl))) rfl) _ _ _ _ _ rfl _ _ (eval_at 74 5 _ (by kernel_rfl) (show 74 < 165 by decide) (hI.1 5 (hW 5 (by kernel_rfl)))) rfl _ (run_lsF w1 _ _ _) ⟨_, rfl, IFJ.step hI rfl hI.2⟩
                      | 7, ho =>
                        obtain rfl := Option.some.inj ho
                        exact gstep_move rfl (wanted_at 73 4 true _ true rfl (by kernel_rfl) (show 73 < 165 by decide) (hI.1 4 (hW 4 (by kernel_rfl))) rfl) _ rfl _ (eval_at 75 6 _ (by kernel_rfl) (show 75 < 165 by decide) (hI.1 6 (hW 6 (by kernel_rfl)))) ⟨_, rfl, IFJ.step hI rfl hI.2⟩
                      | 8, ho =>
                        obtain rfl := Option.some.inj ho
                        exact gstep_field rfl (wanted_at 76 7 false _ true rfl (by kernel_rfl) (show 76 < 165 by decide) (hI.1 7 (hW 7 (by kernel_rfl))) rfl) _ _ _ rfl _ (eval_of 10 _ (by kernel_rfl) rfl) _ (run_fI0 _ _) ⟨_, rfl, IFJ.step hI rfl hI.2⟩
                      | 9, ho =>
                        obtain rfl := Option.some.inj ho
                        exact gstep_load rfl (wanted_at 76 7 false _ true rfl (by kernel_rfl) (show 76 < 165 by decide) (hI.1 7 (hW 7 (by kernel_rfl))) rfl) _ _ rfl _ (eval_at 77 8 _ (by kernel_rfl) (show 77 < 165 by decide) (hI.1 8 (hW 8 (by kernel_rfl)))) _ (run_ld w1 wr.heap.size 0 _ (by rw [hI.2]; exact HX0.out)) ⟨_, rfl, IFJ.step hI rfl hI.2⟩
                      | 10, ho =>
                        obtain rfl := Option.some.inj ho
                        exact gstep_move rfl (wanted_at 76 7 false _ true rfl (by kernel_rfl) (show 76 < 165 by decide) (hI.1 7 (hW 7 (by kernel_rfl))) rfl) _ rfl _ (eval_of 4 _ (by kernel_rfl) rfl) ⟨_, rfl, IFJ.step hI rfl hI.2⟩
                      | 11, ho =>
                        obtain rfl := Option.some.inj ho
                        exact gstep_move rfl (wanted_at 76 7 false _ true rfl (by kernel_rfl) (show 76 < 165 by decide) (hI.1 7 (hW 7 (by kernel_rfl))) rfl) _ rfl _ (eval_of 8 _ (by kernel_rfl) rfl) ⟨_, rfl, IFJ.step hI rfl hI.2⟩
                      | 12, ho =>
                        obtain rfl := Option.some.inj ho
                        exact gstep_index rfl (wanted_at 76 7 false _ true rfl (by kernel_rfl) (show 76 < 165 by decide) (hI.1 7 (hW 7 (by kernel_rfl))) rfl) _ _ _ rfl _ _ (eval_at 79 10 _ (by kernel_rfl) (show 79 < 165 by decide) (hI.1 10 (hW 10 (by kernel_rfl)))) (eval_at 80 11 _ (by kernel_rfl) (show 80 < 165 by decide) (hI.1 11 (hW 11 (by kernel_rfl)))) _ (run_iix w1 _ _ _ _ HML.out HLL.out) ⟨_, rfl, IFJ.step hI rfl hI.2⟩
                      | 13, ho =>
                        obtain rfl := Option.some.inj ho
                        exact gstep_field rfl (wanted_at 76 7 false _ true rfl (by kernel_rfl) (show 76 < 165 by decide) (hI.1 7 (hW 7 (by kernel_rfl))) rfl) _ _ _ rfl _ (eval_at 81 12 _ (by kernel_rfl) (show 81 < 165 by decide) (hI.1 12 (hW 12 (by kernel_rfl)))) _ (run_fI0 _ _) ⟨_, rfl, IFJ.step hI rfl hI.2⟩
                      | 14, ho =>
                        obtain rfl := Option.some.inj ho
                        exact gstep_load rfl (wanted_at 76 7 false _ true rfl (by kernel_rfl) (show 76 < 165 by decide) (hI.1 7 (hW 7 (by kernel_rfl))) rfl) _ _ rfl _ (eval_at 82 13 _ (by kernel_rfl) (show 82 < 165 by decide) (hI.1 13 (hW 13 (by kernel_rfl)))) _ (run_ld w1 g _ _ (by rw [hI.2]; exact HG0.out)) ⟨_, rfl, IFJ.step hI rfl hI.2⟩
                      | 15, ho =>
                        obtain rfl := Option.some.inj ho
                        exact gstep_bin rfl (wanted_at 76 7 false _ true rfl (by kernel_rfl) (show 76 < 165 by decide) (hI.1 7 (hW 7 (by kernel_rfl))) rfl) _ _ _ _ _ rfl _ _ (eval_at 78 9 _ (by kernel_rfl) (show 78 < 165 by decide) (hI.1 9 (hW 9 (by kernel_rfl)))) (eval_at 83 14 _ (by kernel_rfl) (show 83 < 165 by decide) (hI.1 14 (hW 14 (by kernel_rfl)))) _ (run_lt2 w1 _ _ _ HLT.out _ _) ⟨_, rfl, IFJ.step hI rfl hI.2⟩
                      | 16, ho =>
                        obtain rfl := Option.some.inj ho
                        exact gstep_pick rfl (wanted_at 73 4 true _ true rfl (by kernel_rfl) (show 73 < 165 by decide) (hI.1 4 (hW 4 (by kernel_rfl))) rfl) _ _ _ rfl _ (eval_at 76 7 _ (by kernel_rfl) (show 76 < 165 by decide) (hI.1 7 (hW 7 (by kernel_rfl)))) _ ((if_neg (by decide)).trans (eval_at 84 15 _ (by kernel_rfl) (show 84 < 165 by decide) (hI.1 15 (hW 15 (by kernel_rfl))))) ⟨_, rfl, IFJ.step hI rfl hI.2⟩
                      | n + 17, ho => omega
                  · intro o ho bq x w1 hI hA
                    obtain rfl := Option.some.inj ho
                    refine gstep_pick rfl (wanted0 rfl) _ _ _ rfl _ (eval_at 73 4 _ (by kernel_rfl) (show 73 < 165 by decide) (hI.1 4 (hA 4 (by decide)))) _ ((if_pos rfl).trans (eval_at 85 16 _ (by kernel_rfl) (show 85 < 165 by decide) (hI.1 16 (hA 16 (by decide))))) ?_
                    simp only [putAll, Act.put, List.setIfInBounds_toArray, List.set_cons_succ, List.set_cons_zero]
                    obtain rfl := hI.2
                    clear hI hA
                    cases B with
                    | true =>
                      go_wp2_with fail
                      go_roundw
                      case rel => exact ⟨k + 1, (k : Int), rfl, by rw [ek]; rfl, HLK.out, Lib.hid (by exact HBI.out.less (by rw [← HDUE.out]; exact HLE2.out) (by rw [← HDUE.out, ← HD2.out]; exact of_decide_eq_true HLT.out)), Lib.hid HBD.out⟩
                      case measure =>
                        have := HLK.out
                        show F.length - (intOf (.int .i64 (wrap64 ((k : Int) + 1)))).toNat < F.length - (intOf (.int .i64 (k : Int))).toNat
                        rw [ek]
                        simp [intOf]; omega
                    | false =>
                      go_wp2_with fail
                      go_roundw
                      case rel => exact ⟨k + 1, (m : Int), rfl, by rw [ek]; rfl, HLK.out, Lib.hid (by exact HBI.out.stays (by rw [← HDUE.out, ← HD2.out]; exact of_decide_eq_false HLT.out)), Lib.hid HBD.out⟩
                      case measure =>
                        have := HLK.out
                        show F.length - (intOf (.int .i64 (wrap64 ((k : Int) + 1)))).toNat < F.length - (intOf (.int .i64 (k : Int))).toNat
                        rw [ek]
                        simp [intOf]; omega
              · have HLE : Hid (decide (due ≤ (now : Int)) = false) := Lib.hid (decide_eq_false hle)
                have HLE2 := Lib.hid hle
                clear hle
                go_upto_region 24 with (first | (refine wpList_store_run HST5.out rfl rfl rfl rfl ?_))
                clear HST5 cx0 cx1
                refine wp_region_inv_last 17 (IFJ (FkA wr.heap.size due now) (fun _ _ W => W = W5.drew)) (by kernel_rfl) (by kernel_rfl) (by kernel_rfl) (by kernel_rfl) (by kernel_rfl) ?_ ?_ ?_
                · intro x
                  exact ⟨fun j hj => (by cases hj), rfl⟩
                · intro k o hk ho b x w1 hI hbi hW
                  match k, ho with
                    | 0, ho =>
                      obtain rfl := Option.some.inj ho
                      exact gstep_field rfl (wanted0 rfl) _ _ _ rfl _ (eval_of 10 _ (by kernel_rfl) rfl) _ (run_fI0 _ _) ⟨_, rfl, IFJ.step hI rfl hI.2⟩
                    | 1, ho =>
                      obtain rfl := Option.some.inj ho
                      exact gstep_load rfl (wanted0 rfl) _ _ rfl _ (eval_at 69 0 _ (by kernel_rfl) (show 69 < 165 by decide) (hI.1 0 (hW 0 (by kernel_rfl)))) _ (run_ld w1 wr.heap.size 0 _ (by rw [hI.2]; exact HX0.out)) ⟨_, rfl, IFJ.step hI rfl hI.2⟩
                    | 2, ho =>
                      obtain rfl := Option.some.inj ho
                      exact gstep_move rfl (wanted0 rfl) _ rfl _ (eval_of 5 _ (by kernel_rfl) rfl) ⟨_, rfl, IFJ.step hI rfl hI.2⟩
                    | 3, ho =>
                      obtain rfl := Option.some.inj ho
                      exact gstep_bin rfl (wanted0 rfl) _ _ _ _ _ rfl _ _ (eval_at 70 1 _ (by kernel_rfl) (show 70 < 165 by decide) (hI.1 1 (hW 1 (by kernel_rfl)))) (eval_at 71 2 _ (by kernel_rfl) (show 71 < 165 by decide) (hI.1 2 (hW 2 (by kernel_rfl)))) _ (run_le w1 _ _ _ HLE.out _ _) ⟨_, rfl, IFJ.step hI rfl hI.2⟩
                    | 4, ho =>
                      obtain rfl := Option.some.inj ho
                      exact gstep_move rfl (wanted0 rfl) _ rfl _ (eval_at 72 3 _ (by kernel_rfl) (show 72 < 165 by decide) (hI.1 3 (hW 3 (by kernel_rfl)))) ⟨_, rfl, IFJ.step hI rfl hI.2⟩
                    | 5, ho =>
                      obtain rfl := Option.some.inj ho
                      exact gstep_skip rfl (wanted_at 73 4 true _ false rfl (by kernel_rfl) (show 73 < 165 by decide) (hI.1 4 (hW 4 (by kernel_rfl))) rfl) ⟨_, rfl, IFJ.step hI rfl hI.2⟩
                    | 6, ho =>
                      obtain rfl := Option.some.inj ho
                      exact gstep_skip rfl (wanted_at 73 4 true _ false rfl (by kernel_rfl) (show 73 < 165 by decide) (hI.1 4 (hW 4 (by kernel_rfl))) rfl) ⟨_, rfl, IFJ.step hI rfl hI.2⟩
                    | 7, ho =>
                      obtain rfl := Option.some.inj ho
                      exact gstep_skip rfl (wanted_at 73 4 true _ false rfl (by kernel_rfl) (show 73 < 165 by decide) (hI.1 4 (hW 4 (by kernel_rfl))) rfl) ⟨_, rfl, IFJ.step hI rfl hI.2⟩
                    | 8, ho =>
                      obtain rfl := Option.some.inj ho
                      exact gstep_skip rfl (wanted_at 76 7 false _ false rfl (by kernel_rfl) (show 76 < 165 by decide) (hI.1 7 (hW 7 (by kernel_rfl))) rfl) ⟨_, rfl, IFJ.step hI rfl hI.2⟩
                    | 9, ho =>
                      obtain rfl := Option.some.inj ho
                      exact gstep_skip rfl (wanted_at 76 7 false _ false rfl (by kernel_rfl) (show 76 < 165 by decide) (hI.1 7 (hW 7 (by kernel_rfl))) rfl) ⟨_, rfl, IFJ.step hI rfl hI.2⟩
                    | 10, ho =>
                      obtain rfl := Option.some.inj ho
                      exact gstep_skip rfl (wanted_at 76 7 false _ false rfl (by kernel_rfl) (show 76 < 165 by decide) (hI.1 7 (hW 7 (by kernel_rfl))) rfl) ⟨_, rfl, IFJ.step hI rfl hI.2⟩
                    | 11, ho =>
                      obtain rfl := Option.some.inj ho
                      exact gstep_skip rfl (wanted_at 76 7 false _ false rfl (by kernel_rfl) (show 76 < 165 by decide) (hI.1 7 (hW 7 (by kernel_rfl))) rfl) ⟨_, rfl, IFJ.step hI rfl hI.2⟩
                    | 12, ho =>
                      obtain rfl := Option.some.inj ho
                      exact gstep_skip rfl (wanted_at 76 7 false _ false rfl (by kernel_rfl) (show 76 < 165 by decide) (hI.1 7 (hW 7 (by kernel_rfl))) rfl) ⟨_, rfl, IFJ.step hI rfl hI.2⟩
                    | 13, ho =>
                      obtain rfl := Option.some.inj ho
                      exact gstep_skip rfl (wanted_at 76 7 false _ false rfl (by kernel_rfl) (show 76 < 165 by decide) (hI.1 7 (hW 7 (by kernel_rfl))) rfl) ⟨_, rfl, IFJ.step hI rfl hI.2⟩
                    | 14, ho =>
                      obtain rfl := Option.some.inj ho
                      exact gstep_skip rfl (wanted_at 76 7 false _ false rfl (by kernel_rfl) (show 76 < 165 by decide) (hI.1 7 (hW 7 (by kernel_rfl))) rfl) ⟨_, rfl, IFJ.step hI rfl hI.2⟩
                    | 15, ho =>
                      obtain rfl := Option.some.inj ho
                      exact gstep_skip rfl (wanted_at 76 7 false _ false rfl (by kernel_rfl) (show 76 < 165 by decide) (hI.1 7 (hW 7 (by kernel_rfl))) rfl) ⟨_, rfl, IFJ.step hI rfl hI.2⟩
                    | 16, ho =>
                      obtain rfl := Option.some.inj ho
                      exact gstep_skip rfl (wanted_at 73 4 true _ false rfl (by kernel_rfl) (show 73 < 165 by decide) (hI.1 4 (hW 4 (by kernel_rfl))) rfl) ⟨_, rfl, IFJ.step hI rfl hI.2⟩
                    | n + 17, ho => omega
                · intro o ho bq x w1 hI hA
                  obtain rfl := Option.some.inj ho
                  refine gstep_pick rfl (wanted0 rfl) _ _ _ rfl _ (eval_at 73 4 _ (by kernel_rfl) (show 73 < 165 by decide) (hI.1 4 (hA 4 (by decide)))) _ (if_neg (by decide)) ?_
                  simp only [putAll, Act.put, List.setIfInBounds_toArray, List.set_cons_succ, List.set_cons_zero]
                  obtain rfl := hI.2
                  clear hI hA
                  go_wp2_with fail
                  go_roundw
                  case rel => exact ⟨k + 1, b, rfl, by rw [ek]; rfl, HLK.out, Lib.hid (by exact HBI.out.later (by rw [← HDUE.out]; have := HLE2.out; omega)), Lib.hid HBD.out⟩
                  case measure =>
                    have := HLK.out
                    show F.length - (intOf (.int .i64 (wrap64 ((k : Int) + 1)))).toNat < F.length - (intOf (.int .i64 (k : Int))).toNat
                    rw [ek]
                    simp [intOf]; omega
            · have hlk2 : decide ((k : Int) < (F.length : Int)) = false := by simp; omega
              have hke : k = F.length := by omega
              have hbi := HBI.out
              rw [hke] at hbi
              have HN3 := Lib.hid (HNA.out.below HBX.out)
              have HR3 := Lib.hid (HRA.out.below HBX.out)
              have HB3 := Lib.hid (HBA.out.trans (HBX.out.mono HBA.out.size))
              clear hkl hke HBI
              by_cases hbn : b = -1
              · subst hbn
                have HNX0 := Lib.hid (HN3.out.late (best_none hbi))
                clear hbi
                go_wp2_with fail
                refine HNX0.out.mono ?_
                rintro e w7 ⟨rfl, N7, b7, k7⟩
                obtain ⟨W8, hst8, N8, M8, b8, s8⟩ := got_new N7 0 0 0 0 none none Mg.zero
                unfold mgV at hst8
                have HST8 := Lib.hid hst8
                have HNX : Hid (NetX W8.drew nb nb now sent F) := Lib.hid (N8.below (Below.refl _ _).drew)
                have HRX : Hid (IRow W8.drew nb (.slice wa F.length wc) (F.map keyF)) := Lib.hid (((HR3.out.keepT k7).below b8).below (Below.refl _ _).drew)
                have HB7 := Lib.hid (HB3.out.trans (b7.mono HS1.out))
                have HBX : Hid (Below W.heap.size W W8.drew) := Lib.hid ((HB7.out.trans (b8.mono HB7.out.size)).drew)
                clear HNX0 HN3 HR3 HB3 N7 b7 k7 hst8 N8 M8 b8 s8
                unfold mgV
                go_upto_region 28 with (first | (refine wpList_store_run HST8.out rfl rfl rfl rfl ?_))
                clear HST8
                refine wp_region_inv_last 16 (IFJ (FmN) (fun _ _ W => W = W8.drew)) (by kernel_rfl) (by kernel_rfl) (by kernel_rfl) (by kernel_rfl) (by kernel_rfl) ?_ ?_ ?_
                · intro x
                  exact ⟨fun j hj => (by cases hj), rfl⟩
                · intro k o hk ho b x w1 hI hbi hW
                  match k, ho with
                    | 0, ho =>
                      obtain rfl := Option.some.inj ho
                      exact gstep_move rfl (wanted0 rfl) _ rfl _ (eval_of 12 _ (by kernel_rfl) rfl) ⟨_, rfl, IFJ.step hI rfl hI.2⟩
                    | 1, ho =>
                      obtain rfl := Option.some.inj ho
                      exact gstep_move rfl (wanted0 rfl) _ rfl _ (eval_of 8 _ (by kernel_rfl) rfl) ⟨_, rfl, IFJ.step hI rfl hI.2⟩
                    | 2, ho =>
                      obtain rfl := Option.some.inj ho
                      exact gstep_bin rfl (wanted0 rfl) _ _ _ _ _ rfl _ _ (eval_at 95 1 _ (by kernel_rfl) (show 95 < 165 by decide) (hI.1 1 (hW 1 (by kernel_rfl)))) rfl _ (run_geF w1 _ _) ⟨_, rfl, IFJ.step hI rfl hI.2⟩
                    | 3, ho =>
                      obtain rfl := Option.some.inj ho
                      exact gstep_bin rfl (wanted0 rfl) _ _ _ _ _ rfl _ _ (eval_at 94 0 _ (by kernel_rfl) (show 94 < 165 by decide) (hI.1 0 (hW 0 (by kernel_rfl)))) (eval_at 96 2 _ (by kernel_rfl) (show 96 < 165 by decide) (hI.1 2 (hW 2 (by kernel_rfl)))) _ (run_nbb w1 _ _ _) ⟨_, rfl, IFJ.step hI rfl hI.2⟩
                    | 4, ho =>
                      obtain rfl := Option.some.inj ho
                      exact gstep_move rfl (wanted0 rfl) _ rfl _ (eval_at 97 3 _ (by kernel_rfl) (show 97 < 165 by decide) (hI.1 3 (hW 3 (by kernel_rfl)))) ⟨_, rfl, IFJ.step hI rfl hI.2⟩
                    | 5, ho =>
                      obtain rfl := Option.some.inj ho
                      exact gstep_move rfl (wanted_at 98 4 false _ true rfl (by kernel_rfl) (show 98 < 165 by decide) (hI.1 4 (hW 4 (by kernel_rfl))) rfl) _ rfl _ (eval_of 12 _ (by kernel_rfl) rfl) ⟨_, rfl, IFJ.step hI rfl hI.2⟩
                    | 6, ho =>
                      obtain rfl := Option.some.inj ho
                      exact gstep_move rfl (wanted_at 98 4 false _ true rfl (by kernel_rfl) (show 98 < 165 by decide) (hI.1 4 (hW 4 (by kernel_rfl))) rfl) _ rfl _ (eval_at 99 5 _ (by kernel_rfl) (show 99 < 165 by decide) (hI.1 5 (hW 5 (by kernel_rfl)))) ⟨_, rfl, IFJ.step hI rfl hI.2⟩
                    | 7, ho =>
                      obtain rfl := Option.some.inj ho
                      exact gstep_skip rfl (wanted_at 100 6 true _ false rfl (by kernel_rfl) (show 100 < 165 by decide) (hI.1 6 (hW 6 (by kernel_rfl))) rfl) ⟨_, rfl, IFJ.step hI rfl hI.2⟩
                    | 8, ho =>
                      obtain rfl := Option.some.inj ho
                      exact gstep_skip rfl (wanted_at 100 6 true _ false rfl (by kernel_rfl) (show 100 < 165 by decide) (hI.1 6 (hW 6 (by kernel_rfl))) rfl) ⟨_, rfl, IFJ.step hI rfl hI.2⟩
                    | 9, ho =>
                      obtain rfl := Option.some.inj ho
                      exact gstep_skip rfl (wanted_at 100 6 true _ false rfl (by kernel_rfl) (show 100 < 165 by decide) (hI.1 6 (hW 6 (by kernel_rfl))) rfl) ⟨_, rfl, IFJ.step hI rfl hI.2⟩
                    | 10, ho =>
                      obtain rfl := Option.some.inj ho
                      exact gstep_skip rfl (wanted_at 100 6 true _ false rfl (by kernel_rfl) (show 100 < 165 by decide) (hI.1 6 (hW 6 (by kernel_rfl))) rfl) ⟨_, rfl, IFJ.step hI rfl hI.2⟩
                    | 11, ho =>
                      obtain rfl := Option.some.inj ho
                      exact gstep_skip rfl (wanted_at 100 6 true _ false rfl (by kernel_rfl) (show 100 < 165 by decide) (hI.1 6 (hW 6 (by kernel_rfl))) rfl) ⟨_, rfl, IFJ.step hI rfl hI.2⟩
                    | 12, ho =>
                      obtain rfl := Option.some.inj ho
                      exact gstep_skip rfl (wanted_at 100 6 true _ false rfl (by kernel_rfl) (show 100 < 165 by decide) (hI.1 6 (hW 6 (by kernel_rfl))) rfl) ⟨_, rfl, IFJ.step hI rfl hI.2⟩
                    | 13, ho =>
                      obtain rfl := Option.some.inj ho
                      exact gstep_skip rfl (wanted_at 100 6 true _ false rfl (by kernel_rfl) (show 100 < 165 by decide) (hI.1 6 (hW 6 (by kernel_rfl))) rfl) ⟨_, rfl, IFJ.step hI rfl hI.2⟩
                    | 14, ho =>
                      obtain rfl := Option.some.inj ho
                      exact gstep_skip rfl (wanted_at 100 6 true _ false rfl (by kernel_rfl) (show 100 < 165 by decide) (hI.1 6 (hW 6 (by kernel_rfl))) rfl) ⟨_, rfl, IFJ.step hI rfl hI.2⟩
                    | 15, ho =>
                      obtain rfl := Option.some.inj ho
                      exact gstep_pick rfl (wanted_at 98 4 false _ true rfl (by kernel_rfl) (show 98 < 165 by decide) (hI.1 4 (hW 4 (by kernel_rfl))) rfl) _ _ _ rfl _ (eval_at 100 6 _ (by kernel_rfl) (show 100 < 165 by decide) (hI.1 6 (hW 6 (by kernel_rfl)))) _ (if_neg (by decide)) ⟨_, rfl, IFJ.step hI rfl hI.2⟩
                    | n + 16, ho => omega
                · intro o ho bq x w1 hI hA
                  obtain rfl := Option.some.inj ho
                  refine gstep_pick rfl (wanted0 rfl) _ _ _ rfl _ (eval_at 98 4 _ (by kernel_rfl) (show 98 < 165 by decide) (hI.1 4 (hA 4 (by decide)))) _ ((if_neg (by decide)).trans (eval_at 109 15 _ (by kernel_rfl) (show 109 < 165 by decide) (hI.1 15 (hA 15 (by decide))))) ?_
                  simp only [putAll, Act.put, List.setIfInBounds_toArray, List.set_cons_succ, List.set_cons_zero]
                  obtain rfl := hI.2
                  clear hI hA
                  go_upto_region 35 with fail
                  have hnx := HNX.out
                  have hrx := HRX.out
                  obtain ⟨l, hl⟩ : ∃ l, l = (F).length := ⟨_, rfl⟩
                  have HLN := Lib.hid hnx.nlen
                  have HNW := Lib.hid hnx.nnow
                  rw [← hl] at HLN
                  obtain ⟨a8, c8, hv8, _⟩ := hrx.form
                  rw [List.length_map, ← hl] at hv8
                  have HV8 := Lib.hid hv8
                  have HL8 := Lib.hid hl
                  clear hl hnx hrx
                  obtain rfl := HL8.out
                  go_wp2_with fail
                  refine HLN.out.mono ?_
                  rintro e w20 ⟨rfl, rfl⟩
                  go_wp2_with fail
                  refine HNW.out.mono ?_
                  rintro e w21 ⟨rfl, rfl⟩
                  clear HLN HNW
                  go_wp2_with fail
                  go_roundw
                  case rel => exact ⟨i + 1, now, F, sent, rfl, by rw [e26]; rfl, hlt, Lib.hid ⟨by have := HR.out.nw; omega, by have := HR.out.fl; omega, by have := HR.out.st; push_cast; omega, HNX.out, HRX.out, HBX.out⟩⟩
                  case measure =>
                    show n - (intOf (.int .i64 (wrap64 ((i : Int) + 1)))).toNat < n - (intOf (.int .i64 (i : Int))).toNat
                    rw [e26]
                    simp [intOf]; omega
              · obtain ⟨m, hbm⟩ : ∃ m : Nat, b = (m : Int) := by
                  rcases hbi with ⟨e, _⟩ | ⟨m, e, _⟩
                  · exact absurd e hbn
                  · exact ⟨m, e⟩
                subst hbm
                clear hbn
                obtain ⟨hm, hF, hdu, hA, hB⟩ := best_some hbi
                obtain ⟨f, hf⟩ : ∃ f, f = F[m] := ⟨_, rfl⟩
                rw [← hf] at hF hdu hA hB
                have hn3 := HN3.out
                rw [hF] at hn3
                have HNX0 := Lib.hid (NetX.next hn3 hdu hA hB)
                obtain ⟨g, rfl, hg, hcells⟩ := HWF.out (by omega)
                have hcm := (hcells m hm).2
                obtain ⟨ix, hix⟩ : ∃ x, x = f.m.ix := ⟨_, rfl⟩
                have hkm : ((F.map keyF).getD m (0, 0)).2 = ix := by rw [key_at hm, ← hf, hix]; rfl
                rw [hkm] at hcm
                have HCM := Lib.hid hcm
                have HHG := Lib.hid hg
                have HIX := Lib.hid hix
                have HML := Lib.hid hm
                have HLL : Hid (F.length ≤ 2000) := Lib.hid (by have := HFL.out; omega)
                have HFF := Lib.hid hF
                clear hF hdu hA hB hf hn3 hg hcells hcm hix hkm hm hbi
                go_wp2_with fail
                refine HNX0.out.mono ?_
                rintro e w7 ⟨rfl, N7, b7, k7⟩
                obtain ⟨W8, hst8, N8, M8, b8, s8⟩ := got_new N7 f.un f.uc f.vn f.vc f.ua f.va f.m
                have c4 := M8.cells.1.2.2.2.2.1
                rw [← HIX.out] at c4
                have HM4 : Hid (W8.drew.cell? ⟨w7.heap.size, 4, none⟩ = some (.int .i64 ix)) := Lib.hid c4
                unfold mgV at hst8
                have HST8 := Lib.hid hst8
                have HN8 : Hid (NetX W8 nb nb now sent (F.take m ++ F.drop (m + 1))) := Lib.hid N8
                have HR8 : Hid (IRow W8 nb (.slice (some ⟨g, 0, none⟩) F.length wc) (F.map keyF)) := Lib.hid ((HR3.out.keepT k7).below b8)
                have HB7 := Lib.hid (HB3.out.trans (b7.mono HS1.out))
                have HB8 : Hid (Below W.heap.size W W8) := Lib.hid (HB7.out.trans (b8.mono HB7.out.size))
                have HG1 : Hid (W8.drew.cell? ⟨g, m * 2 + 1, none⟩ = some (.int .i64 ix)) := Lib.hid (by
                  obtain ⟨a', c', e', _, hh⟩ := HR8.out.form
                  obtain ⟨g', e1, _, h2⟩ := hh (by rw [List.length_map]; have := HML.out; omega)
                  injection e' with e2 _ _
                  rw [← e2] at e1
                  injection e1 with e1
                  injection e1 with e1 _ _
                  subst e1
                  have h3 := (h2 m (by rw [List.length_map]; exact HML.out)).2
                  have hf : F[m]'HML.out = f := by
                    have h5 := HFF.out
                    have h6 : (F.take m ++ f :: F.drop (m + 1))[m]? = some f := by
                      rw [List.getElem?_append_right (by rw [List.length_take]; omega), List.length_take, show m - min m F.length = 0 by have := HML.out; omega]; rfl
                    rw [← h5, List.getElem?_eq_getElem HML.out] at h6
                    exact Option.some.inj h6
                  rw [key_at HML.out, hf] at h3
                  rw [show (keyF f).2 = ix from HIX.out.symm] at h3
                  exact h3)
                clear HNX0 HN3 HR3 HB3 N7 b7 k7 hst8 N8 M8 b8 s8 c4
                unfold mgV Fl.u Fl.v
                go_upto_region 28 with (first | (refine wpList_store_run HST8.out rfl rfl rfl rfl ?_))
                clear HST8
                refine wp_region_inv_last 16 (IFJ (FmS w7.heap.size g F.length wc m ix) (fun _ _ W => W = W8.drew)) (by kernel_rfl) (by kernel_rfl) (by kernel_rfl) (by kernel_rfl) (by kernel_rfl) ?_ ?_ ?_
                · intro x
                  exact ⟨fun j hj => (by cases hj), rfl⟩
                · intro k o hk ho b x w1 hI hbi hW
                  match k, ho with
                    | 0, ho =>
                      obtain rfl := Option.some.inj ho
                      exact gstep_move rfl (wanted0 rfl) _ rfl _ (eval_of 12 _ (by kernel_rfl) rfl) ⟨_, rfl, IFJ.step hI rfl hI.2⟩
                    | 1, ho =>
                      obtain rfl := Option.some.inj ho
                      exact gstep_move rfl (wanted0 rfl) _ rfl _ (eval_of 8 _ (by kernel_rfl) rfl) ⟨_, rfl, IFJ.step hI rfl hI.2⟩
                    | 2, ho =>
                      obtain rfl := Option.some.inj ho
                      exact gstep_bin rfl (wanted0 rfl) _ _ _ _ _ rfl _ _ (eval_at 95 1 _ (by kernel_rfl) (show 95 < 165 by decide) (hI.1 1 (hW 1 (by kernel_rfl)))) rfl _ (run_geT w1 _ _ _) ⟨_, rfl, IFJ.step hI rfl hI.2⟩
                    | 3, ho =>
                      obtain rfl := Option.some.inj ho
                      exact gstep_bin rfl (wanted0 rfl) _ _ _ _ _ rfl _ _ (eval_at 94 0 _ (by kernel_rfl) (show 94 < 165 by decide) (hI.1 0 (hW 0 (by kernel_rfl)))) (eval_at 96 2 _ (by kernel_rfl) (show 96 < 165 by decide) (hI.1 2 (hW 2 (by kernel_rfl)))) _ (run_nbb w1 _ _ _) ⟨_, rfl, IFJ.step hI rfl hI.2⟩
                    | 4, ho =>
                      obtain rfl := Option.some.inj ho
                      exact gstep_move rfl (wanted0 rfl) _ rfl _ (eval_at 97 3 _ (by kernel_rfl) (show 97 < 165 by decide) (hI.1 3 (hW 3 (by kernel_rfl)))) ⟨_, rfl, IFJ.step hI rfl hI.2⟩
                    | 5, ho =>
                      obtain rfl := Option.some.inj ho
                      exact gstep_move rfl (wanted_at 98 4 false _ true rfl (by kernel_rfl) (show 98 < 165 by decide) (hI.1 4 (hW 4 (by kernel_rfl))) rfl) _ rfl _ (eval_of 12 _ (by kernel_rfl) rfl) ⟨_, rfl, IFJ.step hI rfl hI.2⟩
                    | 6, ho =>
                      obtain rfl := Option.some.inj ho
                      exact gstep_move rfl (wanted_at 98 4 false _ true rfl (by kernel_rfl) (show 98 < 165 by decide) (hI.1 4 (hW 4 (by kernel_rfl))) rfl) _ rfl _ (eval_at 99 5 _ (by kernel_rfl) (show 99 < 165 by decide) (hI.1 5 (hW 5 (by kernel_rfl)))) ⟨_, rfl, IFJ.step hI rfl hI.2⟩
                    | 7, ho =>
                      obtain rfl := Option.some.inj ho
                      exact gstep_field rfl (wanted_at 100 6 true _ true rfl (by kernel_rfl) (show 100 < 165 by decide) (hI.1 6 (hW 6 (by kernel_rfl))) rfl) _ _ _ rfl _ (eval_of 11 _ (by kernel_rfl) rfl) _ (run_fM4 _ _) ⟨_, rfl, IFJ.step hI rfl hI.2⟩
                    | 8, ho =>
                      obtain rfl := Option.some.inj ho
                      exact gstep_load rfl (wanted_at 100 6 true _ true rfl (by kernel_rfl) (show 100 < 165 by decide) (hI.1 6 (hW 6 (by kernel_rfl))) rfl) _ _ rfl _ (eval_at 101 7 _ (by kernel_rfl) (show 101 < 165 by decide) (hI.1 7 (hW 7 (by kernel_rfl)))) _ (run_ld w1 w7.heap.size 4 _ (by rw [hI.2]; exact HM4.out)) ⟨_, rfl, IFJ.step hI rfl hI.2⟩
                    | 9, ho =>
                      obtain rfl := Option.some.inj ho
                      exact gstep_move rfl (wanted_at 100 6 true _ true rfl (by kernel_rfl) (show 100 < 165 by decide) (hI.1 6 (hW 6 (by kernel_rfl))) rfl) _ rfl _ (eval_of 4 _ (by kernel_rfl) rfl) ⟨_, rfl, IFJ.step hI rfl hI.2⟩
                    | 10, ho =>
                      obtain rfl := Option.some.inj ho
                      exact gstep_move rfl (wanted_at 100 6 true _ true rfl (by kernel_rfl) (show 100 < 165 by decide) (hI.1 6 (hW 6 (by kernel_rfl))) rfl) _ rfl _ (eval_of 8 _ (by kernel_rfl) rfl) ⟨_, rfl, IFJ.step hI rfl hI.2⟩
                    | 11, ho =>
                      obtain rfl := Option.some.inj ho
                      exact gstep_index rfl (wanted_at 100 6 true _ true rfl (by kernel_rfl) (show 100 < 165 by decide) (hI.1 6 (hW 6 (by kernel_rfl))) rfl) _ _ _ rfl _ _ (eval_at 103 9 _ (by kernel_rfl) (show 103 < 165 by decide) (hI.1 9 (hW 9 (by kernel_rfl)))) (eval_at 104 10 _ (by kernel_rfl) (show 104 < 165 by decide) (hI.1 10 (hW 10 (by kernel_rfl)))) _ (run_iix w1 _ _ _ _ HML.out HLL.out) ⟨_, rfl, IFJ.step hI rfl hI.2⟩
                    | 12, ho =>
                      obtain rfl := Option.some.inj ho
                      exact gstep_field rfl (wanted_at 100 6 true _ true rfl (by kernel_rfl) (show 100 < 165 by decide) (hI.1 6 (hW 6 (by kernel_rfl))) rfl) _ _ _ rfl _ (eval_at 105 11 _ (by kernel_rfl) (show 105 < 165 by decide) (hI.1 11 (hW 11 (by kernel_rfl)))) _ (run_fI1 _ _) ⟨_, rfl, IFJ.step hI rfl hI.2⟩
                    | 13, ho =>
                      obtain rfl := Option.some.inj ho
                      exact gstep_load rfl (wanted_at 100 6 true _ true rfl (by kernel_rfl) (show 100 < 165 by decide) (hI.1 6 (hW 6 (by kernel_rfl))) rfl) _ _ rfl _ (eval_at 106 12 _ (by kernel_rfl) (show 106 < 165 by decide) (hI.1 12 (hW 12 (by kernel_rfl)))) _ (run_ld w1 g _ _ (by rw [hI.2]; exact HG1.out)) ⟨_, rfl, IFJ.step hI rfl hI.2⟩
                    | 14, ho =>
                      obtain rfl := Option.some.inj ho
                      exact gstep_bin rfl (wanted_at 100 6 true _ true rfl (by kernel_rfl) (show 100 < 165 by decide) (hI.1 6 (hW 6 (by kernel_rfl))) rfl) _ _ _ _ _ rfl _ _ (eval_at 102 8 _ (by kernel_rfl) (show 102 < 165 by decide) (hI.1 8 (hW 8 (by kernel_rfl)))) (eval_at 107 13 _ (by kernel_rfl) (show 107 < 165 by decide) (hI.1 13 (hW 13 (by kernel_rfl)))) _ (run_nei w1 _ _ _) ⟨_, rfl, IFJ.step hI rfl hI.2⟩
                    | 15, ho =>
                      obtain rfl := Option.some.inj ho
                      exact gstep_pick rfl (wanted_at 98 4 false _ true rfl (by kernel_rfl) (show 98 < 165 by decide) (hI.1 4 (hW 4 (by kernel_rfl))) rfl) _ _ _ rfl _ (eval_at 100 6 _ (by kernel_rfl) (show 100 < 165 by decide) (hI.1 6 (hW 6 (by kernel_rfl)))) _ ((if_pos rfl).trans (eval_at 108 14 _ (by kernel_rfl) (show 108 < 165 by decide) (hI.1 14 (hW 14 (by kernel_rfl))))) ⟨_, rfl, IFJ.step hI rfl hI.2⟩
                    | n + 16, ho => omega
                · intro o ho bq x w1 hI hA
                  obtain rfl := Option.some.inj ho
                  refine gstep_pick rfl (wanted0 rfl) _ _ _ rfl _ (eval_at 98 4 _ (by kernel_rfl) (show 98 < 165 by decide) (hI.1 4 (hA 4 (by decide)))) _ ((if_neg (by decide)).trans (eval_at 109 15 _ (by kernel_rfl) (show 109 < 165 by decide) (hI.1 15 (hA 15 (by decide))))) ?_
                  simp only [putAll, Act.put, List.setIfInBounds_toArray, List.set_cons_succ, List.set_cons_zero]
                  obtain rfl := hI.2
                  clear hI hA
                  go_upto_region 31 with fail
                  obtain ⟨W9, hW9⟩ : ∃ w, w = W8.drew := ⟨_, rfl⟩
                  rw [← hW9]
                  have HW9 := Lib.hid hW9
                  clear hW9

                  have HN9 : Hid (NetX W9.drew nb nb now sent (F.take m ++ F.drop (m + 1))) := Lib.hid (by rw [HW9.out]; exact HN8.out.below (Below.refl _ _).drew.drew)
                  have HRW : Hid (IRow W9.drew nb (.slice (some ⟨g, 0, none⟩) F.length wc) (F.map keyF)) := Lib.hid (by rw [HW9.out]; exact (HR8.out.below (Below.refl _ _).drew).below (Below.refl _ _).drew)
                  have HB9 : Hid (Below W.heap.size W W9.drew) := Lib.hid (by rw [HW9.out]; exact HB8.out.drew.drew)
                  have HQL : Hid ((F.map keyF).length ≤ 900) := Lib.hid (by rw [List.length_map]; have := HFL.out; omega)
                  have HMQ : Hid (m ≤ (F.map keyF).length) := Lib.hid (by rw [List.length_map]; have := HML.out; omega)
                  have HMQ1 : Hid (m + 1 ≤ (F.map keyF).length) := Lib.hid (by rw [List.length_map]; exact HML.out)
                  have HMC : Hid (m ≤ wc) := Lib.hid (by have := HML.out; have := HWC.out; omega)
                  have HM1000 : Hid (m ≤ 1000) := Lib.hid (by have := HML.out; have := HFL.out; omega)
                  obtain ⟨ad, c', hsb, had⟩ : ∃ (ad : Addr) (c' : Nat), (∀ W : World, (Instr.sliceAt 29 (.slice (some ⟨g, 0, none⟩) F.length wc) (some (.int .i64 ((m + 1 : Nat) : Int))) none none).run Try.prog W = .ok (.slice (some ad) ((F.map keyF).length - (m + 1)) c') W) ∧ ((F.map keyF).length - (m + 1) = 0 ∨ ad = ⟨g, (m + 1) * 2, none⟩) := by
                    obtain ⟨ad, c', h1, h2⟩ := run_slB g F.length wc (m + 1) HML.out HWC.out
                    rw [List.length_map]
                    exact ⟨ad, c', h1, h2⟩
                  have HSB := Lib.hid hsb
                  have HAD := Lib.hid had
                  clear hsb had
                  refine wp_region_inv_last0 10 (IFJ (FOut W9.drew.heap.size g F.length wc m (.slice (some ad) ((F.map keyF).length - (m + 1)) c')) (JOut (.slice (some ⟨g, 0, none⟩) F.length wc) W9.drew (F.map keyF) m)) (by kernel_rfl) (by kernel_rfl) (by kernel_rfl) (by kernel_rfl) (by kernel_rfl) ?_ ?_ ?_
                  · exact ⟨fun j hj => (by cases hj), ⟨rfl, .inl ⟨rfl, rfl, rfl, rfl⟩⟩⟩
                  · intro k o hk ho b x w1 hI hbi hW
                    match k, ho with
                      | 0, ho =>
                        obtain rfl := Option.some.inj ho
                        obtain ⟨hw0, hj⟩ := hI.2.first hbi
                        exact gstep_rowN rfl (wanted0 rfl) _ rfl _ _ (run_mk0 w1) ⟨_, rfl, IFJ.step hI (by rw [hw0]; rfl) (hj _)⟩
                      | 1, ho =>
                        obtain rfl := Option.some.inj ho
                        exact gstep_move rfl (wanted0 rfl) _ rfl _ (eval_at 4 10 _ (by kernel_rfl) (show 4 < 165 by decide) hI.2.pre) ⟨_, rfl, IFJ.step hI rfl (hI.2.pure (by decide) (by decide) (by decide) (by decide))⟩
                      | 2, ho =>
                        obtain rfl := Option.some.inj ho
                        exact gstep_move rfl (wanted0 rfl) _ rfl _ (eval_of 8 _ (by kernel_rfl) rfl) ⟨_, rfl, IFJ.step hI rfl (hI.2.pure (by decide) (by decide) (by decide) (by decide))⟩
                      | 3, ho =>
                        obtain rfl := Option.some.inj ho
                        exact gstep_slice1 rfl (wanted0 rfl) _ _ _ rfl _ _ (eval_at 113 1 _ (by kernel_rfl) (show 113 < 165 by decide) (hI.1 1 (hW 1 (by kernel_rfl)))) (eval_at 114 2 _ (by kernel_rfl) (show 114 < 165 by decide) (hI.1 2 (hW 2 (by kernel_rfl)))) _ (run_slA w1 g F.length wc m HMC.out) ⟨_, rfl, IFJ.step hI rfl (hI.2.pure (by decide) (by decide) (by decide) (by decide))⟩
                      | 4, ho =>
                        obtain rfl := Option.some.inj ho
                        obtain ⟨v', w', hrun, hj⟩ := hI.2.app1 hbi (hW 0 (by kernel_rfl)) HQL.out HMQ.out HRW.out
                        exact gstep_appT rfl (wanted0 rfl) _ _ _ rfl _ _ (eval_at 112 0 _ (by kernel_rfl) (show 112 < 165 by decide) (hI.1 0 (hW 0 (by kernel_rfl)))) (eval_at 115 3 _ (by kernel_rfl) (show 115 < 165 by decide) (hI.1 3 (hW 3 (by kernel_rfl)))) _ _ (hrun _ rfl) ⟨_, rfl, IFJ.step hI trivial hj⟩
                      | 5, ho =>
                        obtain rfl := Option.some.inj ho
                        exact gstep_move rfl (wanted0 rfl) _ rfl _ (eval_at 4 10 _ (by kernel_rfl) (show 4 < 165 by decide) hI.2.pre) ⟨_, rfl, IFJ.step hI rfl (hI.2.pure (by decide) (by decide) (by decide) (by decide))⟩
                      | 6, ho =>
                        obtain rfl := Option.some.inj ho
                        exact gstep_move rfl (wanted0 rfl) _ rfl _ (eval_of 8 _ (by kernel_rfl) rfl) ⟨_, rfl, IFJ.step hI rfl (hI.2.pure (by decide) (by decide) (by decide) (by decide))⟩
                      | 7, ho =>
                        obtain rfl := Option.some.inj ho
                        exact gstep_bin rfl (wanted0 rfl) _ _ _ _ _ rfl _ _ (eval_at 118 6 _ (by kernel_rfl) (show 118 < 165 by decide) (hI.1 6 (hW 6 (by kernel_rfl)))) rfl _ (run_add1 w1 m HM1000.out _ _) ⟨_, rfl, IFJ.step hI rfl (hI.2.pure (by decide) (by decide) (by decide) (by decide))⟩
                      | 8, ho =>
                        obtain rfl := Option.some.inj ho
                        exact gstep_slice2 rfl (wanted0 rfl) _ _ _ rfl _ _ (eval_at 117 5 _ (by kernel_rfl) (show 117 < 165 by decide) (hI.1 5 (hW 5 (by kernel_rfl)))) (eval_at 119 7 _ (by kernel_rfl) (show 119 < 165 by decide) (hI.1 7 (hW 7 (by kernel_rfl)))) _ (HSB.out w1) ⟨_, rfl, IFJ.step hI rfl (hI.2.pure (by decide) (by decide) (by decide) (by decide))⟩
                      | 9, ho =>
                        obtain rfl := Option.some.inj ho
                        obtain ⟨v', w', hrun, hj⟩ := hI.2.app2 hbi (hW 4 (by kernel_rfl)) HQL.out HMQ1.out HRW.out ad c' HAD.out
                        exact gstep_appT rfl (wanted0 rfl) _ _ _ rfl _ _ (eval_at 116 4 _ (by kernel_rfl) (show 116 < 165 by decide) rfl) (eval_at 120 8 _ (by kernel_rfl) (show 120 < 165 by decide) (hI.1 8 (hW 8 (by kernel_rfl)))) _ _ (hrun _ rfl) ⟨_, rfl, IFJ.step hI trivial hj⟩
                      | n + 10, ho => omega
                  · intro o ho b x w1 hI hA
                    obtain rfl := Option.some.inj ho
                    obtain ⟨hr9, hb9⟩ := hI.2.done (hA 9 (by decide))
                    obtain ⟨v9, hv9⟩ : ∃ v9, x 9 = v9 := ⟨_, rfl⟩
                    rw [hv9] at hr9
                    refine gstep_assign rfl (wanted0 rfl) _ rfl _ (eval_at 121 9 _ (by kernel_rfl) (show 121 < 165 by decide) hv9) ?_
                    simp only [putAll, Act.put, List.setIfInBounds_toArray, List.set_cons_succ, List.set_cons_zero]
                    have HNX : Hid (NetX w1 nb nb now sent (F.take m ++ F.drop (m + 1))) := Lib.hid (HN9.out.below hb9)
                    have HRX : Hid (IRow w1 nb v9 ((F.take m ++ F.drop (m + 1)).map keyF)) := Lib.hid (by
                      rw [List.map_append, List.map_take, List.map_drop]
                      exact hr9.less (by have := HN9.out.nb_lt; show nb ≤ W9.drew.heap.size; exact Nat.le_of_lt this.2))
                    have HBX : Hid (Below W.heap.size W w1) := Lib.hid (HB9.out.trans (hb9.mono HB9.out.size))
                    clear hI hA hr9 hb9 hv9
                    go_upto_region 35 with fail
                    have hnx := HNX.out
                    have hrx := HRX.out
                    obtain ⟨l, hl⟩ : ∃ l, l = (F.take m ++ F.drop (m + 1)).length := ⟨_, rfl⟩
                    have HLN := Lib.hid hnx.nlen
                    have HNW := Lib.hid hnx.nnow
                    rw [← hl] at HLN
                    obtain ⟨a8, c8, hv8, _⟩ := hrx.form
                    rw [List.length_map, ← hl] at hv8
                    have HV8 := Lib.hid hv8
                    have HL8 := Lib.hid hl
                    clear hl hnx hrx
                    obtain rfl := HV8.out
                    go_wp2_with fail
                    refine HLN.out.mono ?_
                    rintro e w20 ⟨rfl, rfl⟩
                    go_wp2_with fail
                    refine HNW.out.mono ?_
                    rintro e w21 ⟨rfl, rfl⟩
                    clear HLN HNW
                    go_wp2_with fail
                    go_roundw
                    case rel => exact ⟨i + 1, now, F.take m ++ F.drop (m + 1), sent, rfl, by rw [e26]; rfl, hlt, Lib.hid ⟨by have := HR.out.nw; omega, by rw [List.length_append, List.length_take, List.length_drop]; have := HR.out.fl; omega, by have := HR.out.st; push_cast; omega, HNX.out, HRX.out, HBX.out⟩⟩
                    case measure =>
                      show n - (intOf (.int .i64 (wrap64 ((i : Int) + 1)))).toNat < n - (intOf (.int .i64 (i : Int))).toNat
                      rw [e26]
                      simp [intOf]; omega
        · have hk : wrap64 ((IntKind.u64.wrap ak).tmod 6) = 3 := by rw [kind6_form, hku]; rfl
          clear hku

          have HNA := Lib.hid NA
          have HRA := Lib.hid (HROW.out.below HAB.out.2)
          have HBA := Lib.hid (HR.out.bel.trans (HAB.out.2.mono HR.out.bel.size))
          have HWR := Lib.hid HAB.out.2
          have HFL : Hid (F.length ≤ 200) := Lib.hid (by have := HR.out.fl; have := HN200.out; omega)
          clear NA
          go_wp2_with (first | (refine wpList_store_run HST.out rfl rfl rfl rfl ?_))
          clear HST ca0 ca1 c0 c1
          go_loopw [8, 64] (fun bv kv wx => ∃ (k : Nat) (b : Int), bv = .int .i64 b ∧ kv = .int .i64 k ∧ k ≤ F.length ∧ Hid (BestI (F.map keyF) now k b) ∧ Hid (Below WA.heap.size WA wx)) (fun _ kv _ => F.length - (intOf kv).toNat)
          case atStart => exact ⟨0, -1, rfl, rfl, Nat.zero_le _, Lib.hid BestI.start, Lib.hid (Below.refl _ _)⟩
          case round =>
            obtain ⟨k, b, rfl, rfl, hkl, HBI, HBX⟩ := hrel
            by_cases hlk : k < F.length
            · have hlk2 : decide ((k : Int) < (F.length : Int)) = true := by simp; omega
              obtain ⟨g, rfl, hg, hcells⟩ := HWF.out (by omega)
              obtain ⟨hcc0, hcc1⟩ := hcells k hlk
              obtain ⟨due, hdue⟩ : ∃ x, x = ((F.map keyF).getD k (0, 0)).1 := ⟨_, rfl⟩
              obtain ⟨idn, hidn⟩ : ∃ x, x = ((F.map keyF).getD k (0, 0)).2 := ⟨_, rfl⟩
              rw [← hdue] at hcc0
              rw [← hidn] at hcc1
              have hgA : g < WA.heap.size := Nat.lt_of_lt_of_le hg HWR.out.size
              have cx0 := (HBX.out.cell (p := ⟨g, k * 2, none⟩) hgA).trans ((HWR.out.cell (p := ⟨g, k * 2, none⟩) hg).trans hcc0)
              have cx1 := (HBX.out.cell (p := ⟨g, k * 2 + 1, none⟩) hgA).trans ((HWR.out.cell (p := ⟨g, k * 2 + 1, none⟩) hg).trans hcc1)
              obtain ⟨W5, hst5, hcell5, hb5⟩ := new_item wr due idn
              have HST5 := Lib.hid hst5
              have HX0 := Lib.hid (show W5.drew.cell? ⟨wr.heap.size, 0, none⟩ = some (.int .i64 due) from (two_cells hcell5).1)
              have HB5 := Lib.hid (HBX.out.trans (hb5.mono HBX.out.size))
              have hk0 : (0 : Int) ≤ (k : Int) := by omega
              have hk1 : (k : Int) < (F.length : Int) := by omega
              have ek : wrap64 ((k : Int) + 1) = (k : Int) + 1 := IntWalk.wrap64_in _ (by have := HFL.out; omega)
              have HHC := Lib.hid hcells
              have HHG := Lib.hid hg
              have HGA := Lib.hid hgA
              have HDUE := Lib.hid hdue
              have HBD : Hid (Below WA.heap.size WA W5.drew) := Lib.hid HB5.out.drew
              have HLK := Lib.hid hlk
              clear hst5 hcell5 hb5 hcells hcc0 hcc1 hg hgA hdue hidn hkl
              by_cases hle : due ≤ (now : Int)
              · have HLE : Hid (decide (due ≤ (now : Int)) = true) := Lib.hid (decide_eq_true hle)
                have HLE2 := Lib.hid hle
                clear hle
                by_cases hbn : b = -1
                · obtain rfl := hbn
                  go_upto_region 24 with (first | (refine wpList_store_run HST5.out rfl rfl rfl rfl ?_))
                  clear HST5 cx0 cx1
                  refine wp_region_inv_last 17 (IFJ (FkB wr.heap.size due now) (fun _ _ W => W = W5.drew)) (by kernel_rfl) (by kernel_rfl) (by kernel_rfl) (by kernel_rfl) (by kernel_rfl) ?_ ?_ ?_
                  · intro x
                    exact ⟨fun j hj => (by cases hj), rfl⟩
                  · intro k o hk ho b x w1 hI hbi hW
                    match k, ho with
                      | 0, ho =>
                        obtain rfl := Option.some.inj ho
                        exact gstep_field rfl (wanted0 rfl) _ _ _ rfl _ (eval_of 10 _ (by kernel_rfl) rfl) _ (run_fI0 _ _) ⟨_, rfl, IFJ.step hI rfl hI.2⟩
                      | 1, ho =>
                        obtain rfl := Option.some.inj ho
                        exact gstep_load rfl (wanted0 rfl) _ _ rfl _ (eval_at 69 0 _ (by kernel_rfl) (show 69 < 165 by decide) (hI.1 0 (hW 0 (by kernel_rfl)))) _ (run_ld w1 wr.heap.size 0 _ (by rw [hI.2]; exact HX0.out)) ⟨_, rfl, IFJ.step hI rfl hI.2⟩
                      | 2, ho =>
                        obtain rfl := Option.some.inj ho
                        exact gstep_move rfl (wanted0 rfl) _ rfl _ (eval_of 5 _ (by kernel_rfl) rfl) ⟨_, rfl, IFJ.step hI rfl hI.2⟩
                      | 3, ho =>
                        obtain rfl := Option.some.inj ho
                        exact gstep_bin rfl (wanted0 rfl) _ _ _ _ _ rfl _ _ (eval_at 70 1 _ (by kernel_rfl) (show 70 < 165 by decide) (hI.1 1 (hW 1 (by kernel_rfl)))) (eval_at 71 2 _ (by kernel_rfl) (show 71 < 165 by decide) (hI.1 2 (hW 2 (by kernel_rfl)))) _ (run_le w1 _ _ _ HLE.out _ _) ⟨_, rfl, IFJ.step hI rfl hI.2⟩
                      | 4, ho =>
                        obtain rfl := Option.some.inj ho
                        exact gstep_move rfl (wanted0 rfl) _ rfl _ (eval_at 72 3 _ (by kernel_rfl) (show 72 < 165 by decide) (hI.1 3 (hW 3 (by kernel_rfl)))) ⟨_, rfl, IFJ.step hI rfl hI.2⟩
                      | 5, ho =>
                        obtain rfl := Option.some.inj ho
                        exact gstep_move rfl (wanted_at 73 4 true _ true rfl (by kernel_rfl) (show 73 < 165 by decide) (hI.1 4 (hW 4 (by kernel_rfl))) rfl) _ rfl _ (eval_of 8 _ (by kernel_rfl) rfl) ⟨_, rfl, IFJ.step hI rfl hI.2⟩
                      | 6, ho =>
                        obtain rfl := Option.some.inj ho
                        exact gstep_bin rfl (wanted_at 73 4 true _ true rfl (by kernel_rfl) (show 73 < 165 by decide) (hI.1 4 (hW 4 (by kernel_rfl))) rfl) _ _ _ _ _ rfl _ _ (eval_at 74 5 _ (by kernel_rfl) (show 74 < 165 by decide) (hI.1 5 (hW 5 (by kernel_rfl)))) rfl _ (run_lsT w1 _ _) ⟨_, rfl, IFJ.step hI rfl hI.2⟩
                      | 7, ho =>
                        obtain rfl := Option.some.inj ho
                        exact gstep_move rfl (wanted_at 73 4 true _ true rfl (by kernel_rfl) (show 73 < 165 by decide) (hI.1 4 (hW 4 (by kernel_rfl))) rfl) _ rfl _ (eval_at 75 6 _ (by kernel_rfl) (show 75 < 165 by decide) (hI.1 6 (hW 6 (by kernel_rfl)))) ⟨_, rfl, IFJ.step hI rfl hI.2⟩
                      | 8, ho =>
                        obtain rfl := Option.some.inj ho
                        exact gstep_skip rfl (wanted_at 76 7 false _ false rfl (by kernel_rfl) (show 76 < 165 by decide) (hI.1 7 (hW 7 (by kernel_rfl))) rfl) ⟨_, rfl, IFJ.step hI rfl hI.2⟩
                      | 9, ho =>
                        obtain rfl := Option.some.inj ho
                        exact gstep_skip rfl (wanted_at 76 7 false _ false rfl (by kernel_rfl) (show 76 < 165 by decide) (hI.1 7 (hW 7 (by kernel_rfl))) rfl) ⟨_, rfl, IFJ.step hI rfl hI.2⟩
                      | 10, ho =>
                        obtain rfl := Option.some.inj ho
                        exact gstep_skip rfl (wanted_at 76 7 false _ false rfl (by kernel_rfl) (show 76 < 165 by decide) (hI.1 7 (hW 7 (by kernel_rfl))) rfl) ⟨_, rfl, IFJ.step hI rfl hI.2⟩
                      | 11, ho =>
                        obtain rfl := Option.some.inj ho
                        exact gstep_skip rfl (wanted_at 76 7 false _ false rfl (by kernel_rfl) (show 76 < 165 by decide) (hI.1 7 (hW 7 (by kernel_rfl))) rfl) ⟨_, rfl, IFJ.step hI rfl hI.2⟩
                      | 12, ho =>
                        obtain rfl := Option.some.inj ho
                        exact gstep_skip rfl (wanted_at 76 7 false _ false rfl (by kernel_rfl) (show 76 < 165 by decide) (hI.1 7 (hW 7 (by kernel_rfl))) rfl) ⟨_, rfl, IFJ.step hI rfl hI.2⟩
                      | 13, ho =>
                        obtain rfl := Option.some.inj ho
                        exact gstep_skip rfl (wanted_at 76 7 false _ false rfl (by kernel_rfl) (show 76 < 165 by decide) (hI.1 7 (hW 7 (by kernel_rfl))) rfl) ⟨_, rfl, IFJ.step hI rfl hI.2⟩
                      | 14, ho =>
                        obtain rfl := Option.some.inj ho
                        exact gstep_skip rfl (wanted_at 76 7 false _ false rfl (by kernel_rfl) (show 76 < 165 by decide) (hI.1 7 (hW 7 (by kernel_rfl))) rfl) ⟨_, rfl, IFJ.step hI rfl hI.2⟩
                      | 15, ho =>
                        obtain rfl := Option.some.inj ho
                        exact gstep_skip rfl (wanted_at 76 7 false _ false rfl (by kernel_rfl) (show 76 < 165 by decide) (hI.1 7 (hW 7 (by kernel_rfl))) rfl) ⟨_, rfl, IFJ.step hI rfl hI.2⟩
                      | 16, ho =>
                        obtain rfl := Option.some.inj ho
                        exact gstep_pick rfl (wanted_at 73 4 true _ true rfl (by kernel_rfl) (show 73 < 165 by decide) (hI.1 4 (hW 4 (by kernel_rfl))) rfl) _ _ _ rfl _ (eval_at 76 7 _ (by kernel_rfl) (show 76 < 165 by decide) (hI.1 7 (hW 7 (by kernel_rfl)))) _ (if_pos rfl) ⟨_, rfl, IFJ.step hI rfl hI.2⟩
                      | n + 17, ho => omega
                  · intro o ho bq x w1 hI hA
                    obtain rfl := Option.some.inj ho
                    refine gstep_pick rfl (wanted0 rfl) _ _ _ rfl _ (eval_at 73 4 _ (by kernel_rfl) (show 73 < 165 by decide) (hI.1 4 (hA 4 (by decide)))) _ ((if_pos rfl).trans (eval_at 85 16 _ (by kernel_rfl) (show 85 < 165 by decide) (hI.1 16 (hA 16 (by decide))))) ?_
                    simp only [putAll, Act.put, List.setIfInBounds_toArray, List.set_cons_succ, List.set_cons_zero]
                    obtain rfl := hI.2
                    clear hI hA
                    go_wp2_with fail
                    go_roundw
                    case rel => exact ⟨k + 1, (k : Int), rfl, by rw [ek]; rfl, HLK.out, Lib.hid (by exact HBI.out.first (by rw [← HDUE.out]; exact HLE2.out)), Lib.hid HBD.out⟩
                    case measure =>
                      have := HLK.out
                      show F.length - (intOf (.int .i64 (wrap64 ((k : Int) + 1)))).toNat < F.length - (intOf (.int .i64 (k : Int))).toNat
                      rw [ek]
                      simp [intOf]; omega
                · obtain ⟨m, hbm, hml⟩ : ∃ m : Nat, b = (m : Int) ∧ m < k := by
                    rcases HBI.out with ⟨e, _⟩ | ⟨m, e, h1, _⟩
                    · exact absurd e hbn
                    · exact ⟨m, e, h1⟩
                  subst hbm
                  obtain ⟨due2, hdue2⟩ : ∃ x, x = ((F.map keyF).getD m (0, 0)).1 := ⟨_, rfl⟩
                  have hc2 := (HHC.out m (by omega)).1
                  rw [← hdue2] at hc2
                  have HG0 : Hid (W5.drew.cell? ⟨g, m * 2, none⟩ = some (.int .i64 due2)) := Lib.hid ((HBD.out.cell (p := ⟨g, m * 2, none⟩) HGA.out).trans ((HWR.out.cell (p := ⟨g, m * 2, none⟩) HHG.out).trans hc2))
                  have HML : Hid (m < F.length) := Lib.hid (by omega)
                  have HLL : Hid (F.length ≤ 2000) := Lib.hid (by have := HFL.out; omega)
                  have HD2 := Lib.hid hdue2
                  obtain ⟨B, hB⟩ : ∃ B, B = decide (due < due2) := ⟨_, rfl⟩
                  have HLT := Lib.hid hB.symm
                  clear hbn hml hdue2 hc2 hB
                  go_upto_region 24 with (first | (refine wpList_store_run HST5.out rfl rfl rfl rfl ?_))
                  clear HST5 cx0 cx1
                  refine wp_region_inv_last 17 (IFJ (FkC wr.heap.size g F.length wc m due now due2 B) (fun _ _ W => W = W5.drew)) (by kernel_rfl) (by kernel_rfl) (by kernel_rfl) (by kernel_rfl) (by kernel_rfl) ?_ ?_ ?_
                  · intro x
                    exact ⟨fun j hj => (by cases hj), rfl⟩
                  · intro k o hk ho b x w1 hI hbi hW
                    match k, ho with
                      | 0, ho =>
                        obtain rfl := Option.some.inj ho
                        exact gstep_field rfl (wanted0 rfl) _ _ _ rfl _ (eval_of 10 _ (by kernel_rfl) rfl) _ (run_fI0 _ _) ⟨_, rfl, IFJ.step hI rfl hI.2⟩
                      | 1, ho =>
                        obtain rfl := Option.some.inj ho
                        exact gstep_load rfl (wanted0 rfl) _ _ rfl _ (eval_at 69 0 _ (by kernel_rfl) (show 69 < 165 by decide) (hI.1 0 (hW 0 (by kernel_rfl)))) _ (run_ld w1 wr.heap.size 0 _ (by rw [hI.2]; exact HX0.out)) ⟨_, rfl, IFJ.step hI rfl hI.2⟩
                      | 2, ho =>
                        obtain rfl := Option.some.inj ho
                        exact gstep_move rfl (wanted0 rfl) _ rfl _ (eval_of 5 _ (by kernel_rfl) rfl) ⟨_, rfl, IFJ.step hI rfl hI.2⟩
                      | 3, ho =>
                        obtain rfl := Option.some.inj ho
                        exact gstep_bin rfl (wanted0 rfl) _ _ _ _ _ rfl _ _ (eval_at 70 1 _ (by kernel_rfl) (show 70 < 165 by decide) (hI.1 1 (hW 1 (by kernel_rfl)))) (eval_at 71 2 _ (by kernel_rfl) (show 71 < 165 by decide) (hI.1 2 (hW 2 (by kernel_rfl)))) _ (run_le w1 _ _ _ HLE.out _ _) ⟨_, rfl, IFJ.step hI rfl hI.2⟩
                      | 4, ho =>
                        obtain rfl := Option.some.inj ho
                        exact gstep_move rfl (wanted0 rfl) _ rfl _ (eval_at 72 3 _ (by kernel_rfl) (show 72 < 165 by decide) (hI.1 3 (hW 3 (by kernel_rfl)))) ⟨_, rfl, IFJ.step hI rfl hI.2⟩
                      | 5, ho =>
                        obtain rfl := Option.some.inj ho
                        exact gstep_move rfl (wanted_at 73 4 true _ true rfl (by kernel_rfl) (show 73 < 165 by decide) (hI.1 4 (hW 4 (by kernel_rfl))) rfl) _ rfl _ (eval_of 8 _ (by kernel_rfl) rfl) ⟨_, rfl, IFJ.step hI rfl hI.2⟩
                      | 6, ho =>
                        obtain rfl := Option.some.inj ho
                        exact gstep_bin rfl (wanted_at 73 4 true _ true rfl (by kernel_rfl) (show 73 < 165 by decide) (hI.1 4 (hW 4 (by kernel_rfl))) rfl) _ _ _ _ _ rfl _ _ (eval_at 74 5 _ (by kernel_rfl) (show 74 < 165 by decide) (hI.1 5 (hW 5 (by kernel_rfl)))) rfl _ (run_lsF w1 _ _ _) ⟨_, rfl, IFJ.step hI rfl hI.2⟩
                      | 7, ho =>
                        obtain rfl := Option.some.inj ho
                        exact gstep_move rfl (wanted_at 73 4 true _ true rfl (by kernel_rfl) (show 73 < 165 by decide) (hI.1 4 (hW 4 (by kernel_rfl))) rfl) _ rfl _ (eval_at 75 6 _ (by kernel_rfl) (show 75 < 165 by decide) (hI.1 6 (hW 6 (by kernel_rfl)))) ⟨_, rfl, IFJ.step hI rfl hI.2⟩
                      | 8, ho =>
                        obtain rfl := Option.some.inj ho
                        exact gstep_field rfl (wanted_at 76 7 false _ true rfl (by kernel_rfl) (show 76 < 165 by decide) (hI.1 7 (hW 7 (by kernel_rfl))) rfl) _ _ _ rfl _ (eval_of 10 _ (by kernel_rfl) rfl) _ (run_fI0 _ _) ⟨_, rfl, IFJ.step hI rfl hI.2⟩
                      | 9, ho =>
                        obtain rfl := Option.some.inj ho
                        exact gstep_load rfl (wanted_at 76 7 false _ true rfl (by kernel_rfl) (show 76 < 165 by decide) (hI.1 7 (hW 7 (by kernel_rfl))) rfl) _ _ rfl _ (eval_at 77 8 _ (by kernel_rfl) (show 77 < 165 by decide) (hI.1 8 (hW 8 (by kernel_rfl)))) _ (run_ld w1 wr.heap.size 0 _ (by rw [hI.2]; exact HX0.out)) ⟨_, rfl, IFJ.step hI rfl hI.2⟩
                      | 10, ho =>
                        obtain rfl := Option.some.inj ho
                        exact gstep_move rfl (wanted_at 76 7 false _ true rfl (by kernel_rfl) (show 76 < 165 by decide) (hI.1 7 (hW 7 (by kernel_rfl))) rfl) _ rfl _ (eval_of 4 _ (by kernel_rfl) rfl) ⟨_, rfl, IFJ.step hI rfl hI.2⟩
                      | 11, ho =>
                        obtain rfl := Option.some.inj ho
                        exact gstep_move rfl (wanted_at 76 7 false _ true rfl (by kernel_rfl) (show 76 < 165 by decide) (hI.1 7 (hW 7 (by kernel_rfl))) rfl) _ rfl _ (eval_of 8 _ (by kernel_rfl) rfl) ⟨_, rfl, IFJ.step hI rfl hI.2⟩
                      | 12, ho =>
                        obtain rfl := Option.some.inj ho
                        exact gstep_index rfl (wanted_at 76 7 false _ true rfl (by kernel_rfl) (show 76 < 165 by decide) (hI.1 7 (hW 7 (by kernel_rfl))) rfl) _ _ _ rfl _ _ (eval_at 79 10 _ (by kernel_rfl) (show 79 < 165 by decide) (hI.1 10 (hW 10 (by kernel_rfl)))) (eval_at 80 11 _ (by kernel_rfl) (show 80 < 165 by decide) (hI.1 11 (hW 11 (by kernel_rfl)))) _ (run_iix w1 _ _ _ _ HML.out HLL.out) ⟨_, rfl, IFJ.step hI rfl hI.2⟩
                      | 13, ho =>
                        obtain rfl := Option.some.inj ho
                        exact gstep_field rfl (wanted_at 76 7 false _ true rfl (by kernel_rfl) (show 76 < 165 by decide) (hI.1 7 (hW 7 (by kernel_rfl))) rfl) _ _ _ rfl _ (eval_at 81 12 _ (by kernel_rfl) (show 81 < 165 by decide) (hI.1 12 (hW 12 (by kernel_rfl)))) _ (run_fI0 _ _) ⟨_, rfl, IFJ.step hI rfl hI.2⟩
                      | 14, ho =>
                        obtain rfl := Option.some.inj ho
                        exact gstep_load rfl (wanted_at 76 7 false _ true rfl (by kernel_rfl) (show 76 < 165 by decide) (hI.1 7 (hW 7 (by kernel_rfl))) rfl) _ _ rfl _ (eval_at 82 13 _ (by kernel_rfl) (show 82 < 165 by decide) (hI.1 13 (hW 13 (by kernel_rfl)))) _ (run_ld w1 g _ _ (by rw [hI.2]; exact HG0.out)) ⟨_, rfl, IFJ.step hI rfl hI.2⟩
                      | 15, ho =>
                        obtain rfl := Option.some.inj ho
                        exact gstep_bin rfl (wanted_at 76 7 false _ true rfl (by kernel_rfl) (show 76 < 165 by decide) (hI.1 7 (hW 7 (by kernel_rfl))) rfl) _ _ _ _ _ rfl _ _ (eval_at 78 9 _ (by kernel_rfl) (show 78 < 165 by decide) (hI.1 9 (hW 9 (by kernel_rfl)))) (eval_at 83 14 _ (by kernel_rfl) (show 83 < 165 by decide) (hI.1 14 (hW 14 (by kernel_rfl)))) _ (run_lt2 w1 _ _ _ HLT.out _ _) ⟨_, rfl, IFJ.step hI rfl hI.2⟩
                      | 16, ho =>
                        obtain rfl := Option.some.inj ho
                        exact gstep_pick rfl (wanted_at 73 4 true _ true rfl (by kernel_rfl) (show 73 < 165 by decide) (hI.1 4 (hW 4 (by kernel_rfl))) rfl) _ _ _ rfl _ (eval_at 76 7 _ (by kernel_rfl) (show 76 < 165 by decide) (hI.1 7 (hW 7 (by kernel_rfl)))) _ ((if_neg (by decide)).trans (eval_at 84 15 _ (by kernel_rfl) (show 84 < 165 by decide) (hI.1 15 (hW 15 (by kernel_rfl))))) ⟨_, rfl, IFJ.step hI rfl hI.2⟩
                      | n + 17, ho => omega
                  · intro o ho bq x w1 hI hA
                    obtain rfl := Option.some.inj ho
                    refine gstep_pick rfl (wanted0 rfl) _ _ _ rfl _ (eval_at 73 4 _ (by kernel_rfl) (show 73 < 165 by decide) (hI.1 4 (hA 4 (by decide)))) _ ((if_pos rfl).trans (eval_at 85 16 _ (by kernel_rfl) (show 85 < 165 by decide) (hI.1 16 (hA 16 (by decide))))) ?_
                    simp only [putAll, Act.put, List.setIfInBounds_toArray, List.set_cons_succ, List.set_cons_zero]
                    obtain rfl := hI.2
                    clear hI hA
                    cases B with
                    | true =>
                      go_wp2_with fail
                      go_roundw
                      case rel => exact ⟨k + 1, (k : Int), rfl, by rw [ek]; rfl, HLK.out, Lib.hid (by exact HBI.out.less (by rw [← HDUE.out]; exact HLE2.out) (by rw [← HDUE.out, ← HD2.out]; exact of_decide_eq_true HLT.out)), Lib.hid HBD.out⟩
                      case measure =>
                        have := HLK.out
                        show F.length - (intOf (.int .i64 (wrap64 ((k : Int) + 1)))).toNat < F.length - (intOf (.int .i64 (k : Int))).toNat
                        rw [ek]
                        simp [intOf]; omega
                    | false =>
                      go_wp2_with fail
                      go_roundw
                      case rel => exact ⟨k + 1, (m : Int), rfl, by rw [ek]; rfl, HLK.out, Lib.hid (by exact HBI.out.stays (by rw [← HDUE.out, ← HD2.out]; exact of_decide_eq_false HLT.out)), Lib.hid HBD.out⟩
                      case measure =>
                        have := HLK.out
                        show F.length - (intOf (.int .i64 (wrap64 ((k : Int) + 1)))).toNat < F.length - (intOf (.int .i64 (k : Int))).toNat
                        rw [ek]
                        simp [intOf]; omega
              · have HLE : Hid (decide (due ≤ (now : Int)) = false) := Lib.hid (decide_eq_false hle)
                have HLE2 := Lib.hid hle
                clear hle
                go_upto_region 24 with (first | (refine wpList_store_run HST5.out rfl rfl rfl rfl ?_))
                clear HST5 cx0 cx1
                refine wp_region_inv_last 17 (IFJ (FkA wr.heap.size due now) (fun _ _ W => W = W5.drew)) (by kernel_rfl) (by kernel_rfl) (by kernel_rfl) (by kernel_rfl) (by kernel_rfl) ?_ ?_ ?_
                · intro x
                  exact ⟨fun j hj => (by cases hj), rfl⟩
                · intro k o hk ho b x w1 hI hbi hW
                  match k, ho with
                    | 0, ho =>
                      obtain rfl := Option.some.inj ho
                      exact gstep_field rfl (wanted0 rfl) _ _ _ rfl _ (eval_of 10 _ (by kernel_rfl) rfl) _ (run_fI0 _ _) ⟨_, rfl, IFJ.step hI rfl hI.2⟩
                    | 1, ho =>
                      obtain rfl := Option.some.inj ho
                      exact gstep_load rfl (wanted0 rfl) _ _ rfl _ (eval_at 69 0 _ (by kernel_rfl) (show 69 < 165 by decide) (hI.1 0 (hW 0 (by kernel_rfl)))) _ (run_ld w1 wr.heap.size 0 _ (by rw [hI.2]; exact HX0.out)) ⟨_, rfl, IFJ.step hI rfl hI.2⟩
                    | 2, ho =>
                      obtain rfl := Option.some.inj ho
                      exact gstep_move rfl (wanted0 rfl) _ rfl _ (eval_of 5 _ (by kernel_rfl) rfl) ⟨_, rfl, IFJ.step hI rfl hI.2⟩
                    | 3, ho =>
                      obtain rfl := Option.some.inj ho
                      exact gstep_bin rfl (wanted0 rfl) _ _ _ _ _ rfl _ _ (eval_at 70 1 _ (by kernel_rfl) (show 70 < 165 by decide) (hI.1 1 (hW 1 (by kernel_rfl)))) (eval_at 71 2 _ (by kernel_rfl) (show 71 < 165 by decide) (hI.1 2 (hW 2 (by kernel_rfl)))) _ (run_le w1 _ _ _ HLE.out _ _) ⟨_, rfl, IFJ.step hI rfl hI.2⟩
                    | 4, ho =>
                      obtain rfl := Option.some.inj ho
                      exact gstep_move rfl (wanted0 rfl) _ rfl _ (eval_at 72 3 _ (by kernel_rfl) (show 72 < 165 by decide) (hI.1 3 (hW 3 (by kernel_rfl)))) ⟨_, rfl, IFJ.step hI rfl hI.2⟩
                    | 5, ho =>
                      obtain rfl := Option.some.inj ho
                      exact gstep_skip rfl (wanted_at 73 4 true _ false rfl (by kernel_rfl) (show 73 < 165 by decide) (hI.1 4 (hW 4 (by kernel_rfl))) rfl) ⟨_, rfl, IFJ.step hI rfl hI.2⟩
                    | 6, ho =>
                      obtain rfl := Option.some.inj ho
                      exact gstep_skip rfl (wanted_at 73 4 true _ false rfl (by kernel_rfl) (show 73 < 165 by decide) (hI.1 4 (hW 4 (by kernel_rfl))) rfl) ⟨_, rfl, IFJ.step hI rfl hI.2⟩
                    | 7, ho =>
                      obtain rfl := Option.some.inj ho
                      exact gstep_skip rfl (wanted_at 73 4 true _ false rfl (by kernel_rfl) (show 73 < 165 by decide) (hI.1 4 (hW 4 (by kernel_rfl))) rfl) ⟨_, rfl, IFJ.step hI rfl hI.2⟩
                    | 8, ho =>
                      obtain rfl := Option.some.inj ho
                      exact gstep_skip rfl (wanted_at 76 7 false _ false rfl (by kernel_rfl) (show 76 < 165 by decide) (hI.1 7 (hW 7 (by kernel_rfl))) rfl) ⟨_, rfl, IFJ.step hI rfl hI.2⟩
                    | 9, ho =>
                      obtain rfl := Option.some.inj ho
                      exact gstep_skip rfl (wanted_at 76 7 false _ false rfl (by kernel_rfl) (show 76 < 165 by decide) (hI.1 7 (hW 7 (by kernel_rfl))) rfl) ⟨_, rfl, IFJ.step hI rfl hI.2⟩
                    | 10, ho =>
                      obtain rfl := Option.some.inj ho
                      exact gstep_skip rfl (wanted_at 76 7 false _ false rfl (by kernel_rfl) (show 76 < 165 by decide) (hI.1 7 (hW 7 (by kernel_rfl))) rfl) ⟨_, rfl, IFJ.step hI rfl hI.2⟩
                    | 11, ho =>
                      obtain rfl := Option.some.inj ho
                      exact gstep_skip rfl (wanted_at 76 7 false _ false rfl (by kernel_rfl) (show 76 < 165 by decide) (hI.1 7 (hW 7 (by kernel_rfl))) rfl) ⟨_, rfl, IFJ.step hI rfl hI.2⟩
                    | 12, ho =>
                      obtain rfl := Option.some.inj ho
                      exact gstep_skip rfl (wanted_at 76 7 false _ false rfl (by kernel_rfl) (show 76 < 165 by decide) (hI.1 7 (hW 7 (by kernel_rfl))) rfl) ⟨_, rfl, IFJ.step hI rfl hI.2⟩
                    | 13, ho =>
                      obtain rfl := Option.some.inj ho
                      exact gstep_skip rfl (wanted_at 76 7 false _ false rfl (by kernel_rfl) (show 76 < 165 by decide) (hI.1 7 (hW 7 (by kernel_rfl))) rfl) ⟨_, rfl, IFJ.step hI rfl hI.2⟩
                    | 14, ho =>
                      obtain rfl := Option.some.inj ho
                      exact gstep_skip rfl (wanted_at 76 7 false _ false rfl (by kernel_rfl) (show 76 < 165 by decide) (hI.1 7 (hW 7 (by kernel_rfl))) rfl) ⟨_, rfl, IFJ.step hI rfl hI.2⟩
                    | 15, ho =>
                      obtain rfl := Option.some.inj ho
                      exact gstep_skip rfl (wanted_at 76 7 false _ false rfl (by kernel_rfl) (show 76 < 165 by decide) (hI.1 7 (hW 7 (by kernel_rfl))) rfl) ⟨_, rfl, IFJ.step hI rfl hI.2⟩
                    | 16, ho =>
                      obtain rfl := Option.some.inj ho
                      exact gstep_skip rfl (wanted_at 73 4 true _ false rfl (by kernel_rfl) (show 73 < 165 by decide) (hI.1 4 (hW 4 (by kernel_rfl))) rfl) ⟨_, rfl, IFJ.step hI rfl hI.2⟩
                    | n + 17, ho => omega
                · intro o ho bq x w1 hI hA
                  obtain rfl := Option.some.inj ho
                  refine gstep_pick rfl (wanted0 rfl) _ _ _ rfl _ (eval_at 73 4 _ (by kernel_rfl) (show 73 < 165 by decide) (hI.1 4 (hA 4 (by decide)))) _ (if_neg (by decide)) ?_
                  simp only [putAll, Act.put, List.setIfInBounds_toArray, List.set_cons_succ, List.set_cons_zero]
                  obtain rfl := hI.2
                  clear hI hA
                  go_wp2_with fail
                  go_roundw
                  case rel => exact ⟨k + 1, b, rfl, by rw [ek]; rfl, HLK.out, Lib.hid (by exact HBI.out.later (by rw [← HDUE.out]; have := HLE2.out; omega)), Lib.hid HBD.out⟩
                  case measure =>
                    have := HLK.out
                    show F.length - (intOf (.int .i64 (wrap64 ((k : Int) + 1)))).toNat < F.length - (intOf (.int .i64 (k : Int))).toNat
                    rw [ek]
                    simp [intOf]; omega
            · have hlk2 : decide ((k : Int) < (F.length : Int)) = false := by simp; omega
              have hke : k = F.length := by omega
              have hbi := HBI.out
              rw [hke] at hbi
              have HN3 := Lib.hid (HNA.out.below HBX.out)
              have HR3 := Lib.hid (HRA.out.below HBX.out)
              have HB3 := Lib.hid (HBA.out.trans (HBX.out.mono HBA.out.size))
              clear hkl hke HBI
              by_cases hbn : b = -1
              · subst hbn
                have HNX0 := Lib.hid (HN3.out.late (best_none hbi))
                clear hbi
                go_wp2_with fail
                refine HNX0.out.mono ?_
                rintro e w7 ⟨rfl, N7, b7, k7⟩
                obtain ⟨W8, hst8, N8, M8, b8, s8⟩ := got_new N7 0 0 0 0 none none Mg.zero
                unfold mgV at hst8
                have HST8 := Lib.hid hst8
                have HNX : Hid (NetX W8.drew nb nb now sent F) := Lib.hid (N8.below (Below.refl _ _).drew)
                have HRX : Hid (IRow W8.drew nb (.slice wa F.length wc) (F.map keyF)) := Lib.hid (((HR3.out.keepT k7).below b8).below (Below.refl _ _).drew)
                have HB7 := Lib.hid (HB3.out.trans (b7.mono HS1.out))
                have HBX : Hid (Below W.heap.size W W8.drew) := Lib.hid ((HB7.out.trans (b8.mono HB7.out.size)).drew)
                clear HNX0 HN3 HR3 HB3 N7 b7 k7 hst8 N8 M8 b8 s8
                unfold mgV
                go_upto_region 28 with (first | (refine wpList_store_run HST8.out rfl rfl rfl rfl ?_))
                clear HST8
                refine wp_region_inv_last 16 (IFJ (FmN) (fun _ _ W => W = W8.drew)) (by kernel_rfl) (by kernel_rfl) (by kernel_rfl) (by kernel_rfl) (by kernel_rfl) ?_ ?_ ?_
                · intro x
                  exact ⟨fun j hj => (by cases hj), rfl⟩
                · intro k o hk ho b x w1 hI hbi hW
                  match k, ho with
                    | 0, ho =>
                      obtain rfl := Option.some.inj ho
                      exact gstep_move rfl (wanted0 rfl) _ rfl _ (eval_of 12 _ (by kernel_rfl) rfl) ⟨_, rfl, IFJ.step hI rfl hI.2⟩
                    | 1, ho =>
                      obtain rfl := Option.some.inj ho
                      exact gstep_move rfl (wanted0 rfl) _ rfl _ (eval_of 8 _ (by kernel_rfl) rfl) ⟨_, rfl, IFJ.step hI rfl hI.2⟩
                    | 2, ho =>
                      obtain rfl := Option.some.inj ho
                      exact gstep_bin rfl (wanted0 rfl) _ _ _ _ _ rfl _ _ (eval_at 95 1 _ (by kernel_rfl) (show 95 < 165 by decide) (hI.1 1 (hW 1 (by kernel_rfl)))) rfl _ (run_geF w1 _ _) ⟨_, rfl, IFJ.step hI rfl hI.2⟩
                    | 3, ho =>
                      obtain rfl := Option.some.inj ho
                      exact gstep_bin rfl (wanted0 rfl) _ _ _ _ _ rfl _ _ (eval_at 94 0 _ (by kernel_rfl) (show 94 < 165 by decide) (hI.1 0 (hW 0 (by kernel_rfl)))) (eval_at 96 2 _ (by kernel_rfl) (show 96 < 165 by decide) (hI.1 2 (hW 2 (by kernel_rfl)))) _ (run_nbb w1 _ _ _) ⟨_, rfl, IFJ.step hI rfl hI.2⟩
                    | 4, ho =>
                      obtain rfl := Option.some.inj ho
                      exact gstep_move rfl (wanted0 rfl) _ rfl _ (eval_at 97 3 _ (by kernel_rfl) (show 97 < 165 by decide) (hI.1 3 (hW 3 (by kernel_rfl)))) ⟨_, rfl, IFJ.step hI rfl hI.2⟩
                    | 5, ho =>
                      obtain rfl := Option.some.inj ho
                      exact gstep_move rfl (wanted_at 98 4 false _ true rfl (by kernel_rfl) (show 98 < 165 by decide) (hI.1 4 (hW 4 (by kernel_rfl))) rfl) _ rfl _ (eval_of 12 _ (by kernel_rfl) rfl) ⟨_, rfl, IFJ.step hI rfl hI.2⟩
                    | 6, ho =>
                      obtain rfl := Option.some.inj ho
                      exact gstep_move rfl (wanted_at 98 4 false _ true rfl (by kernel_rfl) (show 98 < 165 by decide) (hI.1 4 (hW 4 (by kernel_rfl))) rfl) _ rfl _ (eval_at 99 5 _ (by kernel_rfl) (show 99 < 165 by decide) (hI.1 5 (hW 5 (by kernel_rfl)))) ⟨_, rfl, IFJ.step hI rfl hI.2⟩
                    | 7, ho =>
                      obtain rfl := Option.some.inj ho
                      exact gstep_skip rfl (wanted_at 100 6 true _ false rfl (by kernel_rfl) (show 100 < 165 by decide) (hI.1 6 (hW 6 (by kernel_rfl))) rfl) ⟨_, rfl, IFJ.step hI rfl hI.2⟩
                    | 8, ho =>
                      obtain rfl := Option.some.inj ho
                      exact gstep_skip rfl (wanted_at 100 6 true _ false rfl (by kernel_rfl) (show 100 < 165 by decide) (hI.1 6 (hW 6 (by kernel_rfl))) rfl) ⟨_, rfl, IFJ.step hI rfl hI.2⟩
                    | 9, ho =>
                      obtain rfl := Option.some.inj ho
                      exact gstep_skip rfl (wanted_at 100 6 true _ false rfl (by kernel_rfl) (show 100 < 165 by decide) (hI.1 6 (hW 6 (by kernel_rfl))) rfl) ⟨_, rfl, IFJ.step hI rfl hI.2⟩
                    | 10, ho =>
                      obtain rfl := Option.some.inj ho
                      exact gstep_skip rfl (wanted_at 100 6 true _ false rfl (by kernel_rfl) (show 100 < 165 by decide) (hI.1 6 (hW 6 (by kernel_rfl))) rfl) ⟨_, rfl, IFJ.step hI rfl hI.2⟩
                    | 11, ho =>
                      obtain rfl := Option.some.inj ho
                      exact gstep_skip rfl (wanted_at 100 6 true _ false rfl (by kernel_rfl) (show 100 < 165 by decide) (hI.1 6 (hW 6 (by kernel_rfl))) rfl) ⟨_, rfl, IFJ.step hI rfl hI.2⟩
                    | 12, ho =>
                      obtain rfl := Option.some.inj ho
                      exact gstep_skip rfl (wanted_at 100 6 true _ false rfl (by kernel_rfl) (show 100 < 165 by decide) (hI.1 6 (hW 6 (by kernel_rfl))) rfl) ⟨_, rfl, IFJ.step hI rfl hI.2⟩
                    | 13, ho =>
                      obtain rfl := Option.some.inj ho
                      exact gstep_skip rfl (wanted_at 100 6 true _ false rfl (by kernel_rfl) (show 100 < 165 by decide) (hI.1 6 (hW 6 (by kernel_rfl))) rfl) ⟨_, rfl, IFJ.step hI rfl hI.2⟩
                    | 14, ho =>
                      obtain rfl := Option.some.inj ho
                      exact gstep_skip rfl (wanted_at 100 6 true _ false rfl (by kernel_rfl) (show 100 < 165 by decide) (hI.1 6 (hW 6 (by kernel_rfl))) rfl) ⟨_, rfl, IFJ.step hI rfl hI.2⟩
                    | 15, ho =>
                      obtain rfl := Option.some.inj ho
                      exact gstep_pick rfl (wanted_at 98 4 false _ true rfl (by kernel_rfl) (show 98 < 165 by decide) (hI.1 4 (hW 4 (by kernel_rfl))) rfl) _ _ _ rfl _ (eval_at 100 6 _ (by kernel_rfl) (show 100 < 165 by decide) (hI.1 6 (hW 6 (by kernel_rfl)))) _ (if_neg (by decide)) ⟨_, rfl, IFJ.step hI rfl hI.2⟩
                    | n + 16, ho => omega
                · intro o ho bq x w1 hI hA
                  obtain rfl := Option.some.inj ho
                  refine gstep_pick rfl (wanted0 rfl) _ _ _ rfl _ (eval_at 98 4 _ (by kernel_rfl) (show 98 < 165 by decide) (hI.1 4 (hA 4 (by decide)))) _ ((if_neg (by decide)).trans (eval_at 109 15 _ (by kernel_rfl) (show 109 < 165 by decide) (hI.1 15 (hA 15 (by decide))))) ?_
                  simp only [putAll, Act.put, List.setIfInBounds_toArray, List.set_cons_succ, List.set_cons_zero]
                  obtain rfl := hI.2
                  clear hI hA
                  go_upto_region 35 with fail
                  have hnx := HNX.out
                  have hrx := HRX.out
                  obtain ⟨l, hl⟩ : ∃ l, l = (F).length := ⟨_, rfl⟩
                  have HLN := Lib.hid hnx.nlen
                  have HNW := Lib.hid hnx.nnow
                  rw [← hl] at HLN
                  obtain ⟨a8, c8, hv8, _⟩ := hrx.form
                  rw [List.length_map, ← hl] at hv8
                  have HV8 := Lib.hid hv8
                  have HL8 := Lib.hid hl
                  clear hl hnx hrx
                  obtain rfl := HL8.out
                  go_wp2_with fail
                  refine HLN.out.mono ?_
                  rintro e w20 ⟨rfl, rfl⟩
                  go_wp2_with fail
                  refine HNW.out.mono ?_
                  rintro e w21 ⟨rfl, rfl⟩
                  clear HLN HNW
                  go_wp2_with fail
                  go_roundw
                  case rel => exact ⟨i + 1, now, F, sent, rfl, by rw [e26]; rfl, hlt, Lib.hid ⟨by have := HR.out.nw; omega, by have := HR.out.fl; omega, by have := HR.out.st; push_cast; omega, HNX.out, HRX.out, HBX.out⟩⟩
                  case measure =>
                    show n - (intOf (.int .i64 (wrap64 ((i : Int) + 1)))).toNat < n - (intOf (.int .i64 (i : Int))).toNat
                    rw [e26]
                    simp [intOf]; omega
              · obtain ⟨m, hbm⟩ : ∃ m : Nat, b = (m : Int) := by
                  rcases hbi with ⟨e, _⟩ | ⟨m, e, _⟩
                  · exact absurd e hbn
                  · exact ⟨m, e⟩
                subst hbm
                clear hbn
                obtain ⟨hm, hF, hdu, hA, hB⟩ := best_some hbi
                obtain ⟨f, hf⟩ : ∃ f, f = F[m] := ⟨_, rfl⟩
                rw [← hf] at hF hdu hA hB
                have hn3 := HN3.out
                rw [hF] at hn3
                have HNX0 := Lib.hid (NetX.next hn3 hdu hA hB)
                obtain ⟨g, rfl, hg, hcells⟩ := HWF.out (by omega)
                have hcm := (hcells m hm).2
                obtain ⟨ix, hix⟩ : ∃ x, x = f.m.ix := ⟨_, rfl⟩
                have hkm : ((F.map keyF).getD m (0, 0)).2 = ix := by rw [key_at hm, ← hf, hix]; rfl
                rw [hkm] at hcm
                have HCM := Lib.hid hcm
                have HHG := Lib.hid hg
                have HIX := Lib.hid hix
                have HML := Lib.hid hm
                have HLL : Hid (F.length ≤ 2000) := Lib.hid (by have := HFL.out; omega)
                have HFF := Lib.hid hF
                clear hF hdu hA hB hf hn3 hg hcells hcm hix hkm hm hbi
                go_wp2_with fail
                refine HNX0.out.mono ?_
                rintro e w7 ⟨rfl, N7, b7, k7⟩
                obtain ⟨W8, hst8, N8, M8, b8, s8⟩ := got_new N7 f.un f.uc f.vn f.vc f.ua f.va f.m
                have c4 := M8.cells.1.2.2.2.2.1
                rw [← HIX.out] at c4
                have HM4 : Hid (W8.drew.cell? ⟨w7.heap.size, 4, none⟩ = some (.int .i64 ix)) := Lib.hid c4
                unfold mgV at hst8
                have HST8 := Lib.hid hst8
                have HN8 : Hid (NetX W8 nb nb now sent (F.take m ++ F.drop (m + 1))) := Lib.hid N8
                have HR8 : Hid (IRow W8 nb (.slice (some ⟨g, 0, none⟩) F.length wc) (F.map keyF)) := Lib.hid ((HR3.out.keepT k7).below b8)
                have HB7 := Lib.hid (HB3.out.trans (b7.mono HS1.out))
                have HB8 : Hid (Below W.heap.size W W8) := Lib.hid (HB7.out.trans (b8.mono HB7.out.size))
                have HG1 : Hid (W8.drew.cell? ⟨g, m * 2 + 1, none⟩ = some (.int .i64 ix)) := Lib.hid (by
                  obtain ⟨a', c', e', _, hh⟩ := HR8.out.form
                  obtain ⟨g', e1, _, h2⟩ := hh (by rw [List.length_map]; have := HML.out; omega)
                  injection e' with e2 _ _
                  rw [← e2] at e1
                  injection e1 with e1
                  injection e1 with e1 _ _
                  subst e1
                  have h3 := (h2 m (by rw [List.length_map]; exact HML.out)).2
                  have hf : F[m]'HML.out = f := by
                    have h5 := HFF.out
                    have h6 : (F.take m ++ f :: F.drop (m + 1))[m]? = some f := by
                      rw [List.getElem?_append_right (by rw [List.length_take]; omega), List.length_take, show m - min m F.length = 0 by have := HML.out; omega]; rfl
                    rw [← h5, List.getElem?_eq_getElem HML.out] at h6
                    exact Option.some.inj h6
                  rw [key_at HML.out, hf] at h3
                  rw [show (keyF f).2 = ix from HIX.out.symm] at h3
                  exact h3)
                clear HNX0 HN3 HR3 HB3 N7 b7 k7 hst8 N8 M8 b8 s8 c4
                unfold mgV Fl.u Fl.v
                go_upto_region 28 with (first | (refine wpList_store_run HST8.out rfl rfl rfl rfl ?_))
                clear HST8
                refine wp_region_inv_last 16 (IFJ (FmS w7.heap.size g F.length wc m ix) (fun _ _ W => W = W8.drew)) (by kernel_rfl) (by kernel_rfl) (by kernel_rfl) (by kernel_rfl) (by kernel_rfl) ?_ ?_ ?_
                · intro x
                  exact ⟨fun j hj => (by cases hj), rfl⟩
                · intro k o hk ho b x w1 hI hbi hW
                  match k, ho with
                    | 0, ho =>
                      obtain rfl := Option.some.inj ho
                      exact gstep_move rfl (wanted0 rfl) _ rfl _ (eval_of 12 _ (by kernel_rfl) rfl) ⟨_, rfl, IFJ.step hI rfl hI.2⟩
                    | 1, ho =>
                      obtain rfl := Option.some.inj ho
                      exact gstep_move rfl (wanted0 rfl) _ rfl _ (eval_of 8 _ (by kernel_rfl) rfl) ⟨_, rfl, IFJ.step hI rfl hI.2⟩
                    | 2, ho =>
                      obtain rfl := Option.some.inj ho
                      exact gstep_bin rfl (wanted0 rfl) _ _ _ _ _ rfl _ _ (eval_at 95 1 _ (by kernel_rfl) (show 95 < 165 by decide) (hI.1 1 (hW 1 (by kernel_rfl)))) rfl _ (run_geT w1 _ _ _) ⟨_, rfl, IFJ.step hI rfl hI.2⟩
                    | 3, ho =>
                      obtain rfl := Option.some.inj ho
                      exact gstep_bin rfl (wanted0 rfl) _ _ _ _ _ rfl _ _ (eval_at 94 0 _ (by kernel_rfl) (show 94 < 165 by decide) (hI.1 0 (hW 0 (by kernel_rfl)))) (eval_at 96 2 _ (by kernel_rfl) (show 96 < 165 by decide) (hI.1 2 (hW 2 (by kernel_rfl)))) _ (run_nbb w1 _ _ _) ⟨_, rfl, IFJ.step hI rfl hI.2⟩
                    | 4, ho =>
                      obtain rfl := Option.some.inj ho
                      exact gstep_move rfl (wanted0 rfl) _ rfl _ (eval_at 97 3 _ (by kernel_rfl) (show 97 < 165 by decide) (hI.1 3 (hW 3 (by kernel_rfl)))) ⟨_, rfl, IFJ.step hI rfl hI.2⟩
                    | 5, ho =>
                      obtain rfl := Option.some.inj ho
                      exact gstep_move rfl (wanted_at 98 4 false _ true rfl (by kernel_rfl) (show 98 < 165 by decide) (hI.1 4 (hW 4 (by kernel_rfl))) rfl) _ rfl _ (eval_of 12 _ (by kernel_rfl) rfl) ⟨_, rfl, IFJ.step hI rfl hI.2⟩
                    | 6, ho =>
                      obtain rfl := Option.some.inj ho
                      exact gstep_move rfl (wanted_at 98 4 false _ true rfl (by kernel_rfl) (show 98 < 165 by decide) (hI.1 4 (hW 4 (by kernel_rfl))) rfl) _ rfl _ (eval_at 99 5 _ (by kernel_rfl) (show 99 < 165 by decide) (hI.1 5 (hW 5 (by kernel_rfl)))) ⟨_, rfl, IFJ.step hI rfl hI.2⟩
                    | 7, ho =>
                      obtain rfl := Option.some.inj ho
                      exact gstep_field rfl (wanted_at 100 6 true _ true rfl (by kernel_rfl) (show 100 < 165 by decide) (hI.1 6 (hW 6 (by kernel_rfl))) rfl) _ _ _ rfl _ (eval_of 11 _ (by kernel_rfl) rfl) _ (run_fM4 _ _) ⟨_, rfl, IFJ.step hI rfl hI.2⟩
                    | 8, ho =>
                      obtain rfl := Option.some.inj ho
                      exact gstep_load rfl (wanted_at 100 6 true _ true rfl (by kernel_rfl) (show 100 < 165 by decide) (hI.1 6 (hW 6 (by kernel_rfl))) rfl) _ _ rfl _ (eval_at 101 7 _ (by kernel_rfl) (show 101 < 165 by decide) (hI.1 7 (hW 7 (by kernel_rfl)))) _ (run_ld w1 w7.heap.size 4 _ (by rw [hI.2]; exact HM4.out)) ⟨_, rfl, IFJ.step hI rfl hI.2⟩
                    | 9, ho =>
                      obtain rfl := Option.some.inj ho
                      exact gstep_move rfl (wanted_at 100 6 true _ true rfl (by kernel_rfl) (show 100 < 165 by decide) (hI.1 6 (hW 6 (by kernel_rfl))) rfl) _ rfl _ (eval_of 4 _ (by kernel_rfl) rfl) ⟨_, rfl, IFJ.step hI rfl hI.2⟩
                    | 10, ho =>
                      obtain rfl := Option.some.inj ho
                      exact gstep_move rfl (wanted_at 100 6 true _ true rfl (by kernel_rfl) (show 100 < 165 by decide) (hI.1 6 (hW 6 (by kernel_rfl))) rfl) _ rfl _ (eval_of 8 _ (by kernel_rfl) rfl) ⟨_, rfl, IFJ.step hI rfl hI.2⟩
                    | 11, ho =>
                      obtain rfl := Option.some.inj ho
                      exact gstep_index rfl (wanted_at 100 6 true _ true rfl (by kernel_rfl) (show 100 < 165 by decide) (hI.1 6 (hW 6 (by kernel_rfl))) rfl) _ _ _ rfl _ _ (eval_at 103 9 _ (by kernel_rfl) (show 103 < 165 by decide) (hI.1 9 (hW 9 (by kernel_rfl)))) (eval_at 104 10 _ (by kernel_rfl) (show 104 < 165 by decide) (hI.1 10 (hW 10 (by kernel_rfl)))) _ (run_iix w1 _ _ _ _ HML.out HLL.out) ⟨_, rfl, IFJ.step hI rfl hI.2⟩
                    | 12, ho =>
                      obtain rfl := Option.some.inj ho
                      exact gstep_field rfl (wanted_at 100 6 true _ true rfl (by kernel_rfl) (show 100 < 165 by decide) (hI.1 6 (hW 6 (by kernel_rfl))) rfl) _ _ _ rfl _ (eval_at 105 11 _ (by kernel_rfl) (show 105 < 165 by decide) (hI.1 11 (hW 11 (by kernel_rfl)))) _ (run_fI1 _ _) ⟨_, rfl, IFJ.step hI rfl hI.2⟩
                    | 13, ho =>
                      obtain rfl := Option.some.inj ho
                      exact gstep_load rfl (wanted_at 100 6 true _ true rfl (by kernel_rfl) (show 100 < 165 by decide) (hI.1 6 (hW 6 (by kernel_rfl))) rfl) _ _ rfl _ (eval_at 106 12 _ (by kernel_rfl) (show 106 < 165 by decide) (hI.1 12 (hW 12 (by kernel_rfl)))) _ (run_ld w1 g _ _ (by rw [hI.2]; exact HG1.out)) ⟨_, rfl, IFJ.step hI rfl hI.2⟩
                    | 14, ho =>
                      obtain rfl := Option.some.inj ho
                      exact gstep_bin rfl (wanted_at 100 6 true _ true rfl (by kernel_rfl) (show 100 < 165 by decide) (hI.1 6 (hW 6 (by kernel_rfl))) rfl) _ _ _ _ _ rfl _ _ (eval_at 102 8 _ (by kernel_rfl) (show 102 < 165 by decide) (hI.1 8 (hW 8 (by kernel_rfl)))) (eval_at 107 13 _ (by kernel_rfl) (show 107 < 165 by decide) (hI.1 13 (hW 13 (by kernel_rfl)))) _ (run_nei w1 _ _ _) ⟨_, rfl, IFJ.step hI rfl hI.2⟩
                    | 15, ho =>
                      obtain rfl := Option.some.inj ho
                      exact gstep_pick rfl (wanted_at 98 4 false _ true rfl (by kernel_rfl) (show 98 < 165 by decide) (hI.1 4 (hW 4 (by kernel_rfl))) rfl) _ _ _ rfl _ (eval_at 100 6 _ (by kernel_rfl) (show 100 < 165 by decide) (hI.1 6 (hW 6 (by kernel_rfl)))) _ ((if_pos rfl).trans (eval_at 108 14 _ (by kernel_rfl) (show 108 < 165 by decide) (hI.1 14 (hW 14 (by kernel_rfl))))) ⟨_, rfl, IFJ.step hI rfl hI.2⟩
                    | n + 16, ho => omega
                · intro o ho bq x w1 hI hA
                  obtain rfl := Option.some.inj ho
                  refine gstep_pick rfl (wanted0 rfl) _ _ _ rfl _ (eval_at 98 4 _ (by kernel_rfl) (show 98 < 165 by decide) (hI.1 4 (hA 4 (by decide)))) _ ((if_neg (by decide)).trans (eval_at 109 15 _ (by kernel_rfl) (show 109 < 165 by decide) (hI.1 15 (hA 15 (by decide))))) ?_
                  simp only [putAll, Act.put, List.setIfInBounds_toArray, List.set_cons_succ, List.set_cons_zero]
                  obtain rfl := hI.2
                  clear hI hA
                  go_upto_region 31 with fail
                  obtain ⟨W9, hW9⟩ : ∃ w, w = W8.drew := ⟨_, rfl⟩
                  rw [← hW9]
                  have HW9 := Lib.hid hW9
                  clear hW9

                  have HN9 : Hid (NetX W9.drew nb nb now sent (F.take m ++ F.drop (m + 1))) := Lib.hid (by rw [HW9.out]; exact HN8.out.below (Below.refl _ _).drew.drew)
                  have HRW : Hid (IRow W9.drew nb (.slice (some ⟨g, 0, none⟩) F.length wc) (F.map keyF)) := Lib.hid (by rw [HW9.out]; exact (HR8.out.below (Below.refl _ _).drew).below (Below.refl _ _).drew)
                  have HB9 : Hid (Below W.heap.size W W9.drew) := Lib.hid (by rw [HW9.out]; exact HB8.out.drew.drew)
                  have HQL : Hid ((F.map keyF).length ≤ 900) := Lib.hid (by rw [List.length_map]; have := HFL.out; omega)
                  have HMQ : Hid (m ≤ (F.map keyF).length) := Lib.hid (by rw [List.length_map]; have := HML.out; omega)
                  have HMQ1 : Hid (m + 1 ≤ (F.map keyF).length) := Lib.hid (by rw [List.length_map]; exact HML.out)
                  have HMC : Hid (m ≤ wc) := Lib.hid (by have := HML.out; have := HWC.out; omega)
                  have HM1000 : Hid (m ≤ 1000) := Lib.hid (by have := HML.out; have := HFL.out; omega)
                  obtain ⟨ad, c', hsb, had⟩ : ∃ (ad : Addr) (c' : Nat), (∀ W : World, (Instr.sliceAt 29 (.slice (some ⟨g, 0, none⟩) F.length wc) (some (.int .i64 ((m + 1 : Nat) : Int))) none none).run Try.prog W = .ok (.slice (some ad) ((F.map keyF).length - (m + 1)) c') W) ∧ ((F.map keyF).length - (m + 1) = 0 ∨ ad = ⟨g, (m + 1) * 2, none⟩) := by
                    obtain ⟨ad, c', h1, h2⟩ := run_slB g F.length wc (m + 1) HML.out HWC.out
                    rw [List.length_map]
                    exact ⟨ad, c', h1, h2⟩
                  have HSB := Lib.hid hsb
                  have HAD := Lib.hid had
                  clear hsb had
                  refine wp_region_inv_last0 10 (IFJ (FOut W9.drew.heap.size g F.length wc m (.slice (some ad) ((F.map keyF).length - (m + 1)) c')) (JOut (.slice (some ⟨g, 0, none⟩) F.length wc) W9.drew (F.map keyF) m)) (by kernel_rfl) (by kernel_rfl) (by kernel_rfl) (by kernel_rfl) (by kernel_rfl) ?_ ?_ ?_
                  · exact ⟨fun j hj => (by cases hj), ⟨rfl, .inl ⟨rfl, rfl, rfl, rfl⟩⟩⟩
                  · intro k o hk ho b x w1 hI hbi hW
                    match k, ho with
                      | 0, ho =>
                        obtain rfl := Option.some.inj ho
                        obtain ⟨hw0, hj⟩ := hI.2.first hbi
                        exact gstep_rowN rfl (wanted0 rfl) _ rfl _ _ (run_mk0 w1) ⟨_, rfl, IFJ.step hI (by rw [hw0]; rfl) (hj _)⟩
                      | 1, ho =>
                        obtain rfl := Option.some.inj ho
                        exact gstep_move rfl (wanted0 rfl) _ rfl _ (eval_at 4 10 _ (by kernel_rfl) (show 4 < 165 by decide) hI.2.pre) ⟨_, rfl, IFJ.step hI rfl (hI.2.pure (by decide) (by decide) (by decide) (by decide))⟩
                      | 2, ho =>
                        obtain rfl := Option.some.inj ho
                        exact gstep_move rfl (wanted0 rfl) _ rfl _ (eval_of 8 _ (by kernel_rfl) rfl) ⟨_, rfl, IFJ.step hI rfl (hI.2.pure (by decide) (by decide) (by decide) (by decide))⟩
                      | 3, ho =>
                        obtain rfl := Option.some.inj ho
                        exact gstep_slice1 rfl (wanted0 rfl) _ _ _ rfl _ _ (eval_at 113 1 _ (by kernel_rfl) (show 113 < 165 by decide) (hI.1 1 (hW 1 (by kernel_rfl)))) (eval_at 114 2 _ (by kernel_rfl) (show 114 < 165 by decide) (hI.1 2 (hW 2 (by kernel_rfl)))) _ (run_slA w1 g F.length wc m HMC.out) ⟨_, rfl, IFJ.step hI rfl (hI.2.pure (by decide) (by decide) (by decide) (by decide))⟩
                      | 4, ho =>
                        obtain rfl := Option.some.inj ho
                        obtain ⟨v', w', hrun, hj⟩ := hI.2.app1 hbi (hW 0 (by kernel_rfl)) HQL.out HMQ.out HRW.out
                        exact gstep_appT rfl (wanted0 rfl) _ _ _ rfl _ _ (eval_at 112 0 _ (by kernel_rfl) (show 112 < 165 by decide) (hI.1 0 (hW 0 (by kernel_rfl)))) (eval_at 115 3 _ (by kernel_rfl) (show 115 < 165 by decide) (hI.1 3 (hW 3 (by kernel_rfl)))) _ _ (hrun _ rfl) ⟨_, rfl, IFJ.step hI trivial hj⟩
                      | 5, ho =>
                        obtain rfl := Option.some.inj ho
                        exact gstep_move rfl (wanted0 rfl) _ rfl _ (eval_at 4 10 _ (by kernel_rfl) (show 4 < 165 by decide) hI.2.pre) ⟨_, rfl, IFJ.step hI rfl (hI.2.pure (by decide) (by decide) (by decide) (by decide))⟩
                      | 6, ho =>
                        obtain rfl := Option.some.inj ho
                        exact gstep_move rfl (wanted0 rfl) _ rfl _ (eval_of 8 _ (by kernel_rfl) rfl) ⟨_, rfl, IFJ.step hI rfl (hI.2.pure (by decide) (by decide) (by decide) (by decide))⟩
                      | 7, ho =>
                        obtain rfl := Option.some.inj ho
                        exact gstep_bin rfl (wanted0 rfl) _ _ _ _ _ rfl _ _ (eval_at 118 6 _ (by kernel_rfl) (show 118 < 165 by decide) (hI.1 6 (hW 6 (by kernel_rfl)))) rfl _ (run_add1 w1 m HM1000.out _ _) ⟨_, rfl, IFJ.step hI rfl (hI.2.pure (by decide) (by decide) (by decide) (by decide))⟩
                      | 8, ho =>
                        obtain rfl := Option.some.inj ho
                        exact gstep_slice2 rfl (wanted0 rfl) _ _ _ rfl _ _ (eval_at 117 5 _ (by kernel_rfl) (show 117 < 165 by decide) (hI.1 5 (hW 5 (by kernel_rfl)))) (eval_at 119 7 _ (by kernel_rfl) (show 119 < 165 by decide) (hI.1 7 (hW 7 (by kernel_rfl)))) _ (HSB.out w1) ⟨_, rfl, IFJ.step hI rfl (hI.2.pure (by decide) (by decide) (by decide) (by decide))⟩
                      | 9, ho =>
                        obtain rfl := Option.some.inj ho
                        obtain ⟨v', w', hrun, hj⟩ := hI.2.app2 hbi (hW 4 (by kernel_rfl)) HQL.out HMQ1.out HRW.out ad c' HAD.out
                        exact gstep_appT rfl (wanted0 rfl) _ _ _ rfl _ _ (eval_at 116 4 _ (by kernel_rfl) (show 116 < 165 by decide) rfl) (eval_at 120 8 _ (by kernel_rfl) (show 120 < 165 by decide) (hI.1 8 (hW 8 (by kernel_rfl)))) _ _ (hrun _ rfl) ⟨_, rfl, IFJ.step hI trivial hj⟩
                      | n + 10, ho => omega
                  · intro o ho b x w1 hI hA
                    obtain rfl := Option.some.inj ho
                    obtain ⟨hr9, hb9⟩ := hI.2.done (hA 9 (by decide))
                    obtain ⟨v9, hv9⟩ : ∃ v9, x 9 = v9 := ⟨_, rfl⟩
                    rw [hv9] at hr9
                    refine gstep_assign rfl (wanted0 rfl) _ rfl _ (eval_at 121 9 _ (by kernel_rfl) (show 121 < 165 by decide) hv9) ?_
                    simp only [putAll, Act.put, List.setIfInBounds_toArray, List.set_cons_succ, List.set_cons_zero]
                    have HNX : Hid (NetX w1 nb nb now sent (F.take m ++ F.drop (m + 1))) := Lib.hid (HN9.out.below hb9)
                    have HRX : Hid (IRow w1 nb v9 ((F.take m ++ F.drop (m + 1)).map keyF)) := Lib.hid (by
                      rw [List.map_append, List.map_take, List.map_drop]
                      exact hr9.less (by have := HN9.out.nb_lt; show nb ≤ W9.drew.heap.size; exact Nat.le_of_lt this.2))
                    have HBX : Hid (Below W.heap.size W w1) := Lib.hid (HB9.out.trans (hb9.mono HB9.out.size))
                    clear hI hA hr9 hb9 hv9
                    go_upto_region 35 with fail
                    have hnx := HNX.out
                    have hrx := HRX.out
                    obtain ⟨l, hl⟩ : ∃ l, l = (F.take m ++ F.drop (m + 1)).length := ⟨_, rfl⟩
                    have HLN := Lib.hid hnx.nlen
                    have HNW := Lib.hid hnx.nnow
                    rw [← hl] at HLN
                    obtain ⟨a8, c8, hv8, _⟩ := hrx.form
                    rw [List.length_map, ← hl] at hv8
                    have HV8 := Lib.hid hv8
                    have HL8 := Lib.hid hl
                    clear hl hnx hrx
                    obtain rfl := HV8.out
                    go_wp2_with fail
                    refine HLN.out.mono ?_
                    rintro e w20 ⟨rfl, rfl⟩
                    go_wp2_with fail
                    refine HNW.out.mono ?_
                    rintro e w21 ⟨rfl, rfl⟩
                    clear HLN HNW
                    go_wp2_with fail
                    go_roundw
                    case rel => exact ⟨i + 1, now, F.take m ++ F.drop (m + 1), sent, rfl, by rw [e26]; rfl, hlt, Lib.hid ⟨by have := HR.out.nw; omega, by rw [List.length_append, List.length_take, List.length_drop]; have := HR.out.fl; omega, by have := HR.out.st; push_cast; omega, HNX.out, HRX.out, HBX.out⟩⟩
                    case measure =>
                      show n - (intOf (.int .i64 (wrap64 ((i : Int) + 1)))).toNat < n - (intOf (.int .i64 (i : Int))).toNat
                      rw [e26]
                      simp [intOf]; omega
        · have hk : wrap64 ((IntKind.u64.wrap ak).tmod 6) = 4 := by rw [kind6_form, hku]; rfl
          clear hku
          have HPA := Lib.hid (NA.pass (by have := HR.out.nw; have := HN200.out; omega))
          have e5 : wrap64 ((now : Int) + 1) = (now : Int) + 1 := IntWalk.wrap64_in _ (by have := HR.out.nw; have := HN200.out; omega)
          clear NA
          go_wp2_with (first | (refine wpList_store_run HST.out rfl rfl rfl rfl ?_))
          refine HPA.out.mono ?_
          rintro e w6 ⟨rfl, N6, b6, k6⟩
          have HNX : Hid (NetX w6 nb nb ((now + 1 : Nat) : Int) sent F) := Lib.hid (by push_cast; exact N6)
          have HRX : Hid (IRow w6 nb (.slice wa F.length wc) (F.map keyF)) := Lib.hid ((HROW.out.below HAB.out.2).keepT k6)
          have HBX : Hid (Below W.heap.size W w6) := Lib.hid ((HR.out.bel.trans (HAB.out.2.mono HR.out.bel.size)).trans (b6.mono HS1.out))
          clear HPA HST N6 b6 k6
          go_upto_region 35 with fail
          have e6 : (((now + 1 : Nat)) : Int) = (now : Int) + 1 := by push_cast; rfl
          rw [e6] at HNX
          have hnx := HNX.out
          have hrx := HRX.out
          obtain ⟨l, hl⟩ : ∃ l, l = (F).length := ⟨_, rfl⟩
          have HLN := Lib.hid hnx.nlen
          have HNW := Lib.hid hnx.nnow
          rw [← hl] at HLN
          obtain ⟨a8, c8, hv8, _⟩ := hrx.form
          rw [List.length_map, ← hl] at hv8
          have HV8 := Lib.hid hv8
          have HL8 := Lib.hid hl
          clear hl hnx hrx
          obtain rfl := HL8.out
          go_wp2_with fail
          refine HLN.out.mono ?_
          rintro e w20 ⟨rfl, rfl⟩
          go_wp2_with fail
          refine HNW.out.mono ?_
          rintro e w21 ⟨rfl, rfl⟩
          clear HLN HNW
          go_wp2_with fail
          go_roundw
          case rel => exact ⟨i + 1, now + 1, F, sent, by push_cast; rfl, by rw [e26]; rfl, hlt, Lib.hid ⟨by have := HR.out.nw; omega, by have := HR.out.fl; omega, by have := HR.out.st; push_cast; omega, (by push_cast; exact HNX.out), HRX.out, HBX.out⟩⟩
          case measure =>
            show n - (intOf (.int .i64 (wrap64 ((i : Int) + 1)))).toNat < n - (intOf (.int .i64 (i : Int))).toNat
            rw [e26]
            simp [intOf]; omega
        · have hk : wrap64 ((IntKind.u64.wrap ak).tmod 6) = 5 := by rw [kind6_form, hku]; rfl
          clear hku
          have HPA := Lib.hid NA.clear
          clear NA
          go_wp2_with (first | (refine wpList_store_run HST.out rfl rfl rfl rfl ?_))
          refine HPA.out.mono ?_
          rintro e w6 ⟨rfl, N6, b6, k6⟩
          have HNX : Hid (NetX w6 nb nb now sent []) := Lib.hid N6
          have HRX : Hid (IRow w6 nb (.slice none 0 0) ([].map keyF)) := Lib.hid (IRow.nil _ _)
          have HBX : Hid (Below W.heap.size W w6) := Lib.hid ((HR.out.bel.trans (HAB.out.2.mono HR.out.bel.size)).trans (b6.mono HS1.out))
          clear HPA HST N6 b6 k6
          go_upto_region 35 with fail
          have hnx := HNX.out
          have hrx := HRX.out
          obtain ⟨l, hl⟩ : ∃ l, l = (([] : List Fl)).length := ⟨_, rfl⟩
          have HLN := Lib.hid hnx.nlen
          have HNW := Lib.hid hnx.nnow
          rw [← hl] at HLN
          obtain ⟨a8, c8, hv8, _⟩ := hrx.form
          rw [List.length_map, ← hl] at hv8
          have HV8 := Lib.hid hv8
          have HL8 := Lib.hid hl
          clear hl hnx hrx
          skip
          go_wp2_with fail
          refine HLN.out.mono ?_
          rintro e w20 ⟨rfl, rfl⟩
          go_wp2_with fail
          refine HNW.out.mono ?_
          rintro e w21 ⟨rfl, rfl⟩
          clear HLN HNW
          go_wp2_with fail
          go_roundw
          case rel => exact ⟨i + 1, now, ([] : List Fl), sent, rfl, by rw [e26]; rfl, hlt, Lib.hid ⟨by have := HR.out.nw; omega, Nat.zero_le _, by have := HR.out.st; push_cast; omega, HNX.out, HRX.out, HBX.out⟩⟩
          case measure =>
            show n - (intOf (.int .i64 (wrap64 ((i : Int) + 1)))).toNat < n - (intOf (.int .i64 (i : Int))).toNat
            rw [e26]
            simp [intOf]; omega

      · have hlt2 : decide ((i : Int) < (n : Int)) = false := by simp; omega
        have HB := Lib.hid HR.out.bel
        have HSN := Lib.hid (fun W => send_nil W 0 (some ⟨wr.heap.size, 0, none⟩) 1 1)
        have HPN := Lib.hid pass_nil
        have HCN := Lib.hid clear_nil
        have HNN := Lib.hid next_nil
        have HLN := Lib.hid nlen_nil
        have HWN := Lib.hid now_nil
        have HBM : Hid (Below W.heap.size W (wr.alloc (.cells (mgA (.slice none 0 0) (.slice none 0 0) Mg.zero) 41))) := Lib.hid (HB.out.alloc HB.out.size _)
        unfold mgA at HBM
        simp only [Mg.zero] at HBM
        clear HR
        go_wp2_with fail
        refine (HSN.out _).mono ?_
        rintro e w4 ⟨rfl, rfl⟩
        go_wp2_with fail
        refine (HPN.out _).mono ?_
        rintro e w5 ⟨rfl, rfl⟩
        go_wp2_with fail
        refine (HCN.out _).mono ?_
        rintro e w6 ⟨rfl, rfl⟩
        go_wp2_with fail
        refine (HNN.out _).mono ?_
        rintro e w7 ⟨rfl, b7⟩
        obtain ⟨W8, hst8, _, b8⟩ := newM w7 0 0 0 0 none none Mg.zero
        have HB7 := Lib.hid (HBM.out.trans (b7.mono HBM.out.size))
        have HB8 := Lib.hid (HB7.out.trans (b8.mono HB7.out.size))
        unfold mgV at hst8
        have HST8 := Lib.hid hst8
        clear HSN HPN HCN HNN hst8 b7 b8 HBM HB
        unfold mgV
        go_wp2_with (first | (refine wpList_store_run HST8.out rfl rfl rfl rfl ?_))
        refine (HLN.out _).mono ?_
        rintro e w9 ⟨rfl, rfl⟩
        go_wp2_with fail
        refine (HWN.out _).mono ?_
        rintro e w10 ⟨rfl, rfl⟩
        go_wp2_with fail
        go_ret
        exact ⟨rfl, HB8.out⟩

theorem own : ownKnob Try.prog.godebug = none := by kernel_rfl
theorem laidOut : laidOutB Try.prog = true := by kernel_rfl

set_option maxRecDepth 100000 in
theorem lifted (os : Os) (started : os.Started) (H : Type) (enc : TypeId × Value → H) :
    ReturnsInHanded {} Try.checked os 3 .any (Rows.netActsSpec.pre6 enc Try.prog Try.f3 Rows.netActsRow.domain false) (Rows.netActsSpec.post enc Try.prog Try.f3 false true false false) := by
  refine returnsInHanded_of_change (C := Try.checked) own started (by kernel_rfl) Try.func3
    (ChangeSpec.witness6 (enc := enc) (C := Try.checked) false ⟨#[], #[.slice none 0 0], []⟩ 8 (by kernel_rfl) (by kernel_rfl) (by kernel_rfl) (by kernel_rfl)) ?_
  intro W base args ds gs before hval0 hW hcnd _
  have hval : ∀ (j : Nat) t v, Try.f3.params[j]? = some t → args[j]? = some v → Value.okWide Try.prog W .any base t v := hval0
  have hW' := hW
  obtain ⟨p, q, hA0, hV, rfl, hfz, hnd⟩ := hW
  have hA : DataW.TrodAll enc Try.prog W 0 (fun _ => true) true Try.f3.params.toList args.toList ds p := hA0
  rw [Try.params3] at hA hval
  obtain ⟨v0, vs0, d0, ds0, p0, q0, hargs, rfl, rfl, h0, r0⟩ := trodAll_cons hA
  obtain ⟨rfl, rfl, rfl⟩ := trodAll_nil r0
  obtain rfl : args = #[v0] := by cases args; simp_all
  obtain ⟨rfl, rfl⟩ := trodVars_none hV
  have k0 := h0
  have lt0 : ∀ x ∈ p0, x.block < W.heap.size := by obtain ⟨m, hm⟩ := k0; exact DataW.trod_lt m _ _ _ hm
  obtain ⟨z0, w0⟩ := acts_of (hval 0 22 v0 rfl rfl) h0
  clear hA0 hval0
  refine (walk v0 z0 W w0).mono fun e W' ⟨he, bel⟩ => ?_
  subst he
  exact ⟨_, rfl, _, _, _, [], _, [], hW', trodAll_mk1 (shut_bool Try.underlying4 _), (trodAll_cons_mk (Below.trod laidOut (by kernel_rfl) (of_decide_eq_true (by kernel_rfl)) k0 bel lt0) trodAll_mk0), rfl, bel.frame _, fun h => by cases h⟩

theorem over : Rows.netActsRow.holds Try.pinned (OpenSpec.ofChange Rows.netActsSpec) :=
  OpenClaim.holds_of_wide 3 Try.f3 rfl rfl rfl rfl rfl rfl rfl ⟨rfl, rfl, rfl, rfl, rfl⟩ rfl rfl rfl rfl rfl (by kernel_rfl) Try.func3 (by kernel_rfl)
    (of_decide_eq_true (by kernel_rfl)) (by unfold Func.isWrapper; first | (rw [if_pos (by decide +kernel)]; kernel_rfl) | (rw [if_neg (by decide +kernel)]; exact ⟨rfl, rfl⟩))
    (fun os started H enc _ => lifted os started H enc)

theorem proved : Rows.NetActsSaid := over
end Go.Proofs.Ytfijidaohlnphaa.netActs
