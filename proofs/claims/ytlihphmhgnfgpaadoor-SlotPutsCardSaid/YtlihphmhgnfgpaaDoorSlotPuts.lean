/- SlotPuts: any record as a block's bytes, and back; what cannot be put is told; no condition on the input (the two tables start as the program's text lays them). -/
import Derived.Test.YtlihphmhgnfgpaaDoorInvar2
import Derived.Test.YtlihphmhgnfgpaaDoorCards
import Derived.Test.YtlihphmhgnfgpaaDoorTie
import Derived.ProofKit
import Derived.OpenShut
import Derived.ShutString
import Derived.ChangeOld
import Derived.Deep.DeepHandedRow
import Derived.Lib.LaidTab
import Derived.Stop.LaidErr
namespace Go.Proofs.YtlihphmhgnfgpaaDoor.slotPuts
open Go.ChangeShapes Go.WideShapes Go.ChangeAt Go.RowKit
open Go.ChangeMaps (open_string shut_string)
set_option linter.unusedVariables false
set_option maxRecDepth 100000
def FP (b : Nat) (r : Rc) (y z : ByteArray) : Nat → Value → World → Prop
  | 0, v, _ => v = .pointer (some ⟨b, 0, none⟩)
  | 1, v, _ => v = .int .i64 r.kind
  | 2, v, w => OneI w v r.kind
  | 3, v, w => Src w v (numE r.kind)
  | 4, v, _ => v = .pointer (some ⟨b, 1, none⟩)
  | 5, v, _ => v = .int .i64 r.index
  | 6, v, w => OneI w v r.index
  | 7, v, w => Src w v (numE r.kind ++ numE r.index)
  | 8, v, _ => v = .pointer (some ⟨b, 2, none⟩)
  | 9, v, _ => v = .int .i64 r.term
  | 10, v, w => OneI w v r.term
  | 11, v, w => Src w v ((numE r.kind ++ numE r.index) ++ numE r.term)
  | 12, v, _ => v = .pointer (some ⟨b, 3, none⟩)
  | 13, v, _ => v = .string r.data
  | 14, v, w => OneS w v r.data
  | 15, v, w => Src w v (((numE r.kind ++ numE r.index) ++ numE r.term) ++ textE r.data.data.toList)
  | 16, v, _ => v = .string y
  | 17, v, _ => v = .string z
  | 18, v, _ => v = .string z
  | _, _, _ => True

set_option maxHeartbeats 4000000 in
theorem walk (v0 : Value) (r : Rc) (w : World) (w0 : v0 = recV r ∧ r.Fits) (hT : Tabs w) :
    Calls Tryd.prog 3 #[v0] w fun e w' => e = .returned (.bool true) ∧ Below w.heap.size w w' := by
  obtain ⟨rfl, fr⟩ := w0
  have n0 := RecB.new w r
  have b0 := (Below.refl _ w).alloc (Nat.le_refl _) (.cells #[.int .i64 r.kind, .int .i64 r.index, .int .i64 r.term, .string r.data] 23)
  have HH := Lib.hid (head4_any _ (hT.below b0))
  have HP := Lib.hid (fun (W : World) (hW : Tabs W) => put_any r W hW)
  have HT := Lib.hid hT
  have HZ := Lib.hid (And.intro fr.kind (And.intro fr.index fr.term))
  have HD := Lib.hid fr.data
  have mr := fr.data
  unfold maxLen at mr
  clear hT fr
  unfold recV at *
  by_cases h1 : 1000 < r.data.size
  · have e1 : decide ((1000 : Int) < (r.data.size : Int)) = true := by simp; omega
    go_enter Tryd.func3, Tryd.ntmps3
    go_wp2_with fail
    refine HH.out.mono ?_
    rintro e w1 ⟨rfl, hb1⟩
    obtain ⟨⟨c0, c1, c2, c3⟩, _⟩ := (n0.below hb1).cells
    go_wp2_with fail
    go_ret
    exact ⟨by simp, b0.trans (hb1.mono b0.size)⟩
  · have e1 : decide ((1000 : Int) < (r.data.size : Int)) = false := by simp; omega
    by_cases hn : r.Num
    · obtain ⟨⟨k0, k1⟩, ⟨i0, i1⟩, ⟨t0, t1⟩⟩ := id hn
      have ek0 : decide (r.kind < 0) = false := by simp; omega
      have ek1 : decide (281474976710655 < r.kind) = false := by simp; omega
      have ei0 : decide (r.index < 0) = false := by simp; omega
      have ei1 : decide (281474976710655 < r.index) = false := by simp; omega
      have et0 : decide (r.term < 0) = false := by simp; omega
      have et1 : decide (281474976710655 < r.term) = false := by simp; omega
      by_cases hd : r.data.size ≤ 488
      · have ed : decide ((488 : Int) < (r.data.size : Int)) = false := by simp; omega
        have ho : r.Ok := ⟨hn, hd⟩
        rw [put_ok ho] at HP
        have HG := Lib.hid (fun (W : World) (hW : Tabs W) => get_any r.bytes W hW (by rw [bytes_size ho]; omega))
        rw [get_put ho] at HG
        unfold getV recV at HG
        have hz : r.bytes.size ≤ 512 := by rw [bytes_size ho]; omega
        have ez : decide ((r.bytes.size : Int) ≤ 512) = true := by simp; omega
        have heq := eq_rec r r true (by simp)
        have hst := str_eq r.bytes r.bytes true (by simp)
        unfold recV at heq
        obtain ⟨y, hy⟩ : ∃ y : ByteArray, y = ⟨((((numE r.kind ++ numE r.index) ++ numE r.term) ++ textE r.data.data.toList)).toArray⟩ := ⟨_, rfl⟩
        have HEQ := Lib.hid hy.symm
        have hye : y.data.toList = r.enc := by rw [hy, data_mk, enc_def]; simp
        have hys : y.size ≤ 1000 := by rw [Lib.size_eq, hye, enc_length ho]; omega
        have HSL := Lib.hid (fun (W : World) (hW : Tabs W) => seal_any y W hW (by omega))
        rw [hye, show ByteArray.mk (sealN r.enc).toArray = r.bytes from rfl] at HSL
        clear hy hye ho hn hd h1
        generalize r.bytes = z at *
        go_enter Tryd.func3, Tryd.ntmps3
        go_wp2_with fail
        refine HH.out.mono ?_
        rintro e w1 ⟨rfl, hb1⟩
        have R1 := n0.below hb1
        have B1 := b0.trans (hb1.mono b0.size)
        obtain ⟨⟨c0, c1, c2, c3⟩, _⟩ := R1.cells
        clear hb1 n0 b0
        go_wp2_with fail
        refine (HP.out _ (HT.out.below B1)).mono ?_
        rintro e w2 ⟨rfl, hb2⟩
        have R2 := R1.below hb2
        have B1 := B1.trans (hb2.mono B1.size)
        obtain ⟨⟨c0, c1, c2, c3⟩, _⟩ := R2.cells
        clear hb2 R1
        have HC := Lib.hid (fun (W : World) (hW : Below w2.drew.heap.size w2.drew W) => (show RecB W w.heap.size r from (show RecB w2.drew w.heap.size r from R2).below hW).cells.1)
        go_wp2_with fail
        refine wp_region_facts (FP w.heap.size r y z) (fun w w' => Below w.heap.size w w') (by kernel_rfl) (by kernel_rfl) (by kernel_rfl) (Below.refl _ _) ?_ (fun u v w h1 h2 => h1.trans (h2.mono h1.size)) ?_ ?_
        · intro i v w w' _ h1 h2
          unfold FP at *
          split at h1 <;> first | exact h1 | exact OneI.below h1 h2 | exact OneS.below h1 h2 | exact Src.below h1 h2
        · intro i o ho x w1 hR hF
          match i, ho with
          | 0, ho =>
            obtain rfl := Option.some.inj ho
            exact step_field rfl rfl _ _ _ rfl _ (eval_of 1 _ (by kernel_rfl) rfl) _ (run_recf0 w1 w.heap.size) ⟨_, rfl, rfl, Below.refl _ _⟩
          | 1, ho =>
            obtain rfl := Option.some.inj ho
            exact step_load rfl rfl _ _ rfl _ (eval_at 63 0 _ (by kernel_rfl) (show 63 < 107 by decide) (hF 0 (by kernel_rfl))) _ (run_loadI w1 _ _ (HC.out w1 hR).1) ⟨_, rfl, rfl, Below.refl _ _⟩
          | 2, ho =>
            obtain rfl := Option.some.inj ho
            exact step_build rfl rfl _ _ rfl _ (eval_at 64 1 _ (by kernel_rfl) (show 64 < 107 by decide) (hF 1 (by kernel_rfl))) _ _ (run_oneI w1 _) ⟨_, rfl, OneI.new w1 _, (Below.refl _ _).alloc (Nat.le_refl _) _⟩
          | 3, ho =>
            obtain rfl := Option.some.inj ho
            refine step_call2 rfl rfl _ _ _ _ rfl (.slice none 0 0) (x 2) rfl (eval_at 65 2 _ (by kernel_rfl) (show 65 < 107 by decide) rfl) (call_num w1 _ _) ?_
            refine (OneI.num (l := []) (hF 2 (by kernel_rfl)) (Src.nil w1) (by simp) HZ.out.1).mono ?_
            rintro e w2 ⟨v, he, hs, hb⟩
            exact ⟨v, he, v, rfl, by show Src w2 v (numE r.kind); simpa using hs, hb⟩
          | 4, ho =>
            obtain rfl := Option.some.inj ho
            exact step_field rfl rfl _ _ _ rfl _ (eval_of 1 _ (by kernel_rfl) rfl) _ (run_recf1 w1 w.heap.size) ⟨_, rfl, rfl, Below.refl _ _⟩
          | 5, ho =>
            obtain rfl := Option.some.inj ho
            exact step_load rfl rfl _ _ rfl _ (eval_at 67 4 _ (by kernel_rfl) (show 67 < 107 by decide) (hF 4 (by kernel_rfl))) _ (run_loadI w1 _ _ (HC.out w1 hR).2.1) ⟨_, rfl, rfl, Below.refl _ _⟩
          | 6, ho =>
            obtain rfl := Option.some.inj ho
            exact step_build rfl rfl _ _ rfl _ (eval_at 68 5 _ (by kernel_rfl) (show 68 < 107 by decide) (hF 5 (by kernel_rfl))) _ _ (run_oneI w1 _) ⟨_, rfl, OneI.new w1 _, (Below.refl _ _).alloc (Nat.le_refl _) _⟩
          | 7, ho =>
            obtain rfl := Option.some.inj ho
            refine step_call2 rfl rfl _ _ _ _ rfl (x 3) (x 6) (eval_at 66 3 _ (by kernel_rfl) (show 66 < 107 by decide) rfl) (eval_at 69 6 _ (by kernel_rfl) (show 69 < 107 by decide) rfl) (call_num w1 _ _) ?_
            refine (OneI.num (l := numE r.kind) (hF 6 (by kernel_rfl)) (hF 3 (by kernel_rfl)) (by simp [numE_length]) HZ.out.2.1).mono ?_
            rintro e w2 ⟨v, he, hs, hb⟩
            exact ⟨v, he, v, rfl, hs, hb⟩
          | 8, ho =>
            obtain rfl := Option.some.inj ho
            exact step_field rfl rfl _ _ _ rfl _ (eval_of 1 _ (by kernel_rfl) rfl) _ (run_recf2 w1 w.heap.size) ⟨_, rfl, rfl, Below.refl _ _⟩
          | 9, ho =>
            obtain rfl := Option.some.inj ho
            exact step_load rfl rfl _ _ rfl _ (eval_at 71 8 _ (by kernel_rfl) (show 71 < 107 by decide) (hF 8 (by kernel_rfl))) _ (run_loadI w1 _ _ (HC.out w1 hR).2.2.1) ⟨_, rfl, rfl, Below.refl _ _⟩
          | 10, ho =>
            obtain rfl := Option.some.inj ho
            exact step_build rfl rfl _ _ rfl _ (eval_at 72 9 _ (by kernel_rfl) (show 72 < 107 by decide) (hF 9 (by kernel_rfl))) _ _ (run_oneI w1 _) ⟨_, rfl, OneI.new w1 _, (Below.refl _ _).alloc (Nat.le_refl _) _⟩
          | 11, ho =>
            obtain rfl := Option.some.inj ho
            refine step_call2 rfl rfl _ _ _ _ rfl (x 7) (x 10) (eval_at 70 7 _ (by kernel_rfl) (show 70 < 107 by decide) rfl) (eval_at 73 10 _ (by kernel_rfl) (show 73 < 107 by decide) rfl) (call_num w1 _ _) ?_
            refine (OneI.num (l := numE r.kind ++ numE r.index) (hF 10 (by kernel_rfl)) (hF 7 (by kernel_rfl)) (by simp [numE_length]) HZ.out.2.2).mono ?_
            rintro e w2 ⟨v, he, hs, hb⟩
            exact ⟨v, he, v, rfl, hs, hb⟩
          | 12, ho =>
            obtain rfl := Option.some.inj ho
            exact step_field rfl rfl _ _ _ rfl _ (eval_of 1 _ (by kernel_rfl) rfl) _ (run_recf3 w1 w.heap.size) ⟨_, rfl, rfl, Below.refl _ _⟩
          | 13, ho =>
            obtain rfl := Option.some.inj ho
            exact step_load rfl rfl _ _ rfl _ (eval_at 75 12 _ (by kernel_rfl) (show 75 < 107 by decide) (hF 12 (by kernel_rfl))) _ (run_loadS w1 _ _ (HC.out w1 hR).2.2.2) ⟨_, rfl, rfl, Below.refl _ _⟩
          | 14, ho =>
            obtain rfl := Option.some.inj ho
            exact step_build rfl rfl _ _ rfl _ (eval_at 76 13 _ (by kernel_rfl) (show 76 < 107 by decide) (hF 13 (by kernel_rfl))) _ _ (run_oneS w1 _) ⟨_, rfl, OneS.new w1 _, (Below.refl _ _).alloc (Nat.le_refl _) _⟩
          | 15, ho =>
            obtain rfl := Option.some.inj ho
            refine step_call2 rfl rfl _ _ _ _ rfl (x 11) (x 14) (eval_at 74 11 _ (by kernel_rfl) (show 74 < 107 by decide) rfl) (eval_at 77 14 _ (by kernel_rfl) (show 77 < 107 by decide) rfl) (call_text w1 _ _) ?_
            refine (OneS.text (l := (numE r.kind ++ numE r.index) ++ numE r.term) (hF 14 (by kernel_rfl)) (hF 11 (by kernel_rfl)) (by simp [numE_length]) HD.out).mono ?_
            rintro e w2 ⟨v, he, hs, hb⟩
            exact ⟨v, he, v, rfl, hs, hb⟩
          | 16, ho =>
            obtain rfl := Option.some.inj ho
            refine step_convert rfl rfl _ _ _ rfl (x 15) (eval_at 78 15 _ (by kernel_rfl) (show 78 < 107 by decide) rfl) _ _ (run_str (hF 15 (by kernel_rfl))) ⟨_, rfl, congrArg Value.string HEQ.out, Below.refl _ _⟩
          | 17, ho =>
            obtain rfl := Option.some.inj ho
            refine step_call rfl rfl _ _ _ rfl (.string y) (eval_at 79 16 _ (by kernel_rfl) (show 79 < 107 by decide) (hF 16 (by kernel_rfl))) (call_seal w1 _) ?_
            refine (HSL.out w1 (HT.out.below (B1.drew.trans (hR.mono B1.drew.size)))).mono ?_
            rintro e w2 ⟨he, hb⟩
            exact ⟨_, he, _, rfl, rfl, hb⟩
          | 18, ho =>
            obtain rfl := Option.some.inj ho
            exact step_assign rfl rfl _ rfl _ (eval_at 80 17 _ (by kernel_rfl) (show 80 < 107 by decide) (hF 17 (by kernel_rfl))) ⟨_, rfl, rfl, Below.refl _ _⟩
          | n + 19, ho => simp at ho
        · intro x w3 hR hF
          have h18 : x 18 = .string z := hF 18 (by decide)
          dsimp only [Exit.then]
          rename_i K hK
          refine hK _ _ ?_
          have B2 := B1.trans ((Below.drew (Below.refl _ _)).trans (hR.mono (Nat.le_refl _)) |>.mono B1.size)
          have R3 : RecB w3 w.heap.size r := (show RecB w2.drew w.heap.size r from R2).below hR
          obtain ⟨⟨c0, c1, c2, c3⟩, _⟩ := R3.cells
          simp only [putAll, h18]
          have HG3 := Lib.hid (HG.out w3 (HT.out.below B2))
          clear h18 hF hR R2 HSL HP HG
          go_wp2_with fail
          refine HG3.out.mono ?_
          rintro e w4 ⟨rfl, hb4⟩
          have b5 := (Below.refl w4.heap.size w4).alloc (Nat.le_refl _) (.cells #[.int .i64 r.kind, .int .i64 r.index, .int .i64 r.term, .string r.data] 23)
          have B4 := B2.trans (hb4.mono B2.size)
          have B5 := B4.trans (b5.mono B4.size)
          have R5 := (R3.below hb4).below b5
          have N5 := RecB.new w4 r
          obtain ⟨⟨c0, c1, c2, c3⟩, _⟩ := R5.cells
          obtain ⟨⟨n0, n1, n2, n3⟩, _⟩ := N5.cells
          clear b5
          go_wp2_with fail
          go_ret
          exact ⟨by simp, B5⟩
      · have ed : decide ((488 : Int) < (r.data.size : Int)) = true := by simp; omega
        rw [put_long hn (by omega)] at HP
        clear hn hd h1
        go_enter Tryd.func3, Tryd.ntmps3
        go_wp2_with fail
        refine HH.out.mono ?_
        rintro e w1 ⟨rfl, hb1⟩
        have R1 := n0.below hb1
        have B1 := b0.trans (hb1.mono b0.size)
        obtain ⟨⟨c0, c1, c2, c3⟩, _⟩ := R1.cells
        go_wp2_with fail
        refine (HP.out _ (HT.out.below B1)).mono ?_
        rintro e w2 ⟨rfl, hb2⟩
        have R2 := R1.below hb2
        have B2 := B1.trans (hb2.mono B1.size)
        obtain ⟨⟨c0, c1, c2, c3⟩, _⟩ := R2.cells
        go_wp2_with fail
        go_ret
        exact ⟨by simp, B2⟩
    · rw [put_arg hn] at HP
      have hn : ¬ ((0 ≤ r.kind ∧ r.kind ≤ 281474976710655) ∧ (0 ≤ r.index ∧ r.index ≤ 281474976710655) ∧ (0 ≤ r.term ∧ r.term ≤ 281474976710655)) := fun h => hn ⟨h.1, h.2.1, h.2.2⟩
      by_cases q0 : r.kind < 0
      · have e2 : decide (r.kind < 0) = true := by simp; omega
        clear hn h1
        go_enter Tryd.func3, Tryd.ntmps3
        go_wp2_with fail
        refine HH.out.mono ?_
        rintro e w1 ⟨rfl, hb1⟩
        have R1 := n0.below hb1
        have B1 := b0.trans (hb1.mono b0.size)
        obtain ⟨⟨c0, c1, c2, c3⟩, _⟩ := R1.cells
        go_wp2_with fail
        refine (HP.out _ (HT.out.below B1)).mono ?_
        rintro e w2 ⟨rfl, hb2⟩
        have R2 := R1.below hb2
        have B2 := B1.trans (hb2.mono B1.size)
        obtain ⟨⟨c0, c1, c2, c3⟩, _⟩ := R2.cells
        go_wp2_with fail
        go_ret
        exact ⟨by simp, B2⟩
      · have e2 : decide (r.kind < 0) = false := by simp; omega
        by_cases q1 : r.index < 0
        · have e3 : decide (r.index < 0) = true := by simp; omega
          clear hn h1
          go_enter Tryd.func3, Tryd.ntmps3
          go_wp2_with fail
          refine HH.out.mono ?_
          rintro e w1 ⟨rfl, hb1⟩
          have R1 := n0.below hb1
          have B1 := b0.trans (hb1.mono b0.size)
          obtain ⟨⟨c0, c1, c2, c3⟩, _⟩ := R1.cells
          go_wp2_with fail
          refine (HP.out _ (HT.out.below B1)).mono ?_
          rintro e w2 ⟨rfl, hb2⟩
          have R2 := R1.below hb2
          have B2 := B1.trans (hb2.mono B1.size)
          obtain ⟨⟨c0, c1, c2, c3⟩, _⟩ := R2.cells
          go_wp2_with fail
          go_ret
          exact ⟨by simp, B2⟩
        · have e3 : decide (r.index < 0) = false := by simp; omega
          by_cases q2 : r.term < 0
          · have e4 : decide (r.term < 0) = true := by simp; omega
            clear hn h1
            go_enter Tryd.func3, Tryd.ntmps3
            go_wp2_with fail
            refine HH.out.mono ?_
            rintro e w1 ⟨rfl, hb1⟩
            have R1 := n0.below hb1
            have B1 := b0.trans (hb1.mono b0.size)
            obtain ⟨⟨c0, c1, c2, c3⟩, _⟩ := R1.cells
            go_wp2_with fail
            refine (HP.out _ (HT.out.below B1)).mono ?_
            rintro e w2 ⟨rfl, hb2⟩
            have R2 := R1.below hb2
            have B2 := B1.trans (hb2.mono B1.size)
            obtain ⟨⟨c0, c1, c2, c3⟩, _⟩ := R2.cells
            go_wp2_with fail
            go_ret
            exact ⟨by simp, B2⟩
          · have e4 : decide (r.term < 0) = false := by simp; omega
            by_cases q3 : 281474976710655 < r.kind
            · have e5 : decide (281474976710655 < r.kind) = true := by simp; omega
              clear hn h1
              go_enter Tryd.func3, Tryd.ntmps3
              go_wp2_with fail
              refine HH.out.mono ?_
              rintro e w1 ⟨rfl, hb1⟩
              have R1 := n0.below hb1
              have B1 := b0.trans (hb1.mono b0.size)
              obtain ⟨⟨c0, c1, c2, c3⟩, _⟩ := R1.cells
              go_wp2_with fail
              refine (HP.out _ (HT.out.below B1)).mono ?_
              rintro e w2 ⟨rfl, hb2⟩
              have R2 := R1.below hb2
              have B2 := B1.trans (hb2.mono B1.size)
              obtain ⟨⟨c0, c1, c2, c3⟩, _⟩ := R2.cells
              go_wp2_with fail
              go_ret
              exact ⟨by simp, B2⟩
            · have e5 : decide (281474976710655 < r.kind) = false := by simp; omega
              by_cases q4 : 281474976710655 < r.index
              · have e6 : decide (281474976710655 < r.index) = true := by simp; omega
                clear hn h1
                go_enter Tryd.func3, Tryd.ntmps3
                go_wp2_with fail
                refine HH.out.mono ?_
                rintro e w1 ⟨rfl, hb1⟩
                have R1 := n0.below hb1
                have B1 := b0.trans (hb1.mono b0.size)
                obtain ⟨⟨c0, c1, c2, c3⟩, _⟩ := R1.cells
                go_wp2_with fail
                refine (HP.out _ (HT.out.below B1)).mono ?_
                rintro e w2 ⟨rfl, hb2⟩
                have R2 := R1.below hb2
                have B2 := B1.trans (hb2.mono B1.size)
                obtain ⟨⟨c0, c1, c2, c3⟩, _⟩ := R2.cells
                go_wp2_with fail
                go_ret
                exact ⟨by simp, B2⟩
              · have e6 : decide (281474976710655 < r.index) = false := by simp; omega
                have e7 : decide (281474976710655 < r.term) = true := by simp; omega
                clear hn h1
                go_enter Tryd.func3, Tryd.ntmps3
                go_wp2_with fail
                refine HH.out.mono ?_
                rintro e w1 ⟨rfl, hb1⟩
                have R1 := n0.below hb1
                have B1 := b0.trans (hb1.mono b0.size)
                obtain ⟨⟨c0, c1, c2, c3⟩, _⟩ := R1.cells
                go_wp2_with fail
                refine (HP.out _ (HT.out.below B1)).mono ?_
                rintro e w2 ⟨rfl, hb2⟩
                have R2 := R1.below hb2
                have B2 := B1.trans (hb2.mono B1.size)
                obtain ⟨⟨c0, c1, c2, c3⟩, _⟩ := R2.cells
                go_wp2_with fail
                go_ret
                exact ⟨by simp, B2⟩

theorem own : ownKnob Tryd.prog.godebug = none := by kernel_rfl
theorem laidOut : laidOutB Tryd.prog = true := by kernel_rfl
theorem gHi : Tryd.prog.globalNamed "orchard/sum.highTable" = some 0 := by kernel_rfl
theorem gLo : Tryd.prog.globalNamed "orchard/sum.lowTable" = some 1 := by kernel_rfl
theorem gHiType : (Tryd.prog.globals[0]?).map (·.type) = some 108 := by kernel_rfl
theorem gLoType : (Tryd.prog.globals[1]?).map (·.type) = some 108 := by kernel_rfl
theorem cellsTab : Tryd.prog.cellsOf 108 = 16 := by kernel_rfl
theorem cellsSum : Tryd.prog.cellsOf 66 = 1 := by kernel_rfl

theorem table_lo {W : World} (h : laidMetH Tryd.prog Rows.slotPutsRow.laid W) : Lib.TabIs Tryd.prog W "orchard/sum.lowTable" .u32 LO :=
  Lib.tabIs_of_head (rest := [("orchard/sum.highTable", Rows.laid_orchard_sum_highTable)]) gLo gLoType Tryd.underlying108 Tryd.underlying66 cellsSum cellsTab h
theorem table_hi {W : World} (h : laidMetH Tryd.prog Rows.slotPutsRow.laid W) : Lib.TabIs Tryd.prog W "orchard/sum.highTable" .u32 HI :=
  Lib.tabIs_of_head (rest := []) gHi gHiType Tryd.underlying108 Tryd.underlying66 cellsSum cellsTab (laidMet.tail (show laidMet Tryd.prog [("orchard/sum.lowTable", Rows.laid_orchard_sum_lowTable), ("orchard/sum.highTable", Rows.laid_orchard_sum_highTable)] W from h))
theorem tabs_of {W : World} (h : laidMetH Tryd.prog Rows.slotPutsRow.laid W) : Tabs W := by
  have c0 := fun (j : Nat) (hj : j < 16) => (table_hi h).cell gHi j hj
  have c1 := fun (j : Nat) (hj : j < 16) => (table_lo h).cell gLo j hj
  refine ⟨⟨World.block_lt_of_cell? W _ (c0 0 (by decide)), World.block_lt_of_cell? W _ (c1 0 (by decide))⟩, fun j hj => ?_, fun j hj => ?_⟩
  · rw [c0 j hj, hi_cast j]
  · rw [c1 j hj, lo_cast j]

theorem contract (H : Type) (enc : TypeId × Value → H) (W : World) (base : Nat) (args : Array Value) (ds gs : List (DataW H)) (before : List MemPlace)
    (hval : ∀ (j : Nat) t v, Tryd.f3.params[j]? = some t → args[j]? = some v → Value.okWide Tryd.prog W .any base t v)
    (hW : DataW.Whole enc Tryd.prog Tryd.f3.params.toList Rows.slotPutsSpec.vars false W args.toList ds gs before) (hL : laidMetH Tryd.prog Rows.slotPutsRow.laid W) :
    Calls Tryd.prog 3 args W fun e W' => ∃ v, e = .returned v ∧ Rows.slotPutsSpec.post enc Tryd.prog Tryd.f3 false true false false W args v W' := by
  have hT := tabs_of hL
  have hW' := hW
  obtain ⟨p, q, hA0, hV, rfl, hfz, hnd⟩ := hW
  have hA : DataW.TrodAll enc Tryd.prog W 0 (fun _ => true) true Tryd.f3.params.toList args.toList ds p := hA0
  rw [Tryd.params3] at hA hval
  obtain ⟨v0, vs0, d0, ds0, p0, q0, hargs, rfl, rfl, h0, r0⟩ := trodAll_cons hA
  obtain ⟨rfl, rfl, rfl⟩ := trodAll_nil r0
  obtain rfl : args = #[v0] := by cases args; simp_all
  obtain ⟨rfl, rfl⟩ := trodVars_none hV
  have k0 := h0
  have lt0 : ∀ x ∈ p0, x.block < W.heap.size := by obtain ⟨m, hm⟩ := k0; exact DataW.trod_lt m _ _ _ hm
  obtain ⟨z0, w0⟩ := rec_of (hval 0 23 v0 rfl rfl) h0
  clear hA0
  refine (walk v0 z0 W w0 hT).mono fun e W' ⟨he, bel⟩ => ?_
  subst he
  exact ⟨_, rfl, _, _, _, [], _, [], hW', trodAll_mk1 (shut_bool Tryd.underlying4 _), (trodAll_cons_mk (Below.trod laidOut (by kernel_rfl) (of_decide_eq_true (by kernel_rfl)) k0 bel lt0) trodAll_mk0), rfl, bel.frame _, fun h => by cases h⟩

def setTab (l : List Int) : Obj → Obj
  | .cells _ t frozen => .cells (l.map (Value.int .u32)).toArray t frozen
  | o => o
noncomputable def laidWorld (os : Os) : World :=
  { World.holding Tryd.prog os ⟨#[], #[], []⟩ with heap := ((World.holding Tryd.prog os ⟨#[], #[], []⟩).heap.modify 1 (setTab LO)).modify 0 (setTab HI) }
theorem laid_met (os : Os) : laidMet Tryd.prog Rows.slotPutsRow.laid ((laidWorld os).forCall (fun _ _ => 0) ⟨#[], #[.agg #[.int .i64 0, .int .i64 0, .int .i64 0, .string ByteArray.empty]], []⟩).memory :=
  laidMet_of_run' 8 (by kernel_rfl) (by kernel_rfl)
theorem reads (os : Os) {H : Type} (enc : TypeId × Value → H) : ∃ places, DataW.whole enc Tryd.prog ((laidWorld os).forCall (fun _ _ => 0) ⟨#[], #[.agg #[.int .i64 0, .int .i64 0, .int .i64 0, .string ByteArray.empty]], []⟩).memory Tryd.f3.params.toList Rows.slotPutsSpec.vars false #[Value.agg #[.int .i64 0, .int .i64 0, .int .i64 0, .string ByteArray.empty]].toList 8 = some ([.agg [.lit (.int .i64 0), .lit (.int .i64 0), .lit (.int .i64 0), .lit (.string [])]], [], places) :=
  ⟨[], by kernel_rfl⟩

set_option maxRecDepth 100000 in
theorem lifted (os : Os) (started : os.Started) (H : Type) (enc : TypeId × Value → H) (F : Stop.Interp) :
    ReturnsInHanded {} Tryd.checked os 3 .any ((OpenSpec.ofChange Rows.slotPutsSpec).preRow enc Tryd.prog Tryd.f3 Rows.slotPutsRow.domain false Rows.slotPutsRow.laid) (((OpenSpec.ofChange Rows.slotPutsSpec).at F).post enc Tryd.prog Tryd.f3 false true false false) := by
  obtain ⟨places, hx⟩ := reads os enc
  refine returnsInHanded_of_row (C := Tryd.checked) (s := OpenSpec.ofChange Rows.slotPutsSpec) own started (by kernel_rfl) Tryd.func3
    (witness_row_at (enc := enc) (C := Tryd.checked) false (laidWorld os) #[.agg #[.int .i64 0, .int .i64 0, .int .i64 0, .string ByteArray.empty]] rfl (by kernel_rfl) (by kernel_rfl) (by kernel_rfl)
      (OpenSpec.preRow_of_cond 8 hx (by kernel_rfl) (fun k hk => by cases hk) (by kernel_rfl) (laid_met os))) ?_
  intro W base args ds gs before hval hW _ _ _ hL _ _
  exact contract H enc W base args ds gs before hval hW hL

theorem said : Rows.SlotPutsSaid :=
  OpenClaim.holds_of_cond 3 Tryd.f3 rfl rfl rfl rfl rfl rfl rfl ⟨rfl, rfl, rfl, rfl, rfl⟩ rfl rfl rfl rfl rfl (by kernel_rfl) Tryd.func3 (by kernel_rfl)
    (of_decide_eq_true (by kernel_rfl)) (by unfold Func.isWrapper; first | (rw [if_pos (by decide +kernel)]; kernel_rfl) | (rw [if_neg (by decide +kernel)]; exact ⟨rfl, rfl⟩))
    (fun os started H enc _ F => by rw [OpenClaim.pre_eq_preRow]; exact lifted os started H enc F)

theorem plain (f : FuncId) (fn : Func) (hf : Tryd.pinned.checked.prog.funcNamed "orchard/orchardlaw04.SlotPuts" = some f) (hfn : Tryd.pinned.checked.prog.funcs[f]? = some fn) :
    false = Tryd.pinned.checked.prog.looks [] ∧ ∀ (j : Nat) t, fn.params[j]? = some t → Tryd.pinned.checked.prog.wantsStandIn t = false := by
  obtain rfl : f = 3 := Option.some.inj ((show Tryd.prog.funcNamed "orchard/orchardlaw04.SlotPuts" = some 3 by kernel_rfl).symm.trans hf) |>.symm
  obtain rfl : fn = Tryd.f3 := (Option.some.inj (Tryd.func3.symm.trans hfn)).symm
  refine ⟨by kernel_rfl, fun j t ht => ?_⟩
  rw [Tryd.params3] at ht
  have hm := Array.mem_of_getElem? ht
  simp at hm
  subst hm
  exact (show Tryd.prog.wantsStandIn 23 = false by kernel_rfl)

theorem card : Rows.SlotPutsCardSaid :=
  Claim7.holds_tied_plain_at .later [] _ _ _ _ said (fun _ h => by cases h) (by kernel_rfl) (fun _ h => by cases h) slotPuts_row_tie rfl ⟨rfl, rfl⟩ (by kernel_rfl) rfl plain (by kernel_rfl)
end Go.Proofs.YtlihphmhgnfgpaaDoor.slotPuts
