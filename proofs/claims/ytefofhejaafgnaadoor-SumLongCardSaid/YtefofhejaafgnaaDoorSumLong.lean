/- SumLong: the checksum of any text of at most 200 bytes is what long division by the page's polynomial leaves; no condition on the input (the two tables start as the program's text lays them). -/
import Derived.Test.YtefofhejaafgnaaDoorLongRow
import Derived.Test.YtefofhejaafgnaaDoorCards
import Derived.Test.YtefofhejaafgnaaDoorTie
import Derived.ProofKit
import Derived.OpenShut
import Derived.ShutString
import Derived.ChangeOld
import Derived.Deep.DeepHandedRow
import Derived.Lib.LaidTab
import Derived.Stop.LaidErr
namespace Go.Proofs.YtefofhejaafgnaaDoor.sumLong
open Go.ChangeShapes Go.WideShapes Go.ChangeAt Go.RowKit
open Go.ChangeMaps (open_string shut_string)
set_option linter.unusedVariables false

set_option maxRecDepth 100000 in
set_option maxHeartbeats 4000000 in
theorem long_any (s : ByteArray) (w : World) (h0 : s.size ≤ 200) :
    Calls Tryd.prog 10 #[.string s] w fun e w' => e = .returned (.int .u32 (addN 0 s.data.toList : Int)) ∧ Below w.heap.size w w' := by
  obtain ⟨i0, hi, hz0, hz1, hz2⟩ := info_parts info_u8
  obtain ⟨f, hf⟩ : ∃ f, f = dat s.data.toList := ⟨_, rfl⟩
  have HF := Lib.hid hf
  clear hf
  obtain ⟨Y, hY⟩ : ∃ Y, Y = addN 0 s.data.toList := ⟨_, rfl⟩
  have hy : Y < 4294967296 := by rw [hY]; exact addN_lt 0 s.data.toList (by omega)
  rw [← hY]
  have HY := Lib.hid hY
  clear hY
  go_enter Tryd.func10, Tryd.ntmps10
  go_wp2_with fail
  have hb2 := (Below.refl w.heap.size w).alloc (Nat.le_refl _) (.cells #[] 5)
  have hs2 : Bs (w.alloc (.cells #[] 5)) w.heap.size (.slice (some ⟨w.heap.size, 0, none⟩) 0 0) 0 f :=
    ⟨rfl, .inr ⟨w.heap.size, 0, #[], rfl, Nat.le_refl _, heap_alloc_new w _, Nat.le_refl _, by unfold maxLen; omega, rfl, rfl⟩⟩
  go_loopw [3, 4] (fun v i wr => ∃ k : Nat, k ≤ s.size ∧ i = .int .i64 k ∧ Bs wr w.heap.size v (8 * k) f ∧ Below w.heap.size w wr) (fun _ i _ => s.size - (intOf i).toNat)
  case atStart => exact ⟨0, Nat.zero_le _, rfl, hs2, hb2⟩
  case round =>
    obtain ⟨i, hk, rfl, hown, hbw⟩ := hrel
    clear hs2 hb2
    by_cases hlt : i < s.size
    · go_wp2_with fail
      go_loopw [3, 5] (fun v j wr => ∃ k : Nat, k ≤ 8 ∧ j = .int .i64 k ∧ Bs wr w.heap.size v (8 * i + k) f ∧ Below w.heap.size w wr) (fun _ j _ => 8 - (intOf j).toNat)
      case atStart => exact ⟨0, Nat.zero_le _, rfl, hown, hbw⟩
      case round =>
        obtain ⟨k, hk2, rfl, hown2, hbw2⟩ := hrel
        clear hown hbw
        by_cases hlt2 : k < 8
        · have hbit : bits BinOp.and IntKind.u8 ((s[i].toNat : Int) / 2 ^ k) 1 = (f (8 * i + k) : Int) := by rw [HF.out]; exact dat_bit s i k hlt hlt2
          have hsz := hbw2.size
          have HN := Lib.hid (new_bit wr (f (8 * i + k) : Int))
          have HI := Lib.hid (new_bit_one (f (8 * i + k) : Int))
          have HBS := Lib.hid (show w.heap.size ≤ (wr.alloc (.cells #[.int .u8 (f (8 * i + k) : Int)] 5)).heap.size by simp; omega)
          have H63 := Lib.hid (show 8 * i + k + 1 ≤ maxLen by unfold maxLen; omega)
          have H47 := Lib.hid (show (8 * i + k + 1) * 1 ≤ 140737488355328 by omega)
          have HFL : Hid (f (8 * i + k) < 2) := by rw [HF.out]; exact dat_lt _ _
          generalize hfb : f (8 * i + k) = fb at *
          have HFB := Lib.hid hfb
          clear hfb
          go_wp2_with (at_builtin; go_loud (refine wpList_append_own _ rfl _ _ 34 rfl w.heap.size 5 i0 (.int .u8 0) 1 1 und_bytes hi hz0 hz1 hz2 rfl (by decide) _ _ _ rfl (hown2.alloc _) ⟨wr.heap.size, 0, none⟩ 1 1 [.int .u8 (fb : Int)] rfl rfl HN.out HI.out H63.out H47.out HBS.out ?_))
          intro v' w4 ho4 hg4 _
          have hs4 : Bs w4 w.heap.size v' (8 * i + (k + 1)) f := Bs.add (by rw [HFB.out]; exact ho4) (by omega)
          have hb4 : Below w.heap.size w w4 := (hbw2.alloc hsz _).grown hg4 (by simp; omega) (Bs.own hown2)
          clear ho4 hg4 hown2
          go_wp2_with fail
          go_roundw
          case rel => exact ⟨k + 1, by omega, by go_num, hs4, hb4⟩
          case measure => simp [intOf]; omega
        · have hk8 : k = 8 := by omega
          subst hk8
          have hown3 : Bs wr w.heap.size u3 (8 * (i + 1)) f := by rw [show 8 * (i + 1) = 8 * i + 8 by omega]; exact hown2
          clear hown2
          go_wp2_with fail
          go_roundw
          case rel => exact ⟨i + 1, by omega, by go_num, hown3, hbw2⟩
          case measure => simp [intOf]; omega
    · have hi8 : i = s.size := by omega
      subst hi8
      obtain ⟨n, hn⟩ : ∃ n, n = 8 * s.size := ⟨_, rfl⟩
      rw [← hn] at hown
      have hn2 : n ≤ 1600 := by omega
      have HN8 := Lib.hid hn
      clear hn
      obtain ⟨a3, c3, rfl⟩ := hown.shape
      go_wp2_with fail
      go_loopw [3, 7] (fun v j wr => ∃ k : Nat, k ≤ 32 ∧ j = .int .i64 k ∧ Bs wr w.heap.size v (n + k) f ∧ Below w.heap.size w wr) (fun _ j _ => 32 - (intOf j).toNat)
      case atStart => exact ⟨0, Nat.zero_le _, rfl, hown, hbw⟩
      case round =>
        obtain ⟨k, hk2, rfl, hown2, hbw2⟩ := hrel
        clear hown hbw
        by_cases hlt2 : k < 32
        · have hsz := hbw2.size
          have HFB : Hid (f (n + k) = 0) := by rw [HF.out]; exact dat_out _ _ (by rw [← Lib.size_eq]; have := HN8.out; omega)
          have HN := Lib.hid (new_bit wr 0)
          have HI := Lib.hid (new_bit_one 0)
          have HBS := Lib.hid (show w.heap.size ≤ (wr.alloc (.cells #[.int .u8 0] 5)).heap.size by simp; omega)
          have H63 := Lib.hid (show n + k + 1 ≤ maxLen by unfold maxLen; omega)
          have H47 := Lib.hid (show (n + k + 1) * 1 ≤ 140737488355328 by omega)
          go_wp2_with (at_builtin; go_loud (refine wpList_append_own _ rfl _ _ 34 rfl w.heap.size 5 i0 (.int .u8 0) 1 1 und_bytes hi hz0 hz1 hz2 rfl (by decide) _ _ _ rfl (hown2.alloc _) ⟨wr.heap.size, 0, none⟩ 1 1 [.int .u8 0] rfl rfl HN.out HI.out H63.out H47.out HBS.out ?_))
          intro v' w4 ho4 hg4 _
          have hs4 : Bs w4 w.heap.size v' (n + (k + 1)) f := Bs.add (by rw [HFB.out]; exact ho4) (by omega)
          have hb4 : Below w.heap.size w w4 := (hbw2.alloc hsz _).grown hg4 (by simp; omega) (Bs.own hown2)
          clear ho4 hg4 hown2
          go_wp2_with fail
          go_roundw
          case rel => exact ⟨k + 1, by omega, by go_num, hs4, hb4⟩
          case measure => simp [intOf]; omega
        · have hk8 : k = 32 := by omega
          subst hk8
          obtain ⟨g, c4, rfl, hg, hrow⟩ := hown2.row (by omega)
          have hrow0 : BitRow wr g (n + 32) (turnF f 0) := hrow.same (fun j => rfl)
          clear hown2 hrow
          go_wp2_with fail
          go_loopw [8] (fun j wr => ∃ k : Nat, k ≤ 32 ∧ j = .int .i64 k ∧ BitRow wr g (n + 32) (turnF f k) ∧ Below w.heap.size w wr) (fun j _ => 32 - (intOf j).toNat)
          case atStart => exact ⟨0, Nat.zero_le _, rfl, hrow0, hbw2⟩
          case round =>
            obtain ⟨k, hk3, rfl, hrow3, hbw3⟩ := hrel
            clear hrow0 hbw2
            by_cases hlt3 : k < 32
            · have hcell := hrow3.cell k (by omega)
              have hfree := hrow3.free k
              have hset := hrow3.set k (turnF f k k ^^^ 1) (by omega) (turn_next f k)
              have hb2 : turnF f k k < 2 := turn_lt f (fun j => by rw [HF.out]; exact dat_lt _ _) k k
              have hbs := hbw3.setCell (p := ⟨g, k, none⟩) hg (.int .u8 ((turnF f k k ^^^ 1 : Nat) : Int))
              have HX : Hid (bits BinOp.xor IntKind.u8 (turnF f k k : Int) 1 = ((turnF f k k ^^^ 1 : Nat) : Int)) := u8_xor_nat (turnF f k k) 1 (by omega) (by omega)
              have HSET : Hid (BitRow (wr.setCell ⟨g, k, none⟩ (.int .u8 ((turnF f k k ^^^ 1 : Nat) : Int))) g (n + 32) (turnF f (k + 1))) := hset
              clear hset hrow3
              generalize turnF f k k = b at *
              go_wp2_with fail
              rw [HX.out]
              go_roundw
              case rel => exact ⟨k + 1, by omega, by go_num, HSET.out, hbs⟩
              case measure => simp [intOf]; omega
            · have hk9 : k = 32 := by omega
              subst hk9
              have hrow4 : BitRow wr g (n + 32) (divF f 0) := hrow3.same (fun j => (turn_div f j).symm)
              clear hrow3
              go_wp2_with fail
              go_loopw [10] (fun j wr => ∃ k : Nat, k ≤ n ∧ j = .int .i64 k ∧ BitRow wr g (n + 32) (divF f k) ∧ Below w.heap.size w wr) (fun j _ => n - (intOf j).toNat)
              case atStart => exact ⟨0, Nat.zero_le _, rfl, hrow4, hbw3⟩
              case round =>
                obtain ⟨i, hi4, rfl, hrow5, hbw5⟩ := hrel
                clear hrow4 hbw3
                by_cases hlt5 : i < n
                · have hcell := hrow5.cell i (by omega)
                  have hdl : divF f i i < 2 := div_lt f (fun j => by rw [HF.out]; exact dat_lt _ _) i i
                  by_cases hone : divF f i i = 1
                  · have HONE := Lib.hid hone
                    rw [hone] at hcell
                    have hrow6 : BitRow wr g (n + 32) (subF f i 0) := hrow5.same (fun j => sub_zero f i j)
                    clear hone hdl hrow5
                    go_wp2_with fail
                    go_loopw [11] (fun j wr => ∃ k : Nat, k ≤ 33 ∧ j = .int .i64 k ∧ BitRow wr g (n + 32) (subF f i k) ∧ Below w.heap.size w wr) (fun j _ => 33 - (intOf j).toNat)
                    case atStart => exact ⟨0, Nat.zero_le _, rfl, hrow6, hbw5⟩
                    case round =>
                      obtain ⟨k, hk6, rfl, hrow7, hbw7⟩ := hrel
                      clear hrow6 hbw5 hcell
                      by_cases hlt7 : k < 33
                      · have hcell := hrow7.cell (i + k) (by omega)
                        have hfree := hrow7.free (i + k)
                        have hset := hrow7.set (i + k) (subF f i k (i + k) ^^^ polN k) (by omega) (sub_next f i k)
                        have hb2 : subF f i k (i + k) < 2 := sub_lt f (fun j => by rw [HF.out]; exact dat_lt _ _) i k (i + k)
                        have hp2 : polN k < 2 := Nat.mod_lt _ (by omega)
                        have hbs := hbw7.setCell (p := ⟨g, i + k, none⟩) hg (.int .u8 ((subF f i k (i + k) ^^^ polN k : Nat) : Int))
                        have HX : Hid (bits BinOp.xor IntKind.u8 (subF f i k (i + k) : Int) (polN k : Int) = ((subF f i k (i + k) ^^^ polN k : Nat) : Int)) := u8_xor_nat (subF f i k (i + k)) (polN k) (by omega) (by omega)
                        have HSET : Hid (BitRow (wr.setCell ⟨g, i + k, none⟩ (.int .u8 ((subF f i k (i + k) ^^^ polN k : Nat) : Int))) g (n + 32) (subF f i (k + 1))) := hset
                        clear hset hrow7
                        generalize subF f i k (i + k) = b at *
                        have HPF := Lib.hid (pol_form k hlt7)
                        go_wp2_with fail
                        rw [HPF.out, HX.out]
                        go_roundw
                        case rel => exact ⟨k + 1, by omega, by go_num, HSET.out, hbs⟩
                        case measure => simp [intOf]; omega
                      · have hk10 : k = 33 := by omega
                        subst hk10
                        have hrow8 : BitRow wr g (n + 32) (divF f (i + 1)) := hrow7.same (fun j => (sub_all f (fun j => by rw [HF.out]; exact dat_lt _ _) i j HONE.out).symm)
                        clear hrow7
                        go_wp2_with fail
                        go_roundw
                        case rel => exact ⟨i + 1, by omega, by go_num, hrow8, hbw7⟩
                        case measure => simp [intOf]; omega
                  · have hzero : divF f i i = 0 := by omega
                    rw [hzero] at hcell
                    have hrow6 : BitRow wr g (n + 32) (divF f (i + 1)) := hrow5.same (fun j => div_same f (fun j => by rw [HF.out]; exact dat_lt _ _) i j hone)
                    clear hone hdl hzero hrow5
                    go_wp2_with fail
                    go_roundw
                    case rel => exact ⟨i + 1, by omega, by go_num, hrow6, hbw5⟩
                    case measure => simp [intOf]; omega
                · have hi9 : i = n := by omega
                  subst hi9
                  go_wp2_with fail
                  go_loopw [12, 13] (fun x j wr => ∃ k : Nat, k ≤ 32 ∧ x = .int .u32 ((Y % 2 ^ k : Nat) : Int) ∧ j = .int .i64 k ∧ BitRow wr g (i + 32) (divF f i) ∧ Below w.heap.size w wr) (fun _ j _ => 32 - (intOf j).toNat)
                  case atStart => exact ⟨0, Nat.zero_le _, by rw [Nat.pow_zero, Nat.mod_one]; rfl, rfl, hrow5, hbw5⟩
                  case round =>
                    obtain ⟨k, hk6, rfl, rfl, hrow7, hbw7⟩ := hrel
                    clear hrow5 hbw5
                    by_cases hlt7 : k < 32
                    · have hcell := hrow7.cell (i + k) (by omega)
                      have hfree := hrow7.free (i + k)
                      have hb2 : divF f i (i + k) < 2 := div_lt f (fun j => by rw [HF.out]; exact dat_lt _ _) i (i + k)
                      have HE : Hid (divF f i (i + k) ^^^ 1 = Y / 2 ^ k % 2) := by
                        have h := end_bit s.data.toList k hlt7
                        rw [long_end, ← HY.out, ← HF.out, ← Lib.size_eq, ← HN8.out] at h
                        exact h
                      have HO := Lib.hid (or_form Y k (divF f i (i + k)) hy hlt7 hb2 HE.out)
                      generalize divF f i (i + k) = b at *
                      go_wp2_with fail
                      rw [HO.out]
                      go_roundw
                      case rel => exact ⟨k + 1, by omega, rfl, by go_num, hrow7, hbw7⟩
                      case measure => simp [intOf]; omega
                    · have hk10 : k = 32 := by omega
                      subst hk10
                      rw [show Y % 2 ^ 32 = Y from Nat.mod_eq_of_lt hy]
                      go_wp2_with fail
                      go_ret
                      exact ⟨rfl, hbw7⟩

set_option maxHeartbeats 1000000 in
theorem walk (a0 : ByteArray) (w : World) (w0 : a0.size ≤ maxLen) (hT : Tabs w) :
    Calls Tryd.prog 3 #[.string a0] w fun e w' => e = .returned (.bool true) ∧ Below w.heap.size w w' := by
  unfold maxLen at w0
  have HT := Lib.hid hT
  clear hT
  by_cases h1 : 200 < a0.size
  · have hd : decide ((200 : Int) < (a0.size : Int)) = true := by simp; omega
    go_enter Tryd.func3, Tryd.ntmps3
    go_wp2_with (go_at_call 8; refine (head_any _ HT.out).mono ?_; rintro e w1 ⟨rfl, hb⟩)
    go_ret
    exact ⟨rfl, hb⟩
  · have hd : decide ((200 : Int) < (a0.size : Int)) = false := by simp; omega
    have HOF := Lib.hid (fun (W : World) (N : Nat) (hN : N = W.heap.size) (hW : Tabs W) => of_one a0 W N hN hW (by unfold maxLen; omega))
    have HLO := Lib.hid (fun (W : World) => long_any a0 W (by omega))
    generalize addN 0 a0.data.toList = R at *
    go_enter Tryd.func3, Tryd.ntmps3
    go_wp2_with fail
    refine (head_any _ HT.out).mono ?_
    rintro e w1 ⟨rfl, hb1⟩
    go_wp2_with fail
    refine (HOF.out _ _ rfl (HT.out.below hb1)).mono ?_
    rintro e w2 ⟨rfl, hb2'⟩
    have hb2 := hb1.trans (hb2'.mono hb1.size)
    clear hb1 hb2'
    go_wp2_with fail
    refine (HLO.out _).mono ?_
    rintro e w3 ⟨rfl, hb3'⟩
    have hb3 := hb2.trans (hb3'.mono hb2.size)
    go_wp2_with fail
    go_ret
    exact ⟨rfl, hb3⟩

theorem own : ownKnob Tryd.prog.godebug = none := by kernel_rfl
theorem laidOut : laidOutB Tryd.prog = true := by kernel_rfl
theorem gHi : Tryd.prog.globalNamed "orchard/sum.highTable" = some 0 := by kernel_rfl
theorem gLo : Tryd.prog.globalNamed "orchard/sum.lowTable" = some 1 := by kernel_rfl
theorem gHiType : (Tryd.prog.globals[0]?).map (·.type) = some 39 := by kernel_rfl
theorem gLoType : (Tryd.prog.globals[1]?).map (·.type) = some 39 := by kernel_rfl
theorem cellsTab : Tryd.prog.cellsOf 39 = 16 := by kernel_rfl
theorem cellsSum : Tryd.prog.cellsOf 24 = 1 := by kernel_rfl

theorem table_lo {W : World} (h : laidMetH Tryd.prog Rows.sumLongRow.laid W) : Lib.TabIs Tryd.prog W "orchard/sum.lowTable" .u32 LO :=
  Lib.tabIs_of_head (rest := [("orchard/sum.highTable", Rows.laid_orchard_sum_highTable)]) gLo gLoType Tryd.underlying39 Tryd.underlying24 cellsSum cellsTab h
theorem table_hi {W : World} (h : laidMetH Tryd.prog Rows.sumLongRow.laid W) : Lib.TabIs Tryd.prog W "orchard/sum.highTable" .u32 HI :=
  Lib.tabIs_of_head (rest := []) gHi gHiType Tryd.underlying39 Tryd.underlying24 cellsSum cellsTab (laidMet.tail (show laidMet Tryd.prog [("orchard/sum.lowTable", Rows.laid_orchard_sum_lowTable), ("orchard/sum.highTable", Rows.laid_orchard_sum_highTable)] W from h))
theorem tabs_of {W : World} (h : laidMetH Tryd.prog Rows.sumLongRow.laid W) : Tabs W := by
  have c0 := fun (j : Nat) (hj : j < 16) => (table_hi h).cell gHi j hj
  have c1 := fun (j : Nat) (hj : j < 16) => (table_lo h).cell gLo j hj
  refine ⟨⟨World.block_lt_of_cell? W _ (c0 0 (by decide)), World.block_lt_of_cell? W _ (c1 0 (by decide))⟩, fun j hj => ?_, fun j hj => ?_⟩
  · rw [c0 j hj, hi_cast j]
  · rw [c1 j hj, lo_cast j]

theorem contract (H : Type) (enc : TypeId × Value → H) (W : World) (base : Nat) (args : Array Value) (ds gs : List (DataW H)) (before : List MemPlace)
    (hval : ∀ (j : Nat) t v, Tryd.f3.params[j]? = some t → args[j]? = some v → Value.okWide Tryd.prog W .any base t v)
    (hW : DataW.Whole enc Tryd.prog Tryd.f3.params.toList Rows.sumLongSpec.vars false W args.toList ds gs before) (hL : laidMetH Tryd.prog Rows.sumLongRow.laid W) :
    Calls Tryd.prog 3 args W fun e W' => ∃ v, e = .returned v ∧ Rows.sumLongSpec.post enc Tryd.prog Tryd.f3 false true false false W args v W' := by
  have hT := tabs_of hL
  have hW' := hW
  obtain ⟨p, q, hA0, hV, rfl, hfz, hnd⟩ := hW
  have hA : DataW.TrodAll enc Tryd.prog W 0 (fun _ => true) true Tryd.f3.params.toList args.toList ds p := hA0
  rw [Tryd.params3] at hA hval
  obtain ⟨v0, vs0, d0, ds0, p0, q0, hargs, rfl, rfl, h0, r0⟩ := trodAll_cons hA
  obtain ⟨rfl, rfl, rfl⟩ := trodAll_nil r0
  obtain rfl : args = #[v0] := by cases args; simp_all
  obtain ⟨rfl, rfl⟩ := trodVars_none hV
  obtain ⟨a0, rfl, rfl, rfl, w0⟩ := open_string Tryd.underlying9 (hval 0 9 v0 rfl rfl) h0
  clear hA0
  refine (walk a0 W w0 hT).mono fun e W' ⟨he, bel⟩ => ?_
  subst he
  exact ⟨_, rfl, _, _, _, [], _, [], hW', trodAll_mk1 (shut_bool Tryd.underlying4 _), (trodAll_cons_mk (shut_string Tryd.underlying9 w0) trodAll_mk0), rfl, bel.frame _, fun h => by cases h⟩

def setTab (l : List Int) : Obj → Obj
  | .cells _ t frozen => .cells (l.map (Value.int .u32)).toArray t frozen
  | o => o
noncomputable def laidWorld (os : Os) : World :=
  { World.holding Tryd.prog os ⟨#[], #[], []⟩ with heap := ((World.holding Tryd.prog os ⟨#[], #[], []⟩).heap.modify 1 (setTab LO)).modify 0 (setTab HI) }
theorem laid_met (os : Os) : laidMet Tryd.prog Rows.sumLongRow.laid ((laidWorld os).forCall (fun _ _ => 0) ⟨#[], #[.string ByteArray.empty], []⟩).memory :=
  laidMet_of_run' 8 (by kernel_rfl) (by kernel_rfl)
theorem reads (os : Os) {H : Type} (enc : TypeId × Value → H) : ∃ places, DataW.whole enc Tryd.prog ((laidWorld os).forCall (fun _ _ => 0) ⟨#[], #[.string ByteArray.empty], []⟩).memory Tryd.f3.params.toList Rows.sumLongSpec.vars false #[Value.string ByteArray.empty].toList 8 = some ([.lit (.string [])], [], places) :=
  ⟨[], by kernel_rfl⟩

set_option maxRecDepth 100000 in
theorem lifted (os : Os) (started : os.Started) (H : Type) (enc : TypeId × Value → H) (F : Stop.Interp) :
    ReturnsInHanded {} Tryd.checked os 3 .any ((OpenSpec.ofChange Rows.sumLongSpec).preRow enc Tryd.prog Tryd.f3 Rows.sumLongRow.domain false Rows.sumLongRow.laid) (((OpenSpec.ofChange Rows.sumLongSpec).at F).post enc Tryd.prog Tryd.f3 false true false false) := by
  obtain ⟨places, hx⟩ := reads os enc
  refine returnsInHanded_of_row (C := Tryd.checked) (s := OpenSpec.ofChange Rows.sumLongSpec) own started (by kernel_rfl) Tryd.func3
    (witness_row_at (enc := enc) (C := Tryd.checked) false (laidWorld os) #[.string ByteArray.empty] rfl (by kernel_rfl) (by kernel_rfl) (by kernel_rfl)
      (OpenSpec.preRow_of_cond 8 hx (by kernel_rfl) (fun k hk => by cases hk) (by kernel_rfl) (laid_met os))) ?_
  intro W base args ds gs before hval hW _ _ _ hL _ _
  exact contract H enc W base args ds gs before hval hW hL

theorem said : Rows.SumLongSaid :=
  OpenClaim.holds_of_cond 3 Tryd.f3 rfl rfl rfl rfl rfl rfl rfl ⟨rfl, rfl, rfl, rfl, rfl⟩ rfl rfl rfl rfl rfl (by kernel_rfl) Tryd.func3 (by kernel_rfl)
    (of_decide_eq_true (by kernel_rfl)) (by unfold Func.isWrapper; first | (rw [if_pos (by decide +kernel)]; kernel_rfl) | (rw [if_neg (by decide +kernel)]; exact ⟨rfl, rfl⟩))
    (fun os started H enc _ F => by rw [OpenClaim.pre_eq_preRow]; exact lifted os started H enc F)

theorem plain (f : FuncId) (fn : Func) (hf : Tryd.pinned.checked.prog.funcNamed "orchard/orchardlaw02.SumLong" = some f) (hfn : Tryd.pinned.checked.prog.funcs[f]? = some fn) :
    false = Tryd.pinned.checked.prog.looks [] ∧ ∀ (j : Nat) t, fn.params[j]? = some t → Tryd.pinned.checked.prog.wantsStandIn t = false := by
  obtain rfl : f = 3 := Option.some.inj ((show Tryd.prog.funcNamed "orchard/orchardlaw02.SumLong" = some 3 by kernel_rfl).symm.trans hf) |>.symm
  obtain rfl : fn = Tryd.f3 := (Option.some.inj (Tryd.func3.symm.trans hfn)).symm
  refine ⟨by kernel_rfl, fun j t ht => ?_⟩
  rw [Tryd.params3] at ht
  have hm := Array.mem_of_getElem? ht
  simp at hm
  subst hm
  exact (show Tryd.prog.wantsStandIn 9 = false by kernel_rfl)

theorem card : Rows.SumLongCardSaid :=
  Claim7.holds_tied_plain_at .later [] _ _ _ _ said (fun _ h => by cases h) (by kernel_rfl) (fun _ h => by cases h) sumLong_row_tie rfl ⟨rfl, rfl⟩ (by kernel_rfl) rfl plain (by kernel_rfl)
end Go.Proofs.YtefofhejaafgnaaDoor.sumLong
