/- The nil tree. No conditions. -/
import Derived.Test.YtglgnelolcmaoaaGreatDoorTreePaths
import Derived.Test.YtglgnelolcmaoaaGreatDoorTreeSame
import Derived.Laws.IdiomRangeMap
namespace Go.Proofs.YtglgnelolcmaoaaGreatDoor
open Go.RowKit Go.Maps Go.Sort Go.Shelf
set_option linter.unusedVariables false
set_option linter.unusedSimpArgs false
set_option maxRecDepth 100000

theorem look_nilT (z : List UInt8) (hz : z.length ≤ maxLen) (w : World) : (Instr.lookup 68 (.map none) (.string (bs z)) true).run Tryz.prog w = .ok (.tuple #[ndV Nd.zero, .bool false]) w := by
  simpa using Maps.look_nil (w := w) true lawS und_map9 (zero_nd _) (keyS z hz)
theorem len_nilT (w : World) : Calls Tryz.prog 17 #[.pointer none] w fun e w' => e = .returned (.int .i64 0) ∧ w' = w := by
  have HA := Lib.hid (nil_all w)
  go_enter Tryz.func17, Tryz.ntmps17
  go_wp2_with fail
  refine HA.out.mono ?_
  rintro e w' ⟨rfl, hw⟩
  obtain rfl := hw.symm
  go_wp2_with fail
  go_ret
  exact ⟨rfl, rfl⟩
set_option maxHeartbeats 4000000 in
theorem get_nilT (w : World) : Calls Tryz.prog 14 #[.pointer none, .string ⟨#[47]⟩] w fun e w' => e = .returned (.tuple #[ndV Nd.zero, .int .i64 11]) ∧ Below w.heap.size w w' := by
  have HC := Lib.hid (fun W : World => check_any ⟨#[47]⟩ W)
  have hE : checkE (⟨#[47]⟩ : ByteArray).data.toList = 0 := by decide
  rw [hE] at HC
  have HL := Lib.hid (fun W : World => look_nilT [47] (by decide) W)
  have b0 := (Below.refl _ w).alloc (Nat.le_refl _) (.cells (ndC Nd.zero) 40)
  have N0 := NdB.new w Nd.zero
  clear hE
  go_enter Tryz.func14, Tryz.ntmps14
  go_wp2_with fail
  refine (HC.out _).mono ?_
  rintro e w1 ⟨rfl, b1⟩
  have N1 := N0.below b1
  have HA := Lib.hid (nil_all w1)
  have hl := HL.out w1
  rw [show bs [47] = (⟨#[47]⟩ : ByteArray) from rfl] at hl
  replace b1 := b0.trans (b1.mono b0.size)
  obtain ⟨w2, hst, N2, b2, hz2⟩ := newN w1 Nd.zero
  have N3 := N1.below b2
  obtain ⟨w4, hst4, N4, K4, _, hz4⟩ := storeN N3 Nd.zero
  have b4 := K4 w.heap.size w (Nat.le_refl _) (b1.trans (b2.mono b1.size))
  simp only [ndV, Nd.zero] at hl hst hst4
  have HST := Lib.hid hst
  have HST4 := Lib.hid hst4
  clear N0 N1 b0 HC HL hst hst4 hz2 hz4 N2 N3 K4 b2
  go_wp2_with fail
  refine HA.out.mono ?_
  rintro e w5 ⟨rfl, hw⟩
  obtain rfl := hw.symm
  go_wp2_with (first | (refine wpList_store_run HST.out rfl rfl rfl rfl ?_) | (refine wpList_store_run HST4.out rfl rfl rfl rfl ?_))
  exact bodyPost_ret (get_results _ _ w.heap.size Nd.zero 11 rfl rfl N4) rfl ⟨rfl, b4⟩
set_option maxHeartbeats 4000000 in
theorem equal_nil (w : World) : Calls Tryz.prog 43 #[.map none, .map none] w fun e w' => e = .returned (.bool true) ∧ Below w.heap.size w w' := by
  have hrg := run_range_nilMap (P := Tryz.prog) w 68 9 40 und_map9
  have hnx : ∀ ty, (Instr.next (.pointer (some ⟨w.heap.size, 0, none⟩)) false ty).run Tryz.prog (w.alloc (.mapIter none 0 #[] 0)) = _ := fun ty => run_next_nilMap _ ty 0 0 #[]
  go_enter Tryz.func43, Tryz.ntmps43
  go_wp2_with fail
  refine wp_loop_rounds 1 ?_
  rw [rounds_succ]
  go_wp2_with fail
  go_ret
  exact ⟨rfl, (Below.refl _ w).alloc (Nat.le_refl _) _⟩
set_option maxHeartbeats 4000000 in
theorem equal_ne (mb k c : Nat) (T : List UInt8 → Option Nd) (w : World) (h : MapN w mb k c T) (hc : 1 ≤ c ∧ c ≤ 1000) : Calls Tryz.prog 43 #[.map none, .map (some mb)] w fun e w' => e = .returned (.bool false) ∧ Below w.heap.size w w' := by
  have hl := h.len
  have e1 : ((0 : Int) != (c : Int)) = true := by simp; omega
  clear h
  go_enter Tryz.func43, Tryz.ntmps43
  go_wp2_with fail
  go_ret
  exact ⟨rfl, Below.refl _ _⟩
theorem same_nils (w : World) : Calls Tryz.prog 19 #[.pointer none, .pointer none] w fun e w' => e = .returned (.bool true) ∧ Below w.heap.size w w' := by
  have HA1 := Lib.hid (nil_all w)
  have HE := Lib.hid (equal_nil w)
  go_enter Tryz.func19, Tryz.ntmps19
  go_wp2_with fail
  refine HA1.out.mono ?_
  rintro e w1 ⟨rfl, hw⟩
  obtain rfl := hw.symm
  go_wp2_with fail
  refine HA1.out.mono ?_
  rintro e w1 ⟨rfl, hw⟩
  obtain rfl := hw.symm
  go_wp2_with fail
  refine HE.out.mono ?_
  rintro e w1 ⟨rfl, b1⟩
  go_wp2_with fail
  go_ret
  exact ⟨rfl, b1⟩
theorem same_nilT (tb mb k c : Nat) (T : List UInt8 → Option Nd) (w : World) (h : TrW w tb mb k c T) (hc : 1 ≤ c ∧ c ≤ 1000) : Calls Tryz.prog 19 #[.pointer none, .pointer (some ⟨tb, 0, none⟩)] w fun e w' => e = .returned (.bool false) ∧ Below w.heap.size w w' := by
  have HA1 := Lib.hid (nil_all w)
  have HA2 := Lib.hid (all_any tb mb w h.cell)
  have HE := Lib.hid (equal_ne mb k c T w h.map hc)
  clear h
  go_enter Tryz.func19, Tryz.ntmps19
  go_wp2_with fail
  refine HA1.out.mono ?_
  rintro e w1 ⟨rfl, hw⟩
  obtain rfl := hw.symm
  go_wp2_with fail
  refine HA2.out.mono ?_
  rintro e w1 ⟨rfl, hw⟩
  obtain rfl := hw.symm
  go_wp2_with fail
  refine HE.out.mono ?_
  rintro e w1 ⟨rfl, b1⟩
  go_wp2_with fail
  go_ret
  exact ⟨rfl, b1⟩
theorem clone_nilT (w : World) : Calls Tryz.prog 20 #[.pointer none] w fun e w' => ∃ tb mb, e = .returned (.pointer (some ⟨tb, 0, none⟩)) ∧ TrW w' tb mb 1 1 rootT ∧ Below w.heap.size w w' := by
  have HA := Lib.hid (new_any w)
  go_enter Tryz.func20, Tryz.ntmps20
  go_wp2_with fail
  refine HA.out.mono ?_
  rintro e w' ⟨tb, mb, rfl, H, b, _, _⟩
  go_wp2_with fail
  go_ret
  exact ⟨tb, mb, rfl, H, b⟩
set_option maxHeartbeats 4000000 in
theorem paths_nilT (w : World) : Calls Tryz.prog 18 #[.pointer none] w fun e w' => ∃ a c, e = .returned (.slice a 0 c) ∧ Below w.heap.size w w' := by
  have HSE := nil_all w
  refine (callsIn_wide (n := 6)).1 ?_
  have hseq : SeqGives Fence.wide 2 Tryz.prog 62 #[.pointer (some ⟨w.heap.size, 0, none⟩)] encStr (fun ss => ss = []) 0 (w.alloc (.cells #[.map none] 68)) :=
    AnyZ.keys_gives_nil (ρ := Tryz.keysA_ren) { Tryz.keysA with } Fence.wide _ trivial rfl w.heap.size _ (by simp) (by simp)
  have cK : ∀ mb W, CallsIn Fence.wide 5 Tryz.prog 42 #[.map mb] W fun e w' => e = .returned (.func (.func 62) #[] #[.pointer (some ⟨W.heap.size, 0, none⟩)]) ∧ w' = W.alloc (.cells #[.map mb] 68) := fun mb W => AnyZ.keys_in Tryz.keysA Fence.wide 5 trivial rfl mb W
  have cS := AnyZ.sorted_in Tryz.sortedA Fence.wide 5 trivial trivial trivial trivial rfl (by omega) (sortsA _) (enters_of Tryz.func40 (by kernel_rfl) rfl) 62 #[.pointer (some ⟨w.heap.size, 0, none⟩)] trivial (enters_of Tryz.func62 (by kernel_rfl) rfl) _ 0 (by decide) (by decide) _ hseq
  change CallsIn _ _ Tryz.prog 41 _ _ _ at cS
  have cZ : CallsIn Fence.wide 5 Tryz.prog 39 #[.pointer none] w _ := callsIn_wide.2 HSE
  have hfK : Fence.wide.fn 42 := trivial
  have hfS : Fence.wide.fn 41 := trivial
  have hfZ : Fence.wide.fn 39 := trivial
  refine callsIn_of_wp Tryz.func18 rfl trivial ?_ rfl
  simp only [Tryz.ntmps18, List.size_toArray, List.length_cons, List.length_nil, Nat.reduceAdd, Nat.reduceSub, Array.replicate_succ, Array.replicate_zero, List.push_toArray, List.append_toArray, List.nil_append, List.cons_append]
  gi_wp2_with (first
    | (gi_at_call 39; refine cZ.mono ?_; rintro e w' ⟨rfl, hw0⟩; obtain rfl := hw0.symm)
    | (gi_at_call 42; refine (cK _ _).mono ?_; rintro e w' ⟨rfl, rfl⟩)
    | (gi_at_call 41; refine cS.mono ?_; rintro e w' ⟨v, ss, rfl, hS, hrow, hnil, hb⟩))
  go_ret
  subst hS
  have hv : ∃ a c, v = .slice a 0 c := by
    rcases hrow.2 with ⟨h1, _⟩ | ⟨g, c, cur, h1, _⟩
    · exact ⟨_, _, h1⟩
    · exact ⟨_, _, h1⟩
  obtain ⟨a, c, rfl⟩ := hv
  exact ⟨a, c, rfl, ((Below.refl _ w).alloc (Nat.le_refl _) _).trans (hb.mono (by simp))⟩
end Go.Proofs.YtglgnelolcmaoaaGreatDoor
