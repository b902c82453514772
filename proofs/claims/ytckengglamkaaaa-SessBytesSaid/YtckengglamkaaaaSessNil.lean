/- The nil table. No conditions. -/
import Derived.Test.YtckengglamkaaaaSessAll
namespace Go.Proofs.Ytckengglamkaaaa
open Go.RowKit Go.Maps Go.Sort Go.Shelf
set_option linter.unusedVariables false
set_option maxRecDepth 100000

theorem look_nilS (id : Int) (hz : InR id) (w : World) : (Instr.lookup 61 (.map none) (.int .i64 id) true).run Try.prog w = .ok (.tuple #[.agg #[.int .i64 0, .string ⟨#[]⟩], .bool false]) w := by
  simpa [ssV, Ss.zero] using Maps.look_nil (w := w) true lawI und_map10 (zero_ss _) (keyI hz)
theorem has_nil (id : Int) (hz : InR id) (w : World) : Calls Try.prog 14 #[.pointer none, .int .i64 id] w fun e w' => e = .returned (.bool false) ∧ Below w.heap.size w w' := by
  have HA := Lib.hid (sessions_nil w)
  have hl := look_nilS id hz w
  go_enter Try.func14, Try.ntmps14
  go_wp2_with fail
  refine HA.out.mono ?_
  rintro e w' ⟨rfl, rfl⟩
  go_wp2_with fail
  go_ret
  exact ⟨rfl, (Below.refl _ _).alloc (Nat.le_refl _) _⟩
theorem seen_nil (id req : Int) (hz : InR id) (w : World) : Calls Try.prog 16 #[.pointer none, .int .i64 id, .int .i64 req] w fun e w' => e = .returned (.tuple #[.string ⟨#[]⟩, .bool false, .int .i64 17]) ∧ Below w.heap.size w w' := by
  have HA := Lib.hid (sessions_nil w)
  have hl := look_nilS id hz w
  go_enter Try.func16, Try.ntmps16
  go_wp2_with fail
  refine HA.out.mono ?_
  rintro e w' ⟨rfl, rfl⟩
  go_wp2_with fail
  go_ret3
  exact ⟨rfl, (Below.refl _ _).alloc (Nat.le_refl _) _⟩
theorem open_nil (id : Int) (w : World) : Calls Try.prog 17 #[.pointer none, .int .i64 id] w fun e w' => e = .returned (.int .i64 1) ∧ Below w.heap.size w w' := by
  go_enter Try.func17, Try.ntmps17
  go_wp2_with fail
  go_ret
  exact ⟨rfl, Below.refl _ _⟩
theorem close_nil (id : Int) (hz : InR id) (w : World) : Calls Try.prog 18 #[.pointer none, .int .i64 id] w fun e w' => e = .returned (.int .i64 17) ∧ Below w.heap.size w w' := by
  have HA := Lib.hid (has_nil id hz w)
  go_enter Try.func18, Try.ntmps18
  go_wp2_with fail
  refine HA.out.mono ?_
  rintro e w' ⟨rfl, b⟩
  go_wp2_with fail
  go_ret
  exact ⟨rfl, b⟩
theorem keep_nil (id req : Int) (s : ByteArray) (hz : InR id) (w : World) : Calls Try.prog 19 #[.pointer none, .int .i64 id, .int .i64 req, .string s] w fun e w' => e = .returned (.int .i64 17) ∧ Below w.heap.size w w' := by
  have HA := Lib.hid (seen_nil id req hz w)
  go_enter Try.func19, Try.ntmps19
  go_wp2_with fail
  refine HA.out.mono ?_
  rintro e w' ⟨rfl, b⟩
  go_wp2_with fail
  go_ret
  exact ⟨rfl, b⟩
theorem clone_nil (w : World) : Calls Try.prog 21 #[.pointer none] w fun e w' => ∃ tb mb, e = .returned (.pointer (some ⟨tb, 0, none⟩)) ∧ TbW w' tb mb 0 0 (fun _ => none) ∧ Below w.heap.size w w' := by
  have HA := Lib.hid (new_any w)
  go_enter Try.func21, Try.ntmps21
  go_wp2_with fail
  refine HA.out.mono ?_
  rintro e w' ⟨tb, mb, rfl, H, b, _, _⟩
  go_wp2_with fail
  go_ret
  exact ⟨tb, mb, rfl, H, b⟩
set_option maxHeartbeats 4000000 in
theorem all_nil (w : World) : Calls Try.prog 20 #[.pointer none] w fun e w' => ∃ a c, e = .returned (.slice a 0 c) ∧ Below w.heap.size w w' := by
  have HSE := sessions_nil w
  refine (callsIn_wide (n := 6)).1 ?_
  have hseq : SeqGives Fence.wide 2 Try.prog 44 #[.pointer (some ⟨w.heap.size, 0, none⟩)] encZ (fun ss => ss = []) 0 (w.alloc (.cells #[.map none] 61)) :=
    AnyZI.keys_gives_nil (ρ := Try.keysA_ren) { Try.keysA with } Fence.wide _ trivial rfl w.heap.size _ (by simp) (by simp)
  have cK : ∀ mb W, CallsIn Fence.wide 5 Try.prog 34 #[.map mb] W fun e w' => e = .returned (.func (.func 44) #[] #[.pointer (some ⟨W.heap.size, 0, none⟩)]) ∧ w' = W.alloc (.cells #[.map mb] 61) := fun mb W => AnyZI.keys_in Try.keysA Fence.wide 5 trivial rfl mb W
  have cS := AnyZI.sorted_in Try.sortedA Fence.wide 5 trivial trivial trivial trivial rfl (by omega) (sortsA _) (enters_of Try.func43 (by kernel_rfl) rfl) 44 #[.pointer (some ⟨w.heap.size, 0, none⟩)] trivial (enters_of Try.func44 (by kernel_rfl) rfl) _ _ (by unfold maxLen; omega) (by omega) _ hseq
  change CallsIn _ _ Try.prog 33 _ _ _ at cS
  have cZ : CallsIn Fence.wide 5 Try.prog 30 #[.pointer none] w _ := callsIn_wide.2 HSE
  have hfK : Fence.wide.fn 34 := trivial
  have hfS : Fence.wide.fn 33 := trivial
  have hfZ : Fence.wide.fn 30 := trivial
  refine callsIn_of_wp Try.func20 rfl trivial ?_ rfl
  simp only [Try.ntmps20, List.size_toArray, List.length_cons, List.length_nil, Nat.reduceAdd, Nat.reduceSub, Array.replicate_succ, Array.replicate_zero, List.push_toArray, List.append_toArray, List.nil_append, List.cons_append]
  gi_wp2_with (first
    | (gi_at_call 30; refine cZ.mono ?_; rintro e w' ⟨rfl, hw0⟩; obtain rfl := hw0.symm)
    | (gi_at_call 34; refine (cK _ _).mono ?_; rintro e w' ⟨rfl, rfl⟩)
    | (gi_at_call 33; refine cS.mono ?_; rintro e w' ⟨v, ss, rfl, hS, hrow, hnil, hb⟩))
  go_ret
  subst hS
  have hv : ∃ a c, v = .slice a 0 c := by
    rcases hrow.2 with ⟨h1, _⟩ | ⟨g, c, cur, h1, _⟩
    · exact ⟨_, _, h1⟩
    · exact ⟨_, _, h1⟩
  obtain ⟨a, c, rfl⟩ := hv
  exact ⟨a, c, rfl, ((Below.refl _ w).alloc (Nat.le_refl _) _).trans (hb.mono (by simp))⟩
end Go.Proofs.Ytckengglamkaaaa
