/- Check and Below of package path. No conditions beyond those in each statement. -/
import Derived.Test.YtbbdokfankgllaaDoorPathSplit
namespace Go.Proofs.YtbbdokfankgllaaDoor
open Go.RowKit Go.Shelf
set_option linter.unusedVariables false
set_option maxRecDepth 100000
attribute [local go_sem] Oper.semAt_some

theorem wide_in {P : Program} {f : Nat} {args : Array Value} {w : World} {R : Ending → World → Prop} (h : Calls P f args w R) (n : Nat) : CallsIn Fence.wide n P f args w R := callsIn_wide.2 h
theorem at_new {w : World} {o : Obj} {k : Nat} (hk : k = w.heap.size) : (w.alloc o).heap[k]? = some o := by rw [hk]; exact World.alloc_heap_new w o
theorem at_old {w : World} {o x : Obj} {k : Nat} (h : w.heap[k]? = some x) : (w.alloc o).heap[k]? = some x := (Below.heap_alloc w o k (Array.getElem?_eq_some_iff.1 h).1).trans h
theorem checkL_root : checkL [47] = true := by decide
theorem checkL_off {l : List UInt8} (hr : l ≠ [47]) (h : ¬ (l.head? = some 47 ∧ l.length ≤ 60)) : checkL l = false := by
  unfold checkL
  by_cases h1 : l.head? = some 47
  · have h2 : ¬ l.length ≤ 60 := fun e => h ⟨h1, e⟩
    simp [hr, h2]
  · simp [hr, h1]
theorem checkL_on {l : List UInt8} (hr : 47 :: l ≠ [47]) (h : (47 :: l).length ≤ 60) : checkL (47 :: l) = (pieces l).all partL := by
  unfold checkL
  simp at h
  simp at hr
  simp [hr, h]
theorem prefix_slash (l : List UInt8) : Lib.hasPrefix l [47] = decide (l.head? = some 47) := by
  unfold Lib.hasPrefix
  cases l with
  | nil => simp [List.isPrefixOf]
  | cons a r => 
    by_cases h : a = 47
    · subst h; simp [List.isPrefixOf]
    · have h2 : ¬ (47 = a) := fun e => h e.symm
      simp [List.isPrefixOf, h, h2]
set_option maxHeartbeats 2000000 in
theorem check_root (w : World) : Calls Tryd.prog 32 #[.string (bs [47])] w fun e w' => e = .returned (.int .i64 0) ∧ Below w.heap.size w w' := by
  have er := eq_true (bs_list [47])
  go_enter Tryd.func32, Tryd.ntmps32
  go_wp2_with fail
  exact bodyPost_ret (v := .int .i64 0) (by simp [results, Tryd.results32, go_sem]) rfl ⟨rfl, (Below.refl _ _).alloc (Nat.le_refl _) _⟩
set_option maxHeartbeats 2000000 in
theorem check_off (s : ByteArray) (w : World) (hr : s.data.toList ≠ [47]) (h : ¬ (s.data.toList.head? = some 47 ∧ s.data.toList.length ≤ 60)) : Calls Tryd.prog 32 #[.string s] w fun e w' => e = .returned (.int .i64 10) ∧ Below w.heap.size w w' := by
  have er := eq_false hr
  have HA := Lib.hid (fun W : World => Tryd.strings_CutPrefix s (bs [47]) W)
  have hz := Lib.size_eq s
  by_cases hp : s.data.toList.head? = some 47
  · have hP : Lib.hasPrefix s.data.toList [47] = true := by rw [prefix_slash]; simpa using hp
    have hl : 60 < s.size := by rw [hz]; exact Nat.lt_of_not_le fun e => h ⟨hp, e⟩
    have e2 : decide ((60 : Int) < (s.size : Int)) = true := by simp; omega
    have HP := Lib.hid hP
    clear hp hP h hr hz
    go_enter Tryd.func32, Tryd.ntmps32
    go_wp2_with fail
    refine (HA.out _).mono ?_
    rintro e w' ⟨rfl, rfl⟩
    rw [bs_list, HP.out]
    go_wp2_with fail
    exact bodyPost_ret (v := .int .i64 10) (by simp [results, Tryd.results32, go_sem]) rfl ⟨rfl, ((Below.refl _ _).alloc (Nat.le_refl _) _)⟩
  · have hP : Lib.hasPrefix s.data.toList [47] = false := by rw [prefix_slash]; simpa using hp
    have HP := Lib.hid hP
    clear hp hP h hr hz
    go_enter Tryd.func32, Tryd.ntmps32
    go_wp2_with fail
    refine (HA.out _).mono ?_
    rintro e w' ⟨rfl, rfl⟩
    rw [bs_list, HP.out]
    go_wp2_with fail
    exact bodyPost_ret (v := .int .i64 10) (by simp [results, Tryd.results32, go_sem]) rfl ⟨rfl, ((Below.refl _ _).alloc (Nat.le_refl _) _)⟩
/-- What Check answers of a slash and l. -/
def partsE (l : List UInt8) : Int := if (pieces l).all partL then 0 else 10
set_option maxHeartbeats 4000000 in
theorem check_in (l : List UInt8) (hl : l.length ≤ 59) (hne : l ≠ []) (w : World) :
    CallsIn Fence.wide 6 Tryd.prog 32 #[.string (bs (47 :: l))] w fun e w' => e = .returned (.int .i64 (partsE l)) ∧ Below w.heap.size w w' := by
  have hro : Fence.wide.round = none := rfl
  have er := eq_false (s := bs (47 :: l)) (l := [47]) (by rw [bs_list]; simpa using hne)
  have HA := Lib.hid (fun W : World => Tryd.strings_CutPrefix (bs (47 :: l)) (bs [47]) W)
  have hP : Lib.hasPrefix (47 :: l) [47] = true := by rw [prefix_slash]; simp
  have HP := Lib.hid hP
  have hT : Lib.trimPrefix (47 :: l) [47] = l := by unfold Lib.trimPrefix; rw [if_pos hP]; rfl
  have HT := Lib.hid hT
  have hz : (bs (47 :: l)).size = l.length + 1 := by rw [bs_size]; simp
  have e2 : decide ((60 : Int) < ((bs (47 :: l)).size : Int)) = false := by simp; omega
  have HZ := Lib.hid hz
  have hzb : (bs (47 :: l)).size ≤ 60 := by omega
  clear hP hT hz hne
  refine callsIn_of_wp_marks Tryd.func32 rfl trivial ?_ hro
  simp only [Tryd.ntmps32, List.size_toArray, List.length_cons, List.length_nil, Nat.reduceAdd, Nat.reduceSub, Array.replicate_succ, Array.replicate_zero, List.push_toArray, List.append_toArray, List.nil_append, List.cons_append]
  gi_wp2_with (refine ⟨trivial, ?_⟩; first | (gi_at_call 46; refine (callsIn_wide.2 (HA.out _)).mono ?_; rintro e w' ⟨rfl, rfl⟩; rw [bs_list, bs_list, HP.out, HT.out]) | (gi_at_call 47; refine (splitSeq2_in _ (by omega) _ _ _).mono ?_; rintro e w' ⟨rfl, rfl⟩))
  obtain ⟨h, hh⟩ : ∃ h, h = w.heap.size := ⟨_, rfl⟩
  obtain ⟨W0, hW0⟩ : ∃ W0, W0 = (((w.alloc (.cells #[.int .i64 0] 42)).alloc (.cells #[.string ⟨l.toArray⟩] 9)).alloc (.cells #[.string ⟨#[47]⟩] 9)).alloc (.cells #[.int .i64 0] 3) := ⟨_, rfl⟩
  have hs0 : W0.heap.size = h + 4 := by rw [hW0, hh]; simp
  have hb0 : Below w.heap.size w W0 := by rw [hW0]; exact ((((Below.refl _ _).alloc (Nat.le_refl _) _).alloc (by simp) _).alloc (by simp; omega) _).alloc (by simp; omega) _
  have hbx : Bx (h + 2) (h + 1) (h + 3) l W0 := by
    rw [hW0, hh]
    exact ⟨at_old (at_new (by simp)), at_old (at_old (at_new (by simp))), at_new (by simp)⟩
  have hres : W0.heap[h]? = some (.cells #[.int .i64 0] 42 (0, 0)) := by
    rw [hW0, hh]; exact at_old (at_old (at_old (at_new rfl)))
  rw [← hW0, ← hh]
  rw [← hh] at hb0
  clear hW0
  have HH := Lib.hid hh
  clear hh
  refine wpIn_range_box hro (by omega) (gf := 66) (lb := #[.pointer (some ⟨h + 2, 0, none⟩), .pointer (some ⟨h + 1, 0, none⟩), .pointer (some ⟨h + 3, 0, none⟩)]) rfl trivial (enters_of Tryd.func66 (by kernel_rfl) rfl)
    (split_box _ (by omega) (h + 2) (h + 1) (h + 3) l (by omega) W0 (by omega) (by omega) (by omega) hbx) (by omega) Below.trans (fun W j o o' hj hw hc hk => belowK_b (Nat.le_refl _) W j o o' hj hw hc hk) (fun _ => rfl)
    (fun pre W => Below h w W ∧ W.heap[h]? = some (.cells #[.int .i64 0] 42 (0, 0)) ∧ Hid (pre.all partL = true))
    (fun pre W => Below h w W ∧ W.heap[h]? = some (.cells #[.int .i64 10] 42 (0, 0)) ∧ Hid (pre.all partL = false))
    ?hI ?hIx ?h0 (fun x => { tmps := #[.string (bs (47 :: l)), undef, .pointer (some ⟨h, 0, none⟩), .string ⟨l.toArray⟩, .bool true, .string (bs x), .string (bs (47 :: l)), .bool false, .tuple #[.string ⟨l.toArray⟩, .bool true], .string (bs (47 :: l)), .tuple #[.string ⟨l.toArray⟩, .bool true], .string ⟨l.toArray⟩, .bool true, .bool true, .bool false, .bool false, .string (bs (47 :: l)), .int .i64 ((bs (47 :: l)).size : Int), .bool false, .bool false, .string ⟨l.toArray⟩, .func (.func 66) #[] #[.pointer (some ⟨h + 2, 0, none⟩), .pointer (some ⟨h + 1, 0, none⟩), .pointer (some ⟨h + 3, 0, none⟩)], .string (bs x), undef, undef, undef], defers := [] }) ?assign ?body ?done ?stop
  case hI =>
    rintro s A B row ⟨i1, i2, i3⟩ hg hr
    have hne : ∀ k, k ≤ h → some k ≠ row := fun k hk e => by have := hr k e.symm; omega
    have hlt := (Array.getElem?_eq_some_iff.1 i2).1
    exact ⟨i1.trans ⟨hg.os, hg.tape, hg.output, hg.size, fun k hk => hg.block k (by omega) (hne k (by omega))⟩, (hg.block h hlt (hne h (Nat.le_refl _))).trans i2, i3⟩
  case hIx =>
    rintro s A B row ⟨i1, i2, i3⟩ hg hr
    have hne : ∀ k, k ≤ h → some k ≠ row := fun k hk e => by have := hr k e.symm; omega
    have hlt := (Array.getElem?_eq_some_iff.1 i2).1
    exact ⟨i1.trans ⟨hg.os, hg.tape, hg.output, hg.size, fun k hk => hg.block k (by omega) (hne k (by omega))⟩, (hg.block h hlt (hne h (Nat.le_refl _))).trans i2, i3⟩
  case h0 => exact ⟨hb0, hres, rfl⟩
  case assign =>
    intro l' x W K hK
    gi_wp2
    exact hK
  case body =>
    rintro l' pre x W hlo ⟨i1, i2, i3⟩
    have c2 : W.cell? ⟨h, 0, none⟩ = some (.int .i64 0) := by simp [World.cell?, i2]
    have f2 : W.frozen? ⟨h, 0, none⟩ = false := by simp [World.frozen?, i2]
    have hW : h < W.heap.size := (Array.getElem?_eq_some_iff.1 i2).1
    cases hp : partL x
    · have HPX := Lib.hid hp
      clear hp
      gi_wp2_with (refine ⟨trivial, ?_⟩; gi_at_call 48; refine (CallsIn.inRound l' (callsIn_wide.2 (part_any _ _))).mono ?_; rintro e w' ⟨rfl, rfl⟩; rw [bs_list, HPX.out])
      exact ⟨(KeepsOthers.setCell _ _ _).from _, i1.setCell (Nat.le_refl _) _, by have := bset (i := 0) (u := Value.int .i64 10) i2; exact this, by show Hid _; exact Lib.hid (by rw [List.all_append]; simp [HPX.out])⟩
    · have HPX := Lib.hid hp
      clear hp
      gi_wp2_with (refine ⟨trivial, ?_⟩; gi_at_call 48; refine (CallsIn.inRound l' (callsIn_wide.2 (part_any _ _))).mono ?_; rintro e w' ⟨rfl, rfl⟩; rw [bs_list, HPX.out])
      exact ⟨KeepsFrom.refl _ _, Below.refl _ _, i1, i2, by show Hid _; exact Lib.hid (by rw [List.all_append, i3.out]; simp [HPX.out])⟩
  case done =>
    rintro D ys W hD rfl ⟨i1, i2, i3⟩ hDW
    have c2 : W.cell? ⟨h, 0, none⟩ = some (.int .i64 0) := by simp [World.cell?, i2]
    have f2 : W.frozen? ⟨h, 0, none⟩ = false := by simp [World.frozen?, i2]
    have hE : partsE l = 0 := by unfold partsE; rw [if_pos i3.out]
    have HE := Lib.hid hE
    clear hE
    gi_wp2
    have hD2 := (KeepsOthers.setCell W ⟨h, 0, none⟩ (.int .i64 0)).same D _ hDW rfl
    refine ⟨by simp, .inl ⟨_, _, rfl, run_takeDeferred hD2, ?_⟩⟩
    have hb2 : W.heap[h]? = some (.cells #[.int .i64 0] 42 (0, 0)) := i2
    have hDh : D ≠ h := by omega
    have c3 : ((W.setCell ⟨h, 0, none⟩ (.int .i64 0)).putObj D (.deferred none)).cell? ⟨h, 0, none⟩ = some (.int .i64 0) := by
      have := bset (i := 0) (u := Value.int .i64 0) i2
      simp only [World.cell?]
      rw [World.putObj_heap_other (by omega), this]; rfl
    refine ⟨_, by simp [results, Tryd.results32, go_sem, c3]; rfl, by rw [HE.out], ?_⟩
    have hb : Below h w (W.setCell ⟨h, 0, none⟩ (.int .i64 0)) := i1.setCell (Nat.le_refl _) _
    rw [← HH.out]
    exact hb.trans (belowK_b (w := w) (by rw [HH.out]; exact Nat.le_refl _) _ D _ _ (by have := HH.out; omega) hD2 rfl rfl)
  case stop =>
    rintro D pre W hD ⟨suf, hsuf⟩ ⟨i1, i2, i3⟩ hDW
    have hE : partsE l = 10 := by unfold partsE; rw [if_neg (by rw [← hsuf, List.all_append, i3.out]; simp)]
    have HE := Lib.hid hE
    clear hE hsuf
    gi_wp2
    refine ⟨by simp, .inl ⟨_, _, rfl, run_takeDeferred hDW, ?_⟩⟩
    have c3 : (W.putObj D (.deferred none)).cell? ⟨h, 0, none⟩ = some (.int .i64 10) := by
      simp only [World.cell?]
      rw [World.putObj_heap_other (by omega), i2]; rfl
    refine ⟨_, by simp [results, Tryd.results32, go_sem, c3]; rfl, by rw [HE.out], ?_⟩
    rw [← HH.out]
    exact i1.trans (belowK_b (w := w) (by rw [HH.out]; exact Nat.le_refl _) _ D _ _ (by have := HH.out; omega) hDW rfl rfl)
/-- What Check answers of any text. -/
def checkE (l : List UInt8) : Int := if checkL l then 0 else 10
theorem check_any (s : ByteArray) (w : World) :
    Calls Tryd.prog 32 #[.string s] w fun e w' => e = .returned (.int .i64 (checkE s.data.toList)) ∧ Below w.heap.size w w' := by
  by_cases hr : s.data.toList = [47]
  · have e : s = bs [47] := by rw [← hr, bs_of]
    have : checkE s.data.toList = 0 := by rw [hr]; decide
    rw [this, e]; exact check_root w
  · by_cases h : s.data.toList.head? = some 47 ∧ s.data.toList.length ≤ 60
    · cases hl : s.data.toList with
      | nil => rw [hl] at h; simp at h
      | cons a l =>
        rw [hl] at h hr
        obtain rfl : a = 47 := by simpa using h.1
        have e : s = bs (47 :: l) := by rw [← hl, bs_of]
        have : checkE (47 :: l) = partsE l := by unfold checkE partsE; rw [checkL_on hr h.2]
        rw [this, e]
        exact callsIn_wide.1 (check_in l (by have := h.2; simp at this; omega) (fun e => hr (by rw [e])) w)
    · have : checkE s.data.toList = 10 := by unfold checkE; rw [checkL_off hr h]; rfl
      rw [this]; exact check_off s w hr h
end Go.Proofs.YtbbdokfankgllaaDoor
