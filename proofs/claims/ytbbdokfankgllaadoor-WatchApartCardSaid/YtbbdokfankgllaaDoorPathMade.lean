/- The law's Made. No conditions beyond those in each statement. -/
import Derived.Test.YtbbdokfankgllaaDoorPathCheck
import Derived.WalkLawsBesides
import Derived.LoopTactic
namespace Go.Proofs.YtbbdokfankgllaaDoor
open Go.RowKit Go.Shelf
set_option linter.unusedVariables false
set_option maxRecDepth 100000

/-- A slice of ints that can be read: ns. -/
def IntsA (w : World) (v : Value) (ns : List Int) : Prop :=
  ∃ a cap, v = .slice a ns.length cap ∧ ns.length ≤ cap ∧ cap ≤ maxLen ∧ (ns.length = 0 ∨ ∃ g off, a = some ⟨g, off, none⟩ ∧ g < w.heap.size ∧ ∀ j, j < ns.length → w.cell? ⟨g, off + j, none⟩ = some (.int .i64 (ns.getD j 0)))
theorem IntsA.below {w x : World} {v : Value} {ns : List Int} (h : IntsA w v ns) (hb : Below w.heap.size w x) : IntsA x v ns := by
  obtain ⟨a, cap, hv, hm, hc', h⟩ := h
  refine ⟨a, cap, hv, hm, hc', h.imp id ?_⟩
  rintro ⟨g, off, ha, hg, hc⟩
  exact ⟨g, off, ha, Nat.lt_of_lt_of_le hg hb.size, fun j hj => (hb.cell (p := ⟨g, off + j, none⟩) hg).trans (hc j hj)⟩
/-- The words of a list of numbers, as Made takes them. -/
def wordU (n : Int) : List UInt8 := wordI (n % 18446744073709551616)
def wsOf (ns : List Int) : List (List UInt8) := ns.map wordU
theorem bodyL_snoc (ws : List (List UInt8)) (p : List UInt8) : bodyL (ws ++ [p]) = bodyL ws ++ 47 :: p := by simp [bodyL]
theorem bodyL_len (ns : List Int) : (bodyL (wsOf ns)).length ≤ 4 * ns.length := by
  induction ns with
  | nil => simp [bodyL, wsOf]
  | cons n l ih =>
    have := (word_len (n % 18446744073709551616)).2
    simp [bodyL, wsOf] at ih ⊢
    unfold wordU at *
    omega
theorem bodyL_nil (ws : List (List UInt8)) : bodyL ws = [] ↔ ws = [] := by
  cases ws with
  | nil => simp [bodyL]
  | cons a l => simp [bodyL]
theorem wrapu (z : Int) : IntKind.u64.wrap z = z % 18446744073709551616 := by
  simp [IntKind.wrap, IntKind.bits, IntKind.signed]
theorem pick5 (z : Int) (P : Prop) (h : ∀ q : Nat, q < 5 → IntKind.u64.wrap z % 5 = q → wrap64 ((IntKind.u64.wrap z).tmod 5) = (q : Int) → P) : P := by
  have hw := wrapu z
  have h0 : 0 ≤ IntKind.u64.wrap z := by omega
  have ht : (IntKind.u64.wrap z).tmod 5 = IntKind.u64.wrap z % 5 := Int.tmod_eq_emod_of_nonneg h0
  refine h ((IntKind.u64.wrap z) % 5).toNat (by omega) (by omega) ?_
  rw [ht]; unfold wrap64; omega
theorem wordU_at {z : Int} {q : Nat} (h : IntKind.u64.wrap z % 5 = q) (hq : q < 5) : wordU z = [[97], [98], [99], [110, 49], [120, 45, 121]].getD q [] := by
  rw [wrapu] at h
  unfold wordU wordI
  rw [h]
  match q, hq with
  | 0, _ => rfl
  | 1, _ => rfl
  | 2, _ => rfl
  | 3, _ => rfl
  | 4, _ => rfl
set_option maxHeartbeats 4000000 in
theorem made_any (v : Value) (ns : List Int) (w : World) (h : IntsA w v ns) (hn : ns.length ≤ 1000) (hw : ∀ n ∈ ns, (Lit.int .i64 n).wf = true) :
    Calls Tryd.prog 18 #[v] w fun e w' => e = .returned (.string (bs (madeL (wsOf ns)))) ∧ Below w.heap.size w w' := by
  obtain ⟨a, cap, rfl, hlc, hcm, hc⟩ := h
  go_enter Tryd.func18, Tryd.ntmps18
  go_wp2
  go_loopw [3, 5, 8] (fun sv _ iv wr => ∃ k : Nat, k ≤ ns.length ∧ iv = .int .i64 k ∧ sv = .string (bs (bodyL (wsOf (ns.take k)))) ∧ Below w.heap.size w wr) (fun _ _ iv _ => ns.length - (intOf iv).toNat)
  case atStart => exact ⟨0, Nat.zero_le _, rfl, rfl, Below.refl _ _⟩
  case round =>
    obtain ⟨k, hk, rfl, rfl, hb⟩ := hrel
    by_cases hlt : k < ns.length
    · obtain ⟨g, off, rfl, hg, hcell⟩ := hc.resolve_left (by omega)
      obtain ⟨z, hz⟩ : ∃ z, z = ns.getD k 0 := ⟨_, rfl⟩
      have hc1 := (hb.cell (p := ⟨g, off + k, none⟩) hg).trans (hcell k hlt)
      rw [← hz] at hc1
      have HZ := Lib.hid hz
      have h1 : (k : Int) < (ns.length : Int) := by omega
      have h2 : (0 : Int) ≤ (k : Int) := by omega
      clear hz hcell hc
      have hbl := bodyL_len (ns.take k)
      have hbl2 : (ns.take k).length ≤ k := List.length_take_le _ _
      have hsz : (bs (bodyL (wsOf (ns.take k)))).size ≤ 4000 := by rw [bs_size]; omega
      have HTS : Hid (wsOf (ns.take (k + 1)) = wsOf (ns.take k) ++ [wordU z]) := Lib.hid (by
        unfold wsOf; rw [List.take_succ_eq_append_getElem hlt, List.map_append, HZ.out]; simp [List.getD_eq_getElem?_getD, hlt])
      have hbs := hb.size
      obtain ⟨sk, hsk⟩ : ∃ sk, sk = bs (bodyL (wsOf (ns.take k))) := ⟨_, rfl⟩
      have HSK := Lib.hid hsk
      rw [← hsk] at hsz ⊢
      clear hsk
      refine pick5 z _ fun q hq hq1 hq2 => ?_
      have HW := Lib.hid (wordU_at hq1 hq)
      clear hq1
      have fin : ∀ x : List UInt8, wordU z = x → Value.string (sk ++ ⟨#[47]⟩ ++ ⟨x.toArray⟩) = .string (bs (bodyL (wsOf (ns.take (k + 1))))) := by
        intro x hx
        rw [HTS.out, bodyL_snoc, hx, HSK.out, app_bs, app_bs, bs_list, bs_list]
        simp
      obtain rfl | rfl | rfl | rfl | rfl : q = 0 ∨ q = 1 ∨ q = 2 ∨ q = 3 ∨ q = 4 := by omega
      · have hq3 : wrap64 ((IntKind.u64.wrap z).tmod 5) = 0 := hq2
        clear hq2 hq
        go_wp2_with fail
        go_roundw
        case rel => exact ⟨k + 1, by omega, by go_num, fin _ HW.out, hb.alloc hbs _⟩
        case measure => simp [intOf]; omega
      · have hq3 : wrap64 ((IntKind.u64.wrap z).tmod 5) = 1 := hq2
        clear hq2 hq
        go_wp2_with fail
        go_roundw
        case rel => exact ⟨k + 1, by omega, by go_num, fin _ HW.out, hb.alloc hbs _⟩
        case measure => simp [intOf]; omega
      · have hq3 : wrap64 ((IntKind.u64.wrap z).tmod 5) = 2 := hq2
        clear hq2 hq
        go_wp2_with fail
        go_roundw
        case rel => exact ⟨k + 1, by omega, by go_num, fin _ HW.out, hb.alloc hbs _⟩
        case measure => simp [intOf]; omega
      · have hq3 : wrap64 ((IntKind.u64.wrap z).tmod 5) = 3 := hq2
        clear hq2 hq
        go_wp2_with fail
        go_roundw
        case rel => exact ⟨k + 1, by omega, by go_num, fin _ HW.out, hb.alloc hbs _⟩
        case measure => simp [intOf]; omega
      · have hq3 : wrap64 ((IntKind.u64.wrap z).tmod 5) = 4 := hq2
        clear hq2 hq
        go_wp2_with fail
        go_roundw
        case rel => exact ⟨k + 1, by omega, by go_num, fin _ HW.out, hb.alloc hbs _⟩
        case measure => simp [intOf]; omega
    · obtain rfl : k = ns.length := by omega
      rw [List.take_length]
      by_cases h0 : ns = []
      · subst h0
        have e0 : (bs (bodyL (wsOf []))).toList.isEmpty = true := by rw [Lib.toList_data, bs_list]; rfl
        go_wp2_with fail
        go_ret
        exact ⟨ret_s (by rfl), hb⟩
      · have e0 : (bs (bodyL (wsOf ns))).toList.isEmpty = false := by
          rw [Lib.toList_data, bs_list, List.isEmpty_eq_false_iff]
          intro e; exact h0 (by simpa [wsOf] using (bodyL_nil _).1 e)
        go_wp2_with fail
        go_ret
        exact ⟨ret_s (by unfold madeL; rw [if_neg (by simpa [wsOf] using h0)]), hb⟩
theorem made_len (ns : List Int) : (madeL (wsOf ns)).length ≤ 4 * ns.length + 1 := by
  have := bodyL_len ns
  unfold madeL; split <;> simp <;> omega
end Go.Proofs.YtbbdokfankgllaaDoor
