/- The law's model: Kids. No conditions beyond those in each statement. -/
import Derived.Test.YtglgnelolcmaoaaGreatDoorTreeMod3
namespace Go.Proofs.YtglgnelolcmaoaaGreatDoor
open Go.RowKit Go.Maps Go.Sort
set_option linter.unusedVariables false
set_option linter.unusedSimpArgs false
set_option maxRecDepth 100000

def isKid (s : List UInt8) (e : Me) : Bool := decide (upP e.1 = s) && !(decide (e.1 = [47]))
def kidsL (L : List Me) (s : List UInt8) : List (List UInt8) := (L.filter (isKid s)).map (fun e => lastP e.1)
theorem kidsL_len (L : List Me) (s : List UInt8) : (kidsL L s).length ≤ L.length := by unfold kidsL; rw [List.length_map]; exact List.length_filter_le _ _
theorem kidsL_succ (L : List Me) (s : List UInt8) (j : Nat) (e : Me) (h : L[j]? = some e) : kidsL (L.take (j + 1)) s = kidsL (L.take j) s ++ if isKid s e then [lastP e.1] else [] := by
  obtain ⟨hj, he⟩ := List.getElem?_eq_some_iff.1 h
  unfold kidsL
  rw [List.take_succ_eq_append_getElem hj, List.filter_append, List.map_append, he]
  congr 1
  by_cases hk : isKid s e
  · simp [hk]
  · simp [hk]
set_option maxHeartbeats 4000000 in
theorem mkids_any (base mp g cap : Nat) (L : List Me) (s : List UInt8) (w : World) (h : ModL w base mp g cap L) (hL : L.length ≤ 1000) (hK : ∀ e ∈ L, checkL e.1 = true) :
    Calls Tryz.prog 15 #[.pointer (some ⟨mp, 0, none⟩), .string (bs s)] w fun e w' => ∃ v, e = .returned v ∧ w'.ownsRow w.heap.size 9 1 v (kidsL L s).length ((kidsL L s).map encStr) ∧ Below w.heap.size w w' := by
  have b1 := (Below.refl w.heap.size w).alloc (Nat.le_refl _) (.cells #[] 9)
  have R1 : (w.alloc (.cells #[] 9)).ownsRow w.heap.size 9 1 (.slice (some ⟨w.heap.size, 0, none⟩) 0 0) 0 [] := World.ownsRow_made w #[] 0 (Nat.le_refl _) (Nat.zero_le _) rfl
  have hc := (h.below b1).cell
  obtain ⟨i0, hi0, hz0, hz1, hz2⟩ := info_parts info_str9
  have hmlt := h.ltm
  go_enter Tryz.func15, Tryz.ntmps15
  go_wp2_with fail
  go_loopw [5, 16] (fun lv iv wr => ∃ j : Nat, j ≤ L.length ∧ iv = .int .i64 j ∧ wr.ownsRow w.heap.size 9 1 lv (kidsL (L.take j) s).length ((kidsL (L.take j) s).map encStr) ∧ Below w.heap.size w wr) (fun _ iv _ => L.length - (intOf iv).toNat)
  case atStart => exact ⟨0, by omega, rfl, R1, b1⟩
  case round =>
    obtain ⟨j, hj, rfl, hown, bk⟩ := hrel
    clear R1 b1 hc
    by_cases hlt : j < L.length
    · have hlt2 : decide ((j : Int) < (L.length : Int)) = true := by simp; omega
      obtain ⟨e, he⟩ : ∃ e, L[j]? = some e := ⟨L[j], by simp [hlt]⟩
      obtain ⟨c0, c1, c2, c3, c4, c5, c6, c7⟩ := (h.below bk).cells j e he
      have hj0 : (0 : Int) ≤ (j : Int) := by omega
      have t2 : IntKind.i64.wrap ((j : Int) + 1) = (j : Int) + 1 := IntWalk.i64_in _ (by omega)
      have HST := Lib.hid (kidsL_succ L s j e he)
      have HU := Lib.hid (fun W : World => up_path e.1 W (hK e (List.mem_of_getElem? he)))
      have hkl := kidsL_len (L.take j) s
      have hkl2 : (L.take j).length ≤ 1000 := by rw [List.length_take]; omega
      have bA := bk.alloc bk.size (.cells #[.string (bs e.1), .string e.2.data, .int .i64 e.2.ver, .int .i64 e.2.below, .int .i64 e.2.owner, .int .i64 e.2.made, .int .i64 e.2.put, .int .i64 e.2.serial] 49)
      have rA := hown.alloc (.cells #[.string (bs e.1), .string e.2.data, .int .i64 e.2.ver, .int .i64 e.2.below, .int .i64 e.2.owner, .int .i64 e.2.made, .int .i64 e.2.put, .int .i64 e.2.serial] 49)
      have nA := heap_alloc_new wr (.cells #[.string (bs e.1), .string e.2.data, .int .i64 e.2.ver, .int .i64 e.2.below, .int .i64 e.2.owner, .int .i64 e.2.made, .int .i64 e.2.put, .int .i64 e.2.serial] 49)
      have hbs := bk.size
      clear h he hK
      go_wp2_with fail
      refine (HU.out _).mono ?_
      rintro e5 w5 ⟨rfl, m, hw5⟩
      have b5 := drewN_below (wr.alloc (.cells #[.string (bs e.1), .string e.2.data, .int .i64 e.2.ver, .int .i64 e.2.below, .int .i64 e.2.owner, .int .i64 e.2.made, .int .i64 e.2.put, .int .i64 e.2.serial] 49)) m
      rw [← hw5] at b5
      have n5 : w5.cell? ⟨wr.heap.size, 0, none⟩ = some (.string (bs e.1)) := by
        have h1 := nA
        rw [show (wr.alloc (.cells #[.string (bs e.1), .string e.2.data, .int .i64 e.2.ver, .int .i64 e.2.below, .int .i64 e.2.owner, .int .i64 e.2.made, .int .i64 e.2.put, .int .i64 e.2.serial] 49)).heap = w5.heap by rw [hw5]; rfl] at h1
        simp [World.cell?, h1]
      have R5 := rA.kept (below_grownBy b5 none) (by cases u5.ownBlock <;> simp)
      replace b5 := bA.trans (b5.mono bA.size)
      have z5 := b5.size
      clear hw5 nA bA rA c0 c1 c2 c3 c4 c5 c6 c7 hown bk HU
      by_cases hu : upP e.1 = s
      · have e2 : ((bs (upP e.1)).toList == (bs s).toList) = true := by rw [Lib.toList_data, Lib.toList_data, bs_list, bs_list]; simpa using hu
        by_cases hr : e.1 = [47]
        · have e3 : ((bs e.1).toList == [47]) = true := by rw [Lib.toList_data, bs_list]; simpa using hr
          have HF : Hid (kidsL (L.take (j + 1)) s = kidsL (L.take j) s) := Lib.hid (by rw [HST.out, if_neg (by simp [isKid, hr]), List.append_nil])
          clear hu hr
          go_wp2_with fail
          go_roundw
          case rel => exact ⟨j + 1, by omega, by go_num, by rw [HF.out]; exact R5, b5⟩
          case measure => simp [intOf]; omega
        · have e3 : ((bs e.1).toList == [47]) = false := by rw [Lib.toList_data, bs_list]; simpa using hr
          have HF : Hid (kidsL (L.take (j + 1)) s = kidsL (L.take j) s ++ [lastP e.1]) := Lib.hid (by rw [HST.out, if_pos (by simp [isKid, hr, hu])])
          clear hu hr
          have bB := b5.alloc b5.size (.cells #[.string (bs (lastP e.1))] 9)
          have rB := R5.alloc (.cells #[.string (bs (lastP e.1))] 9)
          have hnA := heap_alloc_new w5 (.cells #[.string (bs (lastP e.1))] 9)
          have HNW := Lib.hid (World.news_of_block hnA)
          clear hnA
          go_wp2_with (at_builtin; refine wpList_append_lies _ rfl _ _ _ rfl w.heap.size 9 i0 _ 1 16 und_strs9 hi0 hz0 hz1 hz2 rfl (by decide) u5 (kidsL (L.take j) s).length ((kidsL (L.take j) s).map encStr) rfl rB ⟨w5.heap.size, 0, none⟩ 1 1 [.string (bs (lastP e.1))] rfl rfl HNW.out (by simp [Value.oneCell']) (by decide) (by unfold maxLen; omega) (by omega) (by simp; omega) (w5.heap.size + 1) (by simp) ?_; intro g4 cap4 w7 hown7 hgrow7 hat7 hlt7; go_frame)
          go_roundw
          case rel => exact ⟨j + 1, by omega, by go_num, by rw [HF.out, List.length_append, List.map_append]; exact hown7, bB.grown hgrow7 bB.size (fun i hi => (World.ownsRow.lt rB i hi).1)⟩
          case measure => simp [intOf]; omega
      · have e2 : ((bs (upP e.1)).toList == (bs s).toList) = false := by rw [Lib.toList_data, Lib.toList_data, bs_list, bs_list]; simpa using hu
        have HF : Hid (kidsL (L.take (j + 1)) s = kidsL (L.take j) s) := Lib.hid (by rw [HST.out, if_neg (by simp [isKid, hu]), List.append_nil])
        clear hu
        go_wp2_with fail
        go_roundw
        case rel => exact ⟨j + 1, by omega, by go_num, by rw [HF.out]; exact R5, b5⟩
        case measure => simp [intOf]; omega
    · obtain rfl : j = L.length := by omega
      have hlt2 : decide ((L.length : Int) < (L.length : Int)) = false := by simp
      rw [List.take_length] at hown
      go_wp2_with fail
      go_ret
      exact ⟨_, rfl, hown, bk⟩
end Go.Proofs.YtglgnelolcmaoaaGreatDoor
