/- The law's model against a tree: Find, Check, Kids. No conditions beyond those in each statement. -/
import Derived.Test.YtglgnelolcmaoaaGreatDoorTreeMod
namespace Go.Proofs.YtglgnelolcmaoaaGreatDoor
open Go.RowKit Go.Maps Go.Sort
set_option linter.unusedVariables false
set_option linter.unusedSimpArgs false
set_option maxRecDepth 100000

/-- A list that has a tree's nodes, each once. -/
structure Rep (T : List UInt8 → Option Nd) (L : List Me) : Prop where
  nodup : (L.map (·.1)).Nodup
  mem : ∀ x n, T x = some n ↔ (x, n) ∈ L
  sorted : (L.map (·.1)).Pairwise (fun a b => a < b)
/-- Every node but the root has its parent. -/
def ParOk (T : List UInt8 → Option Nd) : Prop := ∀ x n, T x = some n → x ≠ [47] → ∃ p, T (upP x) = some p
/-- All before place j are below s. -/
def LowL (L : List Me) (j : Nat) (s : List UInt8) : Prop := ∀ (i : Nat) (e : Me), i < j → L[i]? = some e → e.1 < s
/-- What stands at place j is not below s. -/
def StopL (L : List Me) (j : Nat) (s : List UInt8) : Prop := ∀ e : Me, L[j]? = some e → ¬ e.1 < s
theorem LowL.zero (L : List Me) (s : List UInt8) : LowL L 0 s := fun i e h => absurd h (Nat.not_lt_zero i)
theorem less_lt {a b : List UInt8} (h : Op.bytesLess (bs a).toList (bs b).toList = true) : a < b := by
  rw [Lib.toList_data, Lib.toList_data, bs_list, bs_list, bytesLess_eq] at h
  exact of_decide_eq_true h
theorem less_not {a b : List UInt8} (h : Op.bytesLess (bs a).toList (bs b).toList = false) : ¬ a < b := by
  rw [Lib.toList_data, Lib.toList_data, bs_list, bs_list, bytesLess_eq] at h
  exact of_decide_eq_false h
theorem LowL.succ {L : List Me} {j : Nat} {s : List UInt8} (h : LowL L j s) {e : Me} (he : L[j]? = some e) (hb : Op.bytesLess (bs e.1).toList (bs s).toList = true) : LowL L (j + 1) s := by
  intro i x hi hx
  by_cases e2 : i = j
  · subst e2; rw [he] at hx; injection hx with hx; rw [← hx]; exact less_lt hb
  · exact h i x (by omega) hx
theorem StopL.at {L : List Me} {j : Nat} {s : List UInt8} {e : Me} (he : L[j]? = some e) (hb : Op.bytesLess (bs e.1).toList (bs s).toList = false) : StopL L j s := by
  intro x hx
  rw [he] at hx; injection hx with hx; rw [← hx]; exact less_not hb
theorem StopL.len {L : List Me} {j : Nat} {s : List UInt8} (h : j = L.length) : StopL L j s := by
  intro x hx
  have := (List.getElem?_eq_some_iff.1 hx).1; omega
theorem ltL_trans {a b c : List UInt8} (h : a < b) (h2 : b < c) : a < c := List.lt_trans h h2
theorem ltL_ne {a b : List UInt8} (h : a < b) : a ≠ b := fun e => List.lt_irrefl b (e ▸ h)
theorem ltL_of {a b : List UInt8} (h : ¬ b < a) (hn : a ≠ b) : a < b := by
  rcases List.le_total a b with h1 | h1
  · by_cases h2 : a < b
    · exact h2
    · exact absurd (List.le_antisymm h1 (List.not_lt.1 h2)) hn
  · exact absurd (List.le_antisymm (List.not_lt.1 h) h1) hn
theorem ins_sorted {L : List Me} (h : (L.map (·.1)).Pairwise (fun a b => a < b)) {j : Nat} {s : List UInt8} (n : Nd) (h1 : LowL L j s) (h2 : StopL L j s) (hn : ∀ m, (s, m) ∉ L) : ((L.take j ++ (s, n) :: L.drop j).map (·.1)).Pairwise (fun a b => a < b) := by
  have hle : ∀ x ∈ L.take j, x.1 < s := fun x hx => by
    obtain ⟨i, hi, he⟩ := List.mem_iff_getElem.1 hx
    rw [List.length_take] at hi
    refine h1 i x (by omega) ?_
    rw [← he, List.getElem_take, List.getElem?_eq_getElem]
  have hge : ∀ x ∈ L.drop j, s < x.1 := fun x hx => by
    have hdl : j < L.length := by
      by_cases h9 : j < L.length
      · exact h9
      · rw [List.drop_eq_nil_of_le (by omega)] at hx; cases hx
    have hs0 : s < (L[j]).1 := ltL_of (h2 _ (List.getElem?_eq_getElem hdl)) (fun e => hn (L[j]).2 (by rw [e]; exact List.getElem_mem hdl))
    rw [List.drop_eq_getElem_cons hdl] at hx
    rcases List.mem_cons.1 hx with h3 | h3
    · rw [h3]; exact hs0
    · have hp := List.pairwise_map.1 h
      rw [← List.take_append_drop j L, List.drop_eq_getElem_cons hdl] at hp
      exact ltL_trans hs0 ((List.pairwise_cons.1 (List.pairwise_append.1 hp).2.1).1 x h3)
  have hp := List.pairwise_map.1 h
  rw [← List.take_append_drop j L] at hp
  obtain ⟨p1, p2, p3⟩ := List.pairwise_append.1 hp
  refine List.pairwise_map.2 (List.pairwise_append.2 ⟨p1, List.pairwise_cons.2 ⟨hge, p2⟩, fun a ha b hb => ?_⟩)
  rcases List.mem_cons.1 hb with h3 | h3
  · rw [h3]; exact hle a ha
  · exact p3 a ha b h3
theorem find_from (L : List Me) (s : List UInt8) : ∀ n, n ≤ L.length → (findI L s n = -1 ∧ ∀ e ∈ L.drop (L.length - n), e.1 ≠ s) ∨ ∃ i e, findI L s n = ((i : Nat) : Int) ∧ L[i]? = some e ∧ e.1 = s
  | 0, _ => .inl ⟨rfl, fun e he => by simp at he⟩
  | n + 1, h => by
    obtain ⟨e, he⟩ : ∃ e, L[L.length - (n + 1)]? = some e := ⟨L[L.length - (n + 1)], by simp⟩
    rw [findI, he]
    simp only
    by_cases hs : e.1 = s
    · rw [if_pos hs]; exact .inr ⟨_, e, rfl, he, hs⟩
    · rw [if_neg hs]
      rcases find_from L s n (by omega) with ⟨h1, h2⟩ | h1
      · refine .inl ⟨h1, fun x hx => ?_⟩
        obtain ⟨hlt, hee⟩ := List.getElem?_eq_some_iff.1 he
        rw [List.drop_eq_getElem_cons hlt] at hx
        rcases List.mem_cons.1 hx with h3 | h3
        · rw [h3, hee]; exact hs
        · exact h2 x (by rw [show L.length - n = L.length - (n + 1) + 1 by omega]; exact h3)
      · exact .inr h1
section
variable {T : List UInt8 → Option Nd} {L : List Me}
theorem Rep.find_none (h : Rep T L) {s : List UInt8} (hs : T s = none) : findI L s L.length = -1 := by
  rcases find_from L s L.length (Nat.le_refl _) with ⟨h1, _⟩ | ⟨i, e, h1, h2, h3⟩
  · exact h1
  · have := (h.mem e.1 e.2).2 (List.mem_of_getElem? h2)
    rw [h3, hs] at this; cases this
theorem Rep.find_some (h : Rep T L) {s : List UInt8} {n : Nd} (hs : T s = some n) : ∃ i : Nat, findI L s L.length = (i : Int) ∧ L[i]? = some (s, n) := by
  rcases find_from L s L.length (Nat.le_refl _) with ⟨_, h2⟩ | ⟨i, e, h1, h2, h3⟩
  · exact absurd rfl (h2 (s, n) (by simpa using (h.mem s n).1 hs))
  · have := (h.mem e.1 e.2).2 (List.mem_of_getElem? h2)
    rw [h3, hs] at this
    injection this with this
    exact ⟨i, h1, by rw [h2, this, ← h3]⟩
theorem Rep.root : Rep rootT [([47], Nd.zero)] := ⟨by simp, fun x n => by
  unfold rootT updN
  by_cases e : x = [47]
  · subst e; simp; exact eq_comm
  · simp [e], by simp⟩
end
set_option maxHeartbeats 4000000 in
theorem mchk_any (base mp g cap : Nat) (L : List Me) (T : List UInt8 → Option Nd) (s : List UInt8) (v : Int) (w : World) (h : ModL w base mp g cap L) (hR : Rep T L) (hL : L.length ≤ 1000) :
    Calls Tryz.prog 37 #[.pointer (some ⟨mp, 0, none⟩), .string (bs s), .int .i64 v] w fun e w' => e = .returned (.int .i64 (chkN T s v)) ∧ Below w.heap.size w w' := by
  have HC := Lib.hid (fun W : World => check_any (bs s) W)
  have HF := Lib.hid (fun (W : World) (hb : Below w.heap.size w W) => mfind_any base mp g cap L s W (h.below hb) hL)
  have HM := Lib.hid h
  cases hck : checkL s
  · have hE : checkE s = 10 := by unfold checkE; rw [hck]; rfl
    have hG : chkN T s v = 10 := by unfold chkN; rw [hck]; rfl
    rw [hG]
    have HE := Lib.hid hE
    clear hck hE hG h
    go_enter Tryz.func37, Tryz.ntmps37
    go_wp2_with fail
    refine (HC.out _).mono ?_
    rintro e w1 ⟨rfl, b1⟩
    rw [bs_list, HE.out]
    go_wp2_with fail
    go_ret
    exact ⟨rfl, b1⟩
  · have hE : checkE s = 0 := by unfold checkE; rw [hck]; rfl
    have HE := Lib.hid hE
    cases hT : T s with
    | none =>
      have hG : chkN T s v = 11 := by unfold chkN; rw [hck, hT]; rfl
      rw [hG]
      have HN := Lib.hid (hR.find_none hT)
      clear hck hE hG hT h
      go_enter Tryz.func37, Tryz.ntmps37
      go_wp2_with fail
      refine (HC.out _).mono ?_
      rintro e w1 ⟨rfl, b1⟩
      rw [bs_list, HE.out]
      go_wp2_with fail
      refine (HF.out _ b1).mono ?_
      rintro e w2 ⟨rfl, b2⟩
      rw [HN.out]
      replace b2 := b1.trans (b2.mono b1.size)
      go_wp2_with fail
      go_ret
      exact ⟨rfl, b2⟩
    | some n =>
      obtain ⟨i, hi, hLi⟩ := hR.find_some hT
      have hil : i < L.length := (List.getElem?_eq_some_iff.1 hLi).1
      have HI := Lib.hid hi
      have HLI := Lib.hid hLi
      have HCK : Hid (chkN T s v = if 0 ≤ v ∧ v ≠ n.ver then 14 else 0) := Lib.hid (by unfold chkN; rw [hck, hT]; rfl)
      have i0 : (0 : Int) ≤ (i : Int) := by omega
      have i1 : decide ((i : Int) < 0) = false := by simp
      have i2 : (i : Int) < (L.length : Int) := by omega
      clear hck hE hT h hLi hi
      by_cases hv : 0 ≤ v
      · have d1 : decide ((0 : Int) ≤ v) = true := by simpa using hv
        by_cases hv2 : n.ver = v
        · have d2 : (n.ver != v) = false := by simpa using hv2
          have d3 : (n.ver == v) = true := by simpa using hv2
          have HR : Hid (chkN T s v = 0) := Lib.hid (by rw [HCK.out, if_neg (fun h => h.2 hv2.symm)])
          clear hv2
          go_enter Tryz.func37, Tryz.ntmps37
          go_wp2_with fail
          refine (HC.out _).mono ?_
          rintro e w1 ⟨rfl, b1⟩
          rw [bs_list, HE.out]
          go_wp2_with fail
          refine (HF.out _ b1).mono ?_
          rintro e w2 ⟨rfl, b2⟩
          rw [HI.out]
          replace b2 := b1.trans (b2.mono b1.size)
          have M2 := HM.out.below b2
          have x0 := M2.cell
          obtain ⟨c0, c1, c2, c3, c4, c5, c6, c7⟩ := M2.cells i _ HLI.out
          clear M2
          go_wp2_with fail
          go_ret
          rw [HR.out]
          exact ⟨rfl, b2⟩
        · have d2 : (n.ver != v) = true := by simpa using hv2
          have d3 : (n.ver == v) = false := by simpa using hv2
          have HR : Hid (chkN T s v = 14) := Lib.hid (by rw [HCK.out, if_pos ⟨hv, fun h => hv2 h.symm⟩])
          clear hv2
          go_enter Tryz.func37, Tryz.ntmps37
          go_wp2_with fail
          refine (HC.out _).mono ?_
          rintro e w1 ⟨rfl, b1⟩
          rw [bs_list, HE.out]
          go_wp2_with fail
          refine (HF.out _ b1).mono ?_
          rintro e w2 ⟨rfl, b2⟩
          rw [HI.out]
          replace b2 := b1.trans (b2.mono b1.size)
          have M2 := HM.out.below b2
          have x0 := M2.cell
          obtain ⟨c0, c1, c2, c3, c4, c5, c6, c7⟩ := M2.cells i _ HLI.out
          clear M2
          go_wp2_with fail
          go_ret
          rw [HR.out]
          exact ⟨rfl, b2⟩
      · have d1 : decide ((0 : Int) ≤ v) = false := by simpa using hv
        have HR : Hid (chkN T s v = 0) := Lib.hid (by rw [HCK.out, if_neg (fun h => hv h.1)])
        go_enter Tryz.func37, Tryz.ntmps37
        go_wp2_with fail
        refine (HC.out _).mono ?_
        rintro e w1 ⟨rfl, b1⟩
        rw [bs_list, HE.out]
        go_wp2_with fail
        refine (HF.out _ b1).mono ?_
        rintro e w2 ⟨rfl, b2⟩
        rw [HI.out]
        replace b2 := b1.trans (b2.mono b1.size)
        go_wp2_with fail
        go_ret
        rw [HR.out]
        exact ⟨rfl, b2⟩
end Go.Proofs.YtglgnelolcmaoaaGreatDoor
