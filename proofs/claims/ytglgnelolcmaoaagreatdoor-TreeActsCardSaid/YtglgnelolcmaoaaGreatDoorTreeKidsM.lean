/- Kids and Owned of a tree beside the model's lists. No conditions beyond those in each statement. -/
import Derived.Test.YtglgnelolcmaoaaGreatDoorTreeSameM
import Derived.Test.YtglgnelolcmaoaaGreatDoorTreeDoA
namespace Go.Proofs.YtglgnelolcmaoaaGreatDoor
open Go.RowKit Go.Maps Go.Sort
set_option linter.unusedVariables false
set_option linter.unusedSimpArgs false
set_option maxRecDepth 100000

theorem owned_zero (p : Value) (w : World) : Calls Tryz.prog 16 #[p, .int .i64 0] w fun e w' => e = .returned (.slice none 0 0) ∧ w' = w := by
  go_enter Tryz.func16, Tryz.ntmps16
  go_wp2_with fail
  go_ret
  exact ⟨rfl, rfl⟩
theorem lt_cancel : ∀ (x p q : List UInt8), x ++ p < x ++ q → p < q
  | [], p, q, h => h
  | c :: x, p, q, h => by
    have h' : c :: (x ++ p) < c :: (x ++ q) := h
    rcases List.cons_lt_cons_iff.1 h' with h1 | ⟨_, h1⟩
    · exact absurd h1 (by simp)
    · exact lt_cancel x p q h1
theorem check_two (q : List UInt8) : checkL (47 :: 47 :: q) = false := by
  have h1 : pieces (47 :: q) = [] :: pieces q := by rw [pieces]; simp
  have h2 : partL [] = false := by decide
  unfold checkL
  simp [h1, h2]
theorem last_lt {a b : List UInt8} (ha : checkL a = true) (hb : checkL b = true) (ra : a ≠ [47]) (rb : b ≠ [47]) (hu : upP a = upP b) (h : a < b) : lastP a < lastP b := by
  obtain ⟨x, q, rfl, hq, hqn, _⟩ := check_split ha ra
  obtain ⟨y, r, rfl, hr, hrn, _⟩ := check_split hb rb
  have ea := upP_app hq ra
  have eb := upP_app hr rb
  rw [ea.1, eb.1] at hu
  rw [ea.2, eb.2]
  have hxy : x = y := by
    unfold upB at hu
    by_cases h1 : x = []
    · by_cases h2 : y = []
      · rw [h1, h2]
      · rw [if_pos h1, if_neg h2] at hu
        rw [← hu] at hb
        have h5 := check_two r
        rw [show [47] ++ 47 :: r = 47 :: 47 :: r from rfl, h5] at hb; cases hb
    · by_cases h2 : y = []
      · rw [if_neg h1, if_pos h2] at hu
        rw [hu] at ha
        have h5 := check_two q
        rw [show [47] ++ 47 :: q = 47 :: 47 :: q from rfl, h5] at ha; cases ha
      · rw [if_neg h1, if_neg h2] at hu; exact hu
  subst hxy
  have h3 := lt_cancel x _ _ h
  rcases List.cons_lt_cons_iff.1 h3 with h1 | ⟨_, h1⟩
  · exact absurd h1 (by simp)
  · exact h1
theorem isKid_iff (s : List UInt8) (e : Me) : isKid s e = true ↔ upP e.1 = s ∧ e.1 ≠ [47] := by
  unfold isKid; simp
theorem kidsL_sorted {L : List Me} (h : (L.map (·.1)).Pairwise (fun a b => a < b)) (hK : ∀ e ∈ L, checkL e.1 = true) (s : List UInt8) : (kidsL L s).Pairwise (fun a b => a < b) := by
  unfold kidsL
  rw [List.pairwise_map]
  refine List.Pairwise.imp_of_mem (fun {a b} ha hb hab => ?_) ((List.pairwise_map.1 h).filter _)
  have h1 := List.mem_filter.1 ha
  have h2 := List.mem_filter.1 hb
  have k1 := (isKid_iff s a).1 h1.2
  have k2 := (isKid_iff s b).1 h2.2
  exact last_lt (hK a h1.1) (hK b h2.1) k1.2 k2.2 (k1.1.trans k2.1.symm) hab
theorem sort_eq {ss ts : List (List UInt8)} (hp : ss.Perm ts) (h : ts.Pairwise (fun a b => a < b)) : ss.mergeSort leB = ts := by
  refine List.Perm.eq_of_pairwise (le := fun a b => leB a b = true) (fun a b _ _ h1 h2 => ?_) (leB_sorted ss) (h.imp fun {a b} hab => by
    simp only [leB, decide_eq_true_eq]; exact List.le_of_lt hab) ((List.mergeSort_perm ss leB).trans hp)
  simp only [leB, decide_eq_true_eq] at h1 h2
  exact List.le_antisymm h1 h2
theorem kids_sort {T : List UInt8 → Option Nd} {L : List Me} (hR : Rep T L) (hK : KeysOk T) {z : List UInt8} (hz : checkL z = true) {ss : List (List UInt8)} (hn : ss.Nodup) (hm : ∀ x, x ∈ ss ↔ ∃ n, T x = some n ∧ upP x = z) : (ss.map lastP).mergeSort leB = kidsL L z := by
  have hKL : ∀ e ∈ L, checkL e.1 = true := fun e he => hK e.1 e.2 ((hR.mem _ _).2 he)
  refine sort_eq ?_ (kidsL_sorted hR.sorted hKL z)
  have hzn : z ≠ [] := by rintro rfl; exact absurd hz (by decide)
  have e : kidsL L z = ((L.filter (isKid z)).map (·.1)).map lastP := by unfold kidsL; rw [List.map_map]; rfl
  rw [e]
  refine List.Perm.map _ ((List.perm_ext_iff_of_nodup hn ?_).2 fun x => ?_)
  · exact List.Nodup.sublist (List.Sublist.map _ List.filter_sublist) hR.nodup
  · rw [hm, List.mem_map]
    constructor
    · rintro ⟨n, h1, h2⟩
      exact ⟨(x, n), List.mem_filter.2 ⟨(hR.mem _ _).1 h1, (isKid_iff z _).2 ⟨h2, fun h3 => by
        have h3' : x = [47] := h3
        rw [h3'] at h2; exact hzn (h2.symm.trans (by unfold upP; rw [if_pos rfl]))⟩⟩, rfl⟩
    · rintro ⟨⟨y, n⟩, h1, rfl⟩
      have h2 := List.mem_filter.1 h1
      exact ⟨n, (hR.mem _ _).2 h2.1, ((isKid_iff z _).1 h2.2).1⟩
/-- Kids of a node that is there. -/
theorem kidsT_any (tb mb k c : Nat) (T : List UInt8 → Option Nd) (L : List Me) (z : List UInt8) (nd : Nd) (w : World) (h : TrW w tb mb k c T) (hR : Rep T L) (hc1 : c ≤ 1000) (hz : z.length ≤ 1000) (hK : KeysOk T) (hck : checkL z = true) (hT : T z = some nd) :
    Calls Tryz.prog 13 #[.pointer (some ⟨tb, 0, none⟩), .string (bs z)] w fun e w' => ∃ v : Value, e = .returned (.tuple #[v, .int .i64 0]) ∧ w'.ownsRow w.heap.size 9 1 v (kidsL L z).length ((kidsL L z).map encStr) ∧ Below w.heap.size w w' :=
  (kids_any tb mb k c T z nd w h hc1 hz hK hck hT).mono fun e w' ⟨v, ss, he, hrow, hn, hm, hb⟩ => by
    have hs := kids_sort hR hK hck hn hm
    have hl : ss.length = (kidsL L z).length := by rw [← hs, (List.mergeSort_perm _ leB).length_eq, List.length_map]
    rw [hs, hl] at hrow
    exact ⟨v, he, hrow, hb⟩
set_option maxHeartbeats 4000000 in
theorem kidsT_err (tb mb k c : Nat) (T : List UInt8 → Option Nd) (z : List UInt8) (ge : Int) (w : World) (h : TrW w tb mb k c T) (hz : z.length ≤ 1000) (hg : getN T z = (Nd.zero, ge)) (h0 : ge ≠ 0) :
    Calls Tryz.prog 13 #[.pointer (some ⟨tb, 0, none⟩), .string (bs z)] w fun e w' => e = .returned (.tuple #[.slice none 0 0, .int .i64 ge]) ∧ Below w.heap.size w w' := by
  have HG := Lib.hid (get_any tb mb k c T z w h (by omega))
  rw [hg] at HG
  unfold ndV at HG
  simp only [Nd.zero] at HG
  have e1 : (ge != 0) = true := by simpa using h0
  clear h hg h0
  go_enter Tryz.func13, Tryz.ntmps13
  go_wp2_with fail
  refine HG.out.mono ?_
  rintro e w1 ⟨rfl, b1⟩
  go_wp2_with fail
  go_ret2
  exact ⟨rfl, b1.alloc b1.size _⟩
theorem getN_cases (T : List UInt8 → Option Nd) (z : List UInt8) : (∃ ge, getN T z = (Nd.zero, ge) ∧ (ge = 10 ∨ ge = 11)) ∨ (checkL z = true ∧ ∃ n, T z = some n ∧ getN T z = (n, 0)) := by
  unfold getN
  cases h : checkL z
  · exact .inl ⟨10, rfl, .inl rfl⟩
  · cases hT : T z with
    | none => exact .inl ⟨11, rfl, .inr rfl⟩
    | some n => exact .inr ⟨rfl, n, rfl, rfl⟩
/-- The paths of a model's nodes of an owner. -/
def ownL (L : List Me) (o : Int) : List (List UInt8) := (L.filter (fun e => e.2.owner == o)).map (·.1)
theorem ownL_len (L : List Me) (o : Int) : (ownL L o).length ≤ L.length := by unfold ownL; rw [List.length_map]; exact List.length_filter_le _ _
theorem ownL_succ (L : List Me) (o : Int) (j : Nat) (e : Me) (h : L[j]? = some e) : ownL (L.take (j + 1)) o = ownL (L.take j) o ++ if e.2.owner == o then [e.1] else [] := by
  obtain ⟨hlt, he⟩ := List.getElem?_eq_some_iff.1 h
  have h1 : L.take (j + 1) = L.take j ++ [e] := by rw [List.take_succ_eq_append_getElem hlt, he]
  unfold ownL
  rw [h1, List.filter_append, List.map_append]
  congr 1
  cases h2 : e.2.owner == o <;> simp [h2]
theorem ownL_at (L : List Me) (o : Int) (j : Nat) (e : Me) (h : L[j]? = some e) (ho : (e.2.owner == o) = true) : (ownL L o)[(ownL (L.take j) o).length]? = some e.1 := by
  have h1 := ownL_succ L o j e h
  rw [ho, if_pos rfl] at h1
  have h2 : ownL L o = ownL (L.take (j + 1)) o ++ ownL (L.drop (j + 1)) o := by
    unfold ownL; rw [← List.map_append, ← List.filter_append, List.take_append_drop]
  rw [h2, h1, List.append_assoc, List.getElem?_append_right (Nat.le_refl _), Nat.sub_self]; rfl
theorem own_eq {T : List UInt8 → Option Nd} {L : List Me} (hR : Rep T L) {o : Int} {ss : List (List UInt8)} (h : ListOf ss (fun x => ∃ n, T x = some n ∧ n.owner = o)) : ss = ownL L o := by
  have hs : (ownL L o).Pairwise (fun a b => a < b) := List.Pairwise.sublist (List.Sublist.map _ List.filter_sublist) hR.sorted
  have hp : ss.Perm (ownL L o) := (List.perm_ext_iff_of_nodup h.nodup (List.Nodup.sublist (List.Sublist.map _ List.filter_sublist) hR.nodup)).2 fun x => by
    rw [h.mem x, List.mem_map]
    constructor
    · rintro ⟨n, h1, h2⟩; exact ⟨(x, n), List.mem_filter.2 ⟨(hR.mem _ _).1 h1, by simpa using h2⟩, rfl⟩
    · rintro ⟨⟨y, n⟩, h1, rfl⟩
      have h2 := List.mem_filter.1 h1
      exact ⟨n, (hR.mem _ _).2 h2.1, by simpa using h2.2⟩
  refine List.Perm.eq_of_pairwise (le := fun a b => leB a b = true) (fun a b _ _ h1 h2 => ?_) h.sorted (hs.imp fun {a b} hab => by
    simp only [leB, decide_eq_true_eq]; exact List.le_of_lt hab) hp
  simp only [leB, decide_eq_true_eq] at h1 h2
  exact List.le_antisymm h1 h2
/-- Owned, whoever it is. -/
theorem ownT_any (tb mb k c : Nat) (T : List UInt8 → Option Nd) (L : List Me) (o : Int) (w : World) (h : TrW w tb mb k c T) (hR : Rep T L) (hc1 : c ≤ 1000) :
    Calls Tryz.prog 16 #[.pointer (some ⟨tb, 0, none⟩), .int .i64 o] w fun e w' => ∃ v : Value, e = .returned v ∧ w'.ownsRow w.heap.size 9 1 v (if o = 0 then [] else ownL L o).length ((if o = 0 then [] else ownL L o).map encStr) ∧ Below w.heap.size w w' := by
  by_cases ho : o = 0
  · subst ho
    exact (owned_zero _ w).mono fun e w' ⟨h1, h2⟩ => ⟨_, h1, by rw [h2]; simpa using World.ownsRow_nil _ _ _ _, by rw [h2]; exact Below.refl _ _⟩
  · refine (owned_any tb mb k c T o w h hc1 ho).mono fun e w' ⟨v, ss, h1, h2, h3, h4⟩ => ⟨v, h1, ?_, h4⟩
    rw [if_neg ho, ← own_eq hR h3]; exact h2
def RootOk (T : List UInt8 → Option Nd) : Prop := (T [47]).isSome = true
theorem RootOk.root : RootOk rootT := by unfold RootOk rootT; rw [updN_same]; rfl
theorem isSome_upd {T : List UInt8 → Option Nd} (h : RootOk T) (z : List UInt8) (n : Nd) : RootOk (updN T z (some n)) := by
  unfold RootOk
  by_cases e : [47] = z
  · rw [← e, updN_same]; rfl
  · rw [updN_other e]; exact h
theorem StepB.rootOk {T T' : List UInt8 → Option Nd} (h : StepB T T') (hr : RootOk T) : RootOk T' := by
  rcases h with h | ⟨z, par, P, N, hc, h0, hz, hpar, _, hN, rfl⟩ | ⟨z, zd, par, h0, hz, hpar, hn, rfl⟩
  · unfold RootOk; rw [isSome_map (h [47])]; exact hr
  · exact isSome_upd (isSome_upd hr _ _) _ _
  · unfold lessN
    refine isSome_upd ?_ _ _
    unfold RootOk
    rw [updN_other (fun e => h0 e.symm)]; exact hr
theorem RootOk.len {T : List UInt8 → Option Nd} {L : List Me} (h : RootOk T) (hR : Rep T L) : 1 ≤ L.length := by
  obtain ⟨n, hn⟩ := Option.isSome_iff_exists.1 h
  have := (hR.mem _ _).1 hn
  cases L with
  | nil => cases this
  | cons a l => simp
/-- A row of strings of one's own. -/
def SRow (w : World) (base : Nat) (v : Value) (ss : List (List UInt8)) : Prop := w.ownsRow base 9 1 v ss.length (ss.map encStr)
theorem SRow.low {w w' : World} {base : Nat} {v : Value} {ss : List (List UInt8)} (h : SRow w base v ss) (hb : Below w.heap.size w w') : SRow w' base v ss := by
  refine World.ownsRow.kept h (⟨hb.os, hb.tape, hb.output, hb.size, fun i hi _ => hb.block i hi⟩ : w.grownBy w' none) (by
    cases e : v.ownBlock with
    | none => exact .inl rfl
    | some j => right; intro e2; cases e2)
theorem SRow.form {w : World} {base : Nat} {v : Value} {ss : List (List UInt8)} (h : SRow w base v ss) : ∃ a c, v = .slice a ss.length c ∧ (0 < ss.length → ∃ g, a = some ⟨g, 0, none⟩) := row_formL h
theorem SRow.at {w : World} {base ca g : Nat} {ss : List (List UInt8)} (h : SRow w base (.slice (some ⟨g, 0, none⟩) ss.length ca) ss) {j : Nat} (hj : j < ss.length) {z : List UInt8} (hz : ss[j]? = some z) : w.cell? ⟨g, j, none⟩ = some (.string (bs z)) := by
  have h1 := World.ownsRow.cellAt h j (by omega)
  refine h1.trans ?_
  simp [hz, encStr, bs]
end Go.Proofs.YtglgnelolcmaoaaGreatDoor
