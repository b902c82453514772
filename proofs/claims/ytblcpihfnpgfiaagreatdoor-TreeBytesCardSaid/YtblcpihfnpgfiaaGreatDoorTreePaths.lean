/- Paths of a tree: its paths, in order. No conditions beyond those in each statement. -/
import Derived.Test.YtblcpihfnpgfiaaGreatDoorTreeOwned
import Derived.Test.YtblcpihfnpgfiaaGreatDoorTreeModA
import Derived.Test.YtblcpihfnpgfiaaGreatDoorIter
namespace Go.Proofs.YtblcpihfnpgfiaaGreatDoor
open Go.RowKit Go.Maps Go.Sort Go.Shelf
set_option linter.unusedVariables false
set_option linter.unusedSimpArgs false
set_option maxRecDepth 100000

theorem skeys_mem {w : World} {b n : Nat} {D : DataW Unit} {R : Value → Option (DataW Unit × List MemPlace)} (h : w.ownsMap Tryz.prog 9 R b n D) {ss : List (List UInt8)} (hp : ss.Perm (strKeys D)) :
    ss.Nodup ∧ (∀ x, x ∈ ss ↔ has D (.string x) = true) ∧ ss.length = Maps.size D := by
  obtain ⟨es, hD, hpw, _⟩ := h.entries lawS
  obtain ⟨es', hD', hko⟩ := h.keysOf
  obtain rfl : es = es' := by rw [hD] at hD'; simpa using hD'
  subst hD
  have hk : ∀ p ∈ es, ∃ x, p.1 = .string x := fun p hp => by obtain ⟨v, hv⟩ := hko p hp; obtain ⟨x, _, hx, _⟩ := Maps.keyOf_str und_str9 hv; exact ⟨x, hx⟩
  refine ⟨hp.nodup_iff.2 ?_, fun x => ?_, ?_⟩
  · show (es.map fun p => strOf p.1).Nodup
    refine List.pairwise_map.2 (hpw.imp_of_mem fun {p q} hp' hq' hne e => hne ?_)
    obtain ⟨a, ha⟩ := hk p hp'
    obtain ⟨b, hb⟩ := hk q hq'
    rw [ha, hb] at e ⊢
    exact congrArg _ e
  · rw [hp.mem_iff, has_eq, List.any_eq_true]
    show x ∈ es.map (fun p => strOf p.1) ↔ _
    rw [List.mem_map]
    constructor
    · rintro ⟨p, hp', rfl⟩
      obtain ⟨a, ha⟩ := hk p hp'
      exact ⟨p, hp', by rw [ha]; simp [Lit.sameKey, strOf]⟩
    · rintro ⟨p, hp', hs⟩
      obtain ⟨a, ha⟩ := hk p hp'
      rw [ha] at hs
      exact ⟨p, hp', by rw [ha]; simpa [Lit.sameKey, strOf] using hs⟩
  · rw [hp.length_eq]; simp [strKeys, Maps.size]
/-- A list that has just the paths of a sorted model, sorted, is the model's. -/
theorem sort_keys {T : List UInt8 → Option Nd} {L : List Me} (h : Rep T L) {ss : List (List UInt8)} (hn : ss.Nodup) (hm : ∀ x, x ∈ ss ↔ (T x).isSome = true) : ss.mergeSort leB = L.map (·.1) := by
  have hp : ss.Perm (L.map (·.1)) := (List.perm_ext_iff_of_nodup hn h.nodup).2 fun x => by
    rw [hm, List.mem_map, Option.isSome_iff_exists]
    constructor
    · rintro ⟨n, hx⟩; exact ⟨(x, n), (h.mem _ _).1 hx, rfl⟩
    · rintro ⟨e, he, rfl⟩; exact ⟨e.2, (h.mem _ _).2 he⟩
  refine List.Perm.eq_of_pairwise (le := fun a b => leB a b = true) (fun a b _ _ h1 h2 => ?_) (leB_sorted ss) (h.sorted.imp fun {a b} hab => by
    simp only [leB, decide_eq_true_eq]; exact List.le_of_lt hab) ((List.mergeSort_perm ss leB).trans hp)
  simp only [leB, decide_eq_true_eq] at h1 h2
  exact List.le_antisymm h1 h2
theorem sortsA (m : Nat) : AnyZ.SortsIn Tryz.prog Tryz.sortedA_ren Fence.wide m :=
  ⟨fun blk off cap ss W hH hblk hsz => callsIn_wide.2 (Tryz.slices_Sort_string blk off cap ss W hH hblk hsz),
   fun p cap W => callsIn_wide.2 (Tryz.slices_Sort_string_none p cap W)⟩
set_option maxHeartbeats 4000000 in
theorem paths_any (tb mb k c : Nat) (T : List UInt8 → Option Nd) (L : List Me) (w : World) (h : TrW w tb mb k c T) (hR : Rep T L) (hc : c ≤ 1000) :
    Calls Tryz.prog 18 #[.pointer (some ⟨tb, 0, none⟩)] w fun e w' => ∃ v : Value, e = .returned v ∧ w'.ownsRow w.heap.size 9 1 v L.length ((L.map (·.1)).map encStr) ∧ Below w.heap.size w w' := by
  have HAL := all_any tb mb w h.cell
  obtain ⟨D, hown, hcD, hD⟩ := h.map
  have hmax : Maps.size D ≤ maxLen := by unfold maxLen; omega
  have hbytes : Maps.size D * 16 ≤ 140737488355328 := by omega
  refine (callsIn_wide (n := 6)).1 ?_
  have hbl := hown.lt
  have hseq : SeqGives Fence.wide 2 Tryz.prog 62 #[.pointer (some ⟨w.heap.size, 0, none⟩)] encStr (fun ss => ss.Perm (strKeys D)) (Maps.size D) (w.alloc (.cells #[.map (some mb)] 68)) :=
    AnyZ.keys_gives (ρ := Tryz.keysA_ren) { Tryz.keysA with } Fence.wide _ trivial rfl (by omega) w.heap.size mb k D _ (by simp) (by simp) (by
      obtain ⟨es, clock, hb, Ft, hs, hD⟩ := hown
      exact ⟨es, clock, (Below.heap_alloc _ _ mb hbl).trans hb, Ft, hs, hD⟩)
  have cK : ∀ mb W, CallsIn Fence.wide 5 Tryz.prog 42 #[.map mb] W fun e w' => e = .returned (.func (.func 62) #[] #[.pointer (some ⟨W.heap.size, 0, none⟩)]) ∧ w' = W.alloc (.cells #[.map mb] 68) := fun mb W => AnyZ.keys_in Tryz.keysA Fence.wide 5 trivial rfl mb W
  have cS := AnyZ.sorted_in Tryz.sortedA Fence.wide 5 trivial trivial trivial trivial rfl (by omega) (sortsA _) (enters_of Tryz.func40 (by kernel_rfl) rfl) 62 #[.pointer (some ⟨w.heap.size, 0, none⟩)] trivial (enters_of Tryz.func62 (by kernel_rfl) rfl) _ _ hmax hbytes _ hseq
  change CallsIn _ _ Tryz.prog 41 _ _ _ at cS
  have cZ : CallsIn Fence.wide 5 Tryz.prog 39 #[.pointer (some ⟨tb, 0, none⟩)] w _ := callsIn_wide.2 HAL
  have hfK : Fence.wide.fn 42 := trivial
  have hfS : Fence.wide.fn 41 := trivial
  have hfZ : Fence.wide.fn 39 := trivial
  have HD := Lib.hid hD
  have HC := Lib.hid hcD
  have HR := Lib.hid hR
  clear hD hcD hR
  refine callsIn_of_wp Tryz.func18 rfl trivial ?_ rfl
  simp only [Tryz.ntmps18, List.size_toArray, List.length_cons, List.length_nil, Nat.reduceAdd, Nat.reduceSub, Array.replicate_succ, Array.replicate_zero, List.push_toArray, List.append_toArray, List.nil_append, List.cons_append]
  gi_wp2_with (first
    | (gi_at_call 39; refine cZ.mono ?_; rintro e w' ⟨rfl, hw0⟩; obtain rfl := hw0.symm)
    | (gi_at_call 42; refine (cK _ _).mono ?_; rintro e w' ⟨rfl, rfl⟩)
    | (gi_at_call 41; refine cS.mono ?_; rintro e w' ⟨v, ss, rfl, hS, hrow, hnil, hb⟩))
  go_ret
  have hkm := skeys_mem hown hS
  have hsk := sort_keys HR.out hkm.1 (fun x => by rw [hkm.2.1 x, (HD.out x).1])
  have hln : ss.length = L.length := by rw [← (List.mergeSort_perm ss leB).length_eq, hsk, List.length_map]
  refine ⟨v, rfl, ?_, ((Below.refl _ w).alloc (Nat.le_refl _) _).trans (hb.mono (by simp))⟩
  rw [hln] at hrow
  have hrow2 := ownsRow_base_a hrow (by simp : w.heap.size ≤ _)
  rw [show (ss.mergeSort fun x y => decide (x ≤ y)) = L.map (·.1) from hsk] at hrow2
  exact hrow2
end Go.Proofs.YtblcpihfnpgfiaaGreatDoor
