/- maps.Keys and slices.Sorted of the last numbers. No conditions beyond those in each statement. -/
import Derived.Test.YtbbdokfankgllaaGreatDoorWRdM
import Derived.Test.YtbbdokfankgllaaGreatDoorIter
namespace Go.Proofs.YtbbdokfankgllaaGreatDoor
open Go.RowKit Go.Maps Go.Sort Go.Shelf
set_option linter.unusedSimpArgs false
set_option linter.unusedVariables false
set_option maxRecDepth 100000

theorem keys_mem {w : World} {b n : Nat} {D : DataW Unit} {R : Value → Option (DataW Unit × List MemPlace)} (h : w.ownsMap Tryz.prog 3 R b n D) {ss : List Int} (hp : ss.Perm (intKeys D)) :
    ss.Nodup ∧ (∀ x, x ∈ ss ↔ has D (.int .i64 x) = true) ∧ ss.length = Maps.size D := by
  obtain ⟨es, hD, hpw, _⟩ := h.entries lawI
  obtain ⟨es', hD', hko⟩ := h.keysOf
  obtain rfl : es = es' := by rw [hD] at hD'; simpa using hD'
  subst hD
  have hk : ∀ p ∈ es, ∃ x, p.1 = .int .i64 x := fun p hp => by obtain ⟨v, hv⟩ := hko p hp; obtain ⟨x, _, hx, _⟩ := Maps.keyOf_i64 und_int8 hv; exact ⟨x, hx⟩
  refine ⟨hp.nodup_iff.2 ?_, fun x => ?_, ?_⟩
  · show (es.map fun p => _root_.Go.intOf p.1).Nodup
    refine List.pairwise_map.2 (hpw.imp_of_mem fun {p q} hp' hq' hne e => hne ?_)
    obtain ⟨a, ha⟩ := hk p hp'
    obtain ⟨b, hb⟩ := hk q hq'
    rw [ha, hb] at e ⊢
    exact congrArg _ e
  · rw [hp.mem_iff, has_eq, List.any_eq_true]
    show x ∈ es.map (fun p => _root_.Go.intOf p.1) ↔ _
    rw [List.mem_map]
    constructor
    · rintro ⟨p, hp', rfl⟩
      obtain ⟨a, ha⟩ := hk p hp'
      exact ⟨p, hp', by rw [ha]; simp [Lit.sameKey, _root_.Go.intOf]⟩
    · rintro ⟨p, hp', hs⟩
      obtain ⟨a, ha⟩ := hk p hp'
      rw [ha] at hs
      exact ⟨p, hp', by rw [ha]; simpa [Lit.sameKey, _root_.Go.intOf] using hs⟩
  · rw [hp.length_eq]; simp [intKeys, Maps.size]
/-- slices.Sort's two contracts, at the fence that asks nothing. -/
theorem sortsA (m : Nat) : AnyZI.SortsIn Tryz.prog Tryz.sortedA_ren Fence.wide m :=
  ⟨fun blk off cap ss W hH hblk hsz => callsIn_wide.2 (Tryz.slices_Sort_int blk off cap ss W hH hblk hsz),
   fun p cap W => callsIn_wide.2 (Tryz.slices_Sort_int_none p cap W)⟩
theorem leI_sorted (ss : List Int) : (ss.mergeSort leI).Pairwise (· ≤ ·) := by
  have tr : ∀ a b c : Int, leI a b = true → leI b c = true → leI a c = true := fun a b c h1 h2 => by simp only [leI, decide_eq_true_eq] at *; exact Int.le_trans h1 h2
  have tot : ∀ a b : Int, (leI a b || leI b a) = true := fun a b => by simp only [leI, Bool.or_eq_true, decide_eq_true_eq]; exact Int.le_total a b
  exact (List.pairwise_mergeSort tr tot ss).imp (by intro a b h; simpa [leI] using h)
/-- The keys of a map, in order. -/
structure IdsOf (T : Int → Option Int) (c : Nat) (zs : List Int) : Prop where
  sorted : zs.Pairwise (· < ·)
  mem : ∀ x, x ∈ zs ↔ (T x).isSome = true
  len : zs.length = c
theorem IdsOf.of {T : Int → Option Int} {c : Nat} {ss : List Int} (hn : ss.Nodup) (hm : ∀ x, x ∈ ss ↔ (T x).isSome = true) (hl : ss.length = c) : IdsOf T c (ss.mergeSort leI) := by
  have hp := List.mergeSort_perm ss leI
  refine ⟨?_, fun x => by rw [hp.mem_iff]; exact hm x, by rw [hp.length_eq]; exact hl⟩
  have h1 := leI_sorted ss
  have h2 : (ss.mergeSort leI).Nodup := hp.nodup_iff.2 hn
  exact (h1.and h2).imp (by intro a b ⟨h3, h4⟩; omega)
/-- The iterator over the map whose block's cell lies there. -/
def keyF (b : Nat) : Value := .func (.func 58) #[] #[.pointer (some ⟨b, 0, none⟩)]
theorem keys_any (mb : Option Nat) (W : World) : Calls Tryz.prog 31 #[.map mb] W fun e w' => e = .returned (keyF W.heap.size) ∧ w' = W.alloc (.cells #[.map mb] 30) :=
  (callsIn_wide (n := 5)).1 (AnyZI.keys_in Tryz.keysA Fence.wide 5 trivial rfl mb W)
theorem sorted_some (mb k c : Nat) (N : Int → Option Int) (w : World) (h : MapN w mb k c N) (hc : c ≤ 100000) :
    Calls Tryz.prog 30 #[keyF w.heap.size] (w.alloc (.cells #[.map (some mb)] 30)) fun e w' => ∃ (v : Value) (zs : List Int), e = .returned v ∧ IdsOf N c zs ∧ w'.ownsRow w.heap.size 3 1 v zs.length (zs.map encZ) ∧ Below w.heap.size w w' := by
  obtain ⟨_, D, hown, hcD, hD⟩ := h
  have hmax : Maps.size D ≤ maxLen := by unfold maxLen; omega
  have hbytes : Maps.size D * 8 ≤ 140737488355328 := by omega
  have hbl := hown.lt
  have hseq : SeqGives Fence.wide 2 Tryz.prog 58 #[.pointer (some ⟨w.heap.size, 0, none⟩)] encZ (fun ss => ss.Perm (intKeys D)) (Maps.size D) (w.alloc (.cells #[.map (some mb)] 30)) :=
    AnyZI.keys_gives (ρ := Tryz.keysA_ren) { Tryz.keysA with } Fence.wide _ trivial rfl (by omega) w.heap.size mb k D _ (by simp) (by simp) (by
      obtain ⟨es, clock, hb, Ft, hs, hD⟩ := hown
      exact ⟨es, clock, (Below.heap_alloc _ _ mb hbl).trans hb, Ft, hs, hD⟩)
  have cS := AnyZI.sorted_in Tryz.sortedA Fence.wide 5 trivial trivial trivial trivial rfl (by omega) (sortsA _) (enters_of Tryz.func57 (by kernel_rfl) rfl) 58 #[.pointer (some ⟨w.heap.size, 0, none⟩)] trivial (enters_of Tryz.func58 (by kernel_rfl) rfl) _ _ hmax hbytes _ hseq
  change CallsIn _ _ Tryz.prog 30 _ _ _ at cS
  refine (callsIn_wide.1 cS).mono ?_
  rintro e w' ⟨v, ss, rfl, hS, hrow, hnil, hb⟩
  have hkm := keys_mem hown hS
  refine ⟨v, ss.mergeSort leI, rfl, IdsOf.of hkm.1 (fun x => by rw [hkm.2.1 x, (hD x).1]) (by rw [hkm.2.2, hcD]), ?_, ((Below.refl _ w).alloc (Nat.le_refl _) _).trans (hb.mono (by simp))⟩
  have hln : (ss.mergeSort leI).length = ss.length := (List.mergeSort_perm ss leI).length_eq
  rw [hln]
  exact ownsRow_base_a hrow (by simp)
theorem sorted_none (w : World) :
    Calls Tryz.prog 30 #[keyF w.heap.size] (w.alloc (.cells #[.map none] 30)) fun e w' => ∃ (v : Value) (zs : List Int), e = .returned v ∧ IdsOf (fun _ => none) 0 zs ∧ w'.ownsRow w.heap.size 3 1 v zs.length (zs.map encZ) ∧ Below w.heap.size w w' := by
  have hseq : SeqGives Fence.wide 2 Tryz.prog 58 #[.pointer (some ⟨w.heap.size, 0, none⟩)] encZ (fun ss : List Int => ss = []) 0 (w.alloc (.cells #[.map none] 30)) :=
    AnyZI.keys_gives_nil (ρ := Tryz.keysA_ren) { Tryz.keysA with } Fence.wide _ trivial rfl w.heap.size _ (by simp) (by simp)
  have cS := AnyZI.sorted_in Tryz.sortedA Fence.wide 5 trivial trivial trivial trivial rfl (by omega) (sortsA _) (enters_of Tryz.func57 (by kernel_rfl) rfl) 58 #[.pointer (some ⟨w.heap.size, 0, none⟩)] trivial (enters_of Tryz.func58 (by kernel_rfl) rfl) _ _ (by omega) (by omega) _ hseq
  change CallsIn _ _ Tryz.prog 30 _ _ _ at cS
  refine (callsIn_wide.1 cS).mono ?_
  rintro e w' ⟨v, ss, rfl, rfl, hrow, hnil, hb⟩
  refine ⟨v, [], rfl, ⟨List.Pairwise.nil, fun x => by simp, rfl⟩, ?_, ((Below.refl _ w).alloc (Nat.le_refl _) _).trans (hb.mono (by simp))⟩
  rw [List.mergeSort_nil] at hrow
  exact ownsRow_base_a hrow (by simp)
theorem sorted_any (base bb : Nat) (vw ve vm : Value) (Ws : List Wa) (Es : List Ev) (k c : Nat) (N : Int → Option Int) (w : World) (h : BkW w base bb vw ve vm Ws Es k c N) (hc : c ≤ 100000) : ∃ mb, vm = .map mb ∧ Calls Tryz.prog 30 #[keyF w.heap.size] (w.alloc (.cells #[.map mb] 30)) fun e w' => ∃ (v : Value) (zs : List Int), e = .returned v ∧ IdsOf N c zs ∧ w'.ownsRow w.heap.size 3 1 v zs.length (zs.map encZ) ∧ Below w.heap.size w w' := by
  rcases h.last with ⟨rfl, rfl, rfl⟩ | ⟨mb, rfl, hm, _⟩
  · exact ⟨none, rfl, sorted_none w⟩
  · exact ⟨some mb, rfl, sorted_some mb k c N w hm hc⟩
/-- How many there are. -/
theorem ids_any {w : World} {base bb : Nat} {vw ve vm : Value} {Ws : List Wa} {Es : List Ev} {k c : Nat} {N : Int → Option Int} (h : BkW w base bb vw ve vm Ws Es k c N) : ∃ zs, IdsOf N c zs := by
  rcases h.last with ⟨rfl, rfl, rfl⟩ | ⟨mb, rfl, ⟨_, D, hown, hcD, hD⟩, _⟩
  · exact ⟨[], List.Pairwise.nil, fun x => by simp, rfl⟩
  · have hkm := keys_mem hown (List.Perm.refl (intKeys D))
    exact ⟨_, IdsOf.of hkm.1 (fun x => by rw [hkm.2.1 x, (hD x).1]) (by rw [hkm.2.2, hcD])⟩
theorem ids_eq {T : Int → Option Int} {c d : Nat} {zs ys : List Int} (h1 : IdsOf T c zs) (h2 : IdsOf T d ys) : zs = ys := by
  refine List.Perm.eq_of_pairwise (fun a b _ _ h3 h4 => by omega) h1.sorted h2.sorted ((List.perm_ext_iff_of_nodup (h1.sorted.imp (fun h => by omega)) (h2.sorted.imp (fun h => by omega))).2 (fun x => by rw [h1.mem, h2.mem]))
theorem LsOk.ids {N : Int → Option Int} {L : List (Int × Int)} (h : LsOk N L) : IdsOf N L.length (L.map (·.1)) := by
  refine ⟨h.up, fun x => ?_, by simp⟩
  rw [List.mem_map, Option.isSome_iff_exists]
  constructor
  · rintro ⟨⟨a, b⟩, he, rfl⟩; exact ⟨b, (h.mem a b).2 he⟩
  · rintro ⟨v, hv⟩; exact ⟨(x, v), (h.mem x v).1 hv, rfl⟩
end Go.Proofs.YtbbdokfankgllaaGreatDoor
