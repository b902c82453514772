/- All of a table: the numbers of its sessions, sorted. No conditions beyond those in each statement. -/
import Derived.Test.YtckengglamkaaaaSessFns
import Derived.Test.YtckengglamkaaaaIter
namespace Go.Proofs.Ytckengglamkaaaa
open Go.RowKit Go.Maps Go.Sort Go.Shelf
set_option linter.unusedVariables false
set_option maxRecDepth 100000

theorem keys_mem {w : World} {b n : Nat} {D : DataW Unit} {R : Value → Option (DataW Unit × List MemPlace)} (h : w.ownsMap Try.prog 3 R b n D) {ss : List Int} (hp : ss.Perm (intKeys D)) :
    ss.Nodup ∧ (∀ x, x ∈ ss ↔ has D (.int .i64 x) = true) ∧ ss.length = Maps.size D := by
  obtain ⟨es, hD, hpw, _⟩ := h.entries lawI
  obtain ⟨es', hD', hko⟩ := h.keysOf
  obtain rfl : es = es' := by rw [hD] at hD'; simpa using hD'
  subst hD
  have hk : ∀ p ∈ es, ∃ x, p.1 = .int .i64 x := fun p hp => by obtain ⟨v, hv⟩ := hko p hp; obtain ⟨x, _, hx, _⟩ := Maps.keyOf_i64 und_int8 hv; exact ⟨x, hx⟩
  refine ⟨hp.nodup_iff.2 ?_, fun x => ?_, ?_⟩
  · show (es.map fun p => _root_.Go.intOf p.1).Nodup
    refine List.pairwise_map.2 (hpw.imp_of_mem fun {p q} hp' hq' hne e => hne ?_)
    obtain ⟨a, ha⟩ := hk p hp'
    obtain ⟨b, hb⟩ := hk q hq'
    rw [ha, hb] at e ⊢
    exact congrArg _ e
  · rw [hp.mem_iff, has_eq, List.any_eq_true]
    show x ∈ es.map (fun p => _root_.Go.intOf p.1) ↔ _
    rw [List.mem_map]
    constructor
    · rintro ⟨p, hp', rfl⟩
      obtain ⟨a, ha⟩ := hk p hp'
      exact ⟨p, hp', by rw [ha]; simp [Lit.sameKey, _root_.Go.intOf]⟩
    · rintro ⟨p, hp', hs⟩
      obtain ⟨a, ha⟩ := hk p hp'
      rw [ha] at hs
      exact ⟨p, hp', by rw [ha]; simpa [Lit.sameKey, _root_.Go.intOf] using hs⟩
  · rw [hp.length_eq]; simp [intKeys, Maps.size]
/-- slices.Sort's two contracts, at the fence that asks nothing. -/
theorem sortsA (m : Nat) : AnyZI.SortsIn Try.prog Try.sortedA_ren Fence.wide m :=
  ⟨fun blk off cap ss W hH hblk hsz => callsIn_wide.2 (Try.slices_Sort_int blk off cap ss W hH hblk hsz),
   fun p cap W => callsIn_wide.2 (Try.slices_Sort_int_none p cap W)⟩
theorem leI_sorted (ss : List Int) : (ss.mergeSort leI).Pairwise (· ≤ ·) := by
  have tr : ∀ a b c : Int, leI a b = true → leI b c = true → leI a c = true := fun a b c h1 h2 => by simp only [leI, decide_eq_true_eq] at *; exact Int.le_trans h1 h2
  have tot : ∀ a b : Int, (leI a b || leI b a) = true := fun a b => by simp only [leI, Bool.or_eq_true, decide_eq_true_eq]; exact Int.le_total a b
  exact (List.pairwise_mergeSort tr tot ss).imp (by intro a b h; simpa [leI] using h)
/-- The numbers of a table, in order. -/
structure IdsOf (T : Int → Option Ss) (c : Nat) (zs : List Int) : Prop where
  sorted : zs.Pairwise (· < ·)
  mem : ∀ x, x ∈ zs ↔ (T x).isSome = true
  len : zs.length = c
theorem IdsOf.of {T : Int → Option Ss} {c : Nat} {ss : List Int} (hn : ss.Nodup) (hm : ∀ x, x ∈ ss ↔ (T x).isSome = true) (hl : ss.length = c) : IdsOf T c (ss.mergeSort leI) := by
  have hp := List.mergeSort_perm ss leI
  refine ⟨?_, fun x => by rw [hp.mem_iff]; exact hm x, by rw [hp.length_eq]; exact hl⟩
  have h1 := leI_sorted ss
  have h2 : (ss.mergeSort leI).Nodup := hp.nodup_iff.2 hn
  exact (h1.and h2).imp (by intro a b ⟨h3, h4⟩; omega)
set_option maxHeartbeats 4000000 in
theorem all_any (tb mb k c : Nat) (T : Int → Option Ss) (w : World) (h : TbW w tb mb k c T) (hc : c ≤ 1000) :
    Calls Try.prog 20 #[.pointer (some ⟨tb, 0, none⟩)] w fun e w' => ∃ (v : Value) (zs : List Int), e = .returned v ∧ IdsOf T c zs ∧ w'.ownsRow w.heap.size 3 1 v zs.length (zs.map encZ) ∧ Below w.heap.size w w' := by
  have HSE := sessions_any tb mb w h.cell
  obtain ⟨_, D, hown, hcD, hD⟩ := h.map
  have hmax : Maps.size D ≤ maxLen := by unfold maxLen; omega
  have hbytes : Maps.size D * 8 ≤ 140737488355328 := by omega
  refine (callsIn_wide (n := 6)).1 ?_
  have hbl := hown.lt
  have hseq : SeqGives Fence.wide 2 Try.prog 44 #[.pointer (some ⟨w.heap.size, 0, none⟩)] encZ (fun ss => ss.Perm (intKeys D)) (Maps.size D) (w.alloc (.cells #[.map (some mb)] 61)) :=
    AnyZI.keys_gives (ρ := Try.keysA_ren) { Try.keysA with } Fence.wide _ trivial rfl (by omega) w.heap.size mb k D _ (by simp) (by simp) (by
      obtain ⟨es, clock, hb, Ft, hs, hD⟩ := hown
      exact ⟨es, clock, (Below.heap_alloc _ _ mb hbl).trans hb, Ft, hs, hD⟩)
  have cK : ∀ mb W, CallsIn Fence.wide 5 Try.prog 34 #[.map mb] W fun e w' => e = .returned (.func (.func 44) #[] #[.pointer (some ⟨W.heap.size, 0, none⟩)]) ∧ w' = W.alloc (.cells #[.map mb] 61) := fun mb W => AnyZI.keys_in Try.keysA Fence.wide 5 trivial rfl mb W
  have cS := AnyZI.sorted_in Try.sortedA Fence.wide 5 trivial trivial trivial trivial rfl (by omega) (sortsA _) (enters_of Try.func43 (by kernel_rfl) rfl) 44 #[.pointer (some ⟨w.heap.size, 0, none⟩)] trivial (enters_of Try.func44 (by kernel_rfl) rfl) _ _ hmax hbytes _ hseq
  change CallsIn _ _ Try.prog 33 _ _ _ at cS
  have cZ : CallsIn Fence.wide 5 Try.prog 30 #[.pointer (some ⟨tb, 0, none⟩)] w _ := callsIn_wide.2 HSE
  have hfK : Fence.wide.fn 34 := trivial
  have hfS : Fence.wide.fn 33 := trivial
  have hfZ : Fence.wide.fn 30 := trivial
  have HD := Lib.hid hD
  have HC := Lib.hid hcD
  clear hD hcD
  refine callsIn_of_wp Try.func20 rfl trivial ?_ rfl
  simp only [Try.ntmps20, List.size_toArray, List.length_cons, List.length_nil, Nat.reduceAdd, Nat.reduceSub, Array.replicate_succ, Array.replicate_zero, List.push_toArray, List.append_toArray, List.nil_append, List.cons_append]
  gi_wp2_with (first
    | (gi_at_call 30; refine cZ.mono ?_; rintro e w' ⟨rfl, hw0⟩; obtain rfl := hw0.symm)
    | (gi_at_call 34; refine (cK _ _).mono ?_; rintro e w' ⟨rfl, rfl⟩)
    | (gi_at_call 33; refine cS.mono ?_; rintro e w' ⟨v, ss, rfl, hS, hrow, hnil, hb⟩))
  go_ret
  have hkm := keys_mem hown hS
  refine ⟨v, ss.mergeSort leI, rfl, IdsOf.of hkm.1 (fun x => by rw [hkm.2.1 x, (HD.out x).1]) (by rw [hkm.2.2, HC.out]), ?_, ((Below.refl _ w).alloc (Nat.le_refl _) _).trans (hb.mono (by simp))⟩
  have hln : (ss.mergeSort leI).length = ss.length := (List.mergeSort_perm ss leI).length_eq
  rw [hln]
  exact ownsRow_base_a hrow (by simp)
end Go.Proofs.Ytckengglamkaaaa
