/- A map of numbers to numbers: the last number of each session. No conditions beyond those in each statement. -/
import Derived.Test.YtbbdokfankgllaaGreatDoorWBase
import Derived.Maps.Own
import Derived.Maps.OwnSet
import Derived.Maps.OwnOps
import Derived.DataShut
namespace Go.Proofs.YtbbdokfankgllaaGreatDoor
open Go.RowKit Go.Maps
set_option linter.unusedVariables false
set_option maxRecDepth 100000

def nuD (n : Int) : DataW Unit := .lit (.int .i64 n)
def nuR : Value → Option (DataW Unit × List MemPlace)
  | .int .i64 n => some (nuD n, [])
  | _ => none
theorem nuR_mk (n : Int) : nuR (.int .i64 n) = some (nuD n, []) := rfl
theorem nuD_inj {n m : Int} (h : nuD n = nuD m) : n = m := by
  unfold nuD at h
  injection h with h
  injection h
theorem nuR_inv {v : Value} {n : Int} {ps : List MemPlace} (h : nuR v = some (nuD n, ps)) : v = .int .i64 n := by
  unfold nuR at h
  split at h
  · injection h with h
    injection h with h _
    rw [nuD_inj h]
  · cases h
def InR (z : Int) : Prop := -9223372036854775808 ≤ z ∧ z ≤ 9223372036854775807
theorem wfR {z : Int} (h : InR z) : (Lit.int .i64 z).wf = true := (Lit.wf_int_iff .i64 z).2 ⟨by rw [show IntKind.i64.min = -9223372036854775808 by decide]; exact h.1, by rw [show IntKind.i64.max = 9223372036854775807 by decide]; exact h.2⟩
theorem inR_of {z : Int} (h : (Lit.int .i64 z).wf = true) : InR z := by
  have := (Lit.wf_int_iff .i64 z).1 h
  rw [show IntKind.i64.min = -9223372036854775808 by decide, show IntKind.i64.max = 9223372036854775807 by decide] at this
  exact this
theorem und_mapN : Tryz.prog.underlying 30 = some (.map 3 3) := by kernel_rfl
theorem lawI : Keyed Tryz.prog 3 := int_keyed und_int8
theorem zero_nu (w : World) : (zeroValue 3).run Tryz.prog w = .ok (.int .i64 0) w := by kernel_rfl
theorem keyI {z : Int} (h : InR z) : keyOf Tryz.prog 3 (.int .i64 z) = some (.int .i64 z) := keyOf_int_mk und_int8 (wfR h)
theorem key_ne {a b : Int} (h : a ≠ b) : (Lit.int .i64 a) ≠ .int .i64 b := fun e => h (by injection e)
theorem isKeyI (z : Int) : Go.WideAt.IsKeyLit (.int .i64 z) := trivial
/-- Block b is a map of c entries (k at most were ever put) that reads as T. -/
def MapN (w : World) (b k c : Nat) (T : Int → Option Int) : Prop :=
  (∀ z, (T z).isSome → InR z) ∧ ∃ D : DataW Unit, w.ownsMap Tryz.prog 3 nuR b k D ∧ Maps.size D = c ∧ ∀ z, Maps.has D (.int .i64 z) = (T z).isSome ∧ ∀ t, T z = some t → D.atKey (.int .i64 z) (nuD 0) = nuD t
def updN (T : Int → Option Int) (z : Int) (v : Option Int) : Int → Option Int := fun x => if x = z then v else T x
theorem updN_same (T : Int → Option Int) (z : Int) (v : Option Int) : updN T z v z = v := by simp [updN]
theorem updN_other {T : Int → Option Int} {z x : Int} {v : Option Int} (h : x ≠ z) : updN T z v x = T x := by simp [updN, h]
section
variable {w w' : World} {b k c : Nat} {T : Int → Option Int}
theorem MapN.lt (h : MapN w b k c T) : b < w.heap.size := by obtain ⟨_, D, h, _⟩ := h; exact h.lt
theorem MapN.mono (h : MapN w b k c T) {k' : Nat} (hk : k ≤ k') : MapN w b k' c T := by obtain ⟨hr, D, h, hD⟩ := h; exact ⟨hr, D, h.mono hk, hD⟩
theorem MapN.keep0 (h : MapN w b k c T) (hs : w'.heap[b]? = w.heap[b]?) : MapN w' b k c T := by
  obtain ⟨hr, D, ⟨es, clock, hb, F, hn, hD⟩, hT⟩ := h
  exact ⟨hr, D, ⟨es, clock, hs.trans hb, F, hn, hD⟩, hT⟩
theorem MapN.below (h : MapN w b k c T) (kp : Below w.heap.size w w') : MapN w' b k c T := h.keep0 (kp.block b h.lt)
theorem MapN.new (w : World) : MapN (w.alloc (.map #[] 0)) w.heap.size 0 0 (fun _ => none) := ⟨fun z h => (by cases h), .map [], World.ownsMap_made w _ _ _, rfl, fun z => ⟨rfl, fun t h => by cases h⟩⟩
theorem MapN.at (h : MapN w b k c T) {D : DataW Unit} {z : Int} (hD : Maps.has D (.int .i64 z) = (T z).isSome ∧ ∀ t, T z = some t → D.atKey (.int .i64 z) (nuD 0) = nuD t) : D.atKey (.int .i64 z) (nuD 0) = nuD ((T z).getD 0) := by
  cases ht : T z with
  | none => exact atKey_of_not_has (D := D) (k := .int .i64 z) (by rw [hD.1, ht]; rfl) (nuD 0)
  | some t => exact hD.2 t ht
theorem MapN.look (h : MapN w b k c T) (z : Int) (hz : InR z) : (Instr.lookup 30 (.map (some b)) (.int .i64 z) false).run Tryz.prog w = .ok (.int .i64 ((T z).getD 0)) w := by
  have h0 := h
  obtain ⟨_, D, ho, hc, hD⟩ := h
  obtain ⟨v, ps, hrun, hv⟩ := ho.lookup lawI und_mapN (zero_nu w) (nuR_mk 0) (keyI hz)
  rw [h0.at (hD z)] at hv
  rw [hrun, nuR_inv hv]
theorem MapN.len (h : MapN w b k c T) (ty : TypeId) : (Builtin.len_ #[30] ty #[.map (some b)]).run Tryz.prog w = .ok (.int .i64 (c : Int)) w := by
  obtain ⟨_, D, ho, hc, hD⟩ := h
  rw [ho.len und_mapN ty, hc]
theorem MapN.store (h : MapN w b k c T) (hk : k < 1000000000) (z : Int) (hz : InR z) (n : Int) :
    ∃ w', (Instr.mapUpdate 30 (.map (some b)) (.int .i64 z) (.int .i64 n)).run Tryz.prog w = .ok () w' ∧ MapN w' b (k + 1) (if (T z).isSome then c else c + 1) (updN T z (some n)) ∧ w.grownBy w' (some b) := by
  obtain ⟨hr, D, ho, hc, hD⟩ := h
  obtain ⟨w', hrun, ho', hm⟩ := ho.update lawI und_mapN (by unfold maxLen; omega) (keyI hz) (nuR_mk n)
  refine ⟨w', hrun, ⟨fun x hx => ?_, _, ho', ?_, fun x => ?_⟩, hm⟩
  · by_cases he : x = z
    · rw [he]; exact hz
    · rw [updN_other he] at hx; exact hr x hx
  · rw [size_put (ho.tidy lawI), hc, (hD z).1]
  · unfold updN
    by_cases he : x = z
    · subst he
      rw [if_pos rfl]
      refine ⟨by rw [has_put_same ho.isMap (isKeyI x)]; rfl, fun t' h' => ?_⟩
      rw [atKey_put_same ho.isMap (isKeyI x)]
      injection h' with h'
      rw [h']
    · rw [if_neg he, has_put_other (key_ne he)]
      exact ⟨(hD x).1, fun t' h' => by rw [atKey_put_other (key_ne he)]; exact (hD x).2 t' h'⟩
theorem MapN.del (h : MapN w b k c T) (z : Int) (hz : InR z) (ty : TypeId) :
    ∃ w', (Builtin.delete_ #[30, 3] ty #[.map (some b), .int .i64 z]).run Tryz.prog w = .ok (.tuple #[]) w' ∧ MapN w' b k (if (T z).isSome then c - 1 else c) (updN T z none) ∧ w.grownBy w' (some b) := by
  obtain ⟨hr, D, ho, hc, hD⟩ := h
  obtain ⟨w', hrun, ho', hm⟩ := ho.drop lawI und_mapN (keyI hz) ty
  refine ⟨w', hrun, ⟨fun x hx => ?_, _, ho', ?_, fun x => ?_⟩, hm.grown⟩
  · by_cases he : x = z
    · rw [he]; exact hz
    · rw [updN_other he] at hx; exact hr x hx
  · have := size_del (k := .int .i64 z) (ho.tidy lawI)
    rw [hc, (hD z).1] at this
    split at this <;> simp_all <;> omega
  · unfold updN
    by_cases he : x = z
    · subst he
      rw [if_pos rfl]
      exact ⟨by rw [has_del_same]; rfl, fun t' h' => by cases h'⟩
    · rw [if_neg he, has_del_other (key_ne he)]
      exact ⟨(hD x).1, fun t' h' => by rw [atKey_del_other (key_ne he)]; exact (hD x).2 t' h'⟩
end
end Go.Proofs.YtbbdokfankgllaaGreatDoor
