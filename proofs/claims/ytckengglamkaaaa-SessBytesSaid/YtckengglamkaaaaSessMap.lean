/- The sessions of a table in memory: a map of numbers to sessions. No conditions beyond those in each statement. -/
import Derived.Test.YtckengglamkaaaaSessBase
import Derived.Maps.Own
import Derived.Maps.OwnSet
import Derived.Maps.OwnOps
import Derived.DataShut
namespace Go.Proofs.Ytckengglamkaaaa
open Go.RowKit Go.Maps
set_option linter.unusedVariables false
set_option maxRecDepth 100000

/-- A session: its last request, the answer. -/
structure Ss where
  req : Int
  ans : ByteArray
def Ss.zero : Ss := ⟨0, ⟨#[]⟩⟩
def ssV (n : Ss) : Value := .agg #[.int .i64 n.req, .string n.ans]
def ssD (n : Ss) : DataW Unit := .agg [.lit (.int .i64 n.req), .lit (.string n.ans.data.toList)]
def ssL : List Value → Option (DataW Unit × List MemPlace)
  | [.int .i64 a, .string d] => some (ssD ⟨a, d⟩, [])
  | _ => none
def ssR : Value → Option (DataW Unit × List MemPlace)
  | .agg xs => ssL xs.toList
  | _ => none
theorem ssR_mk (n : Ss) : ssR (ssV n) = some (ssD n, []) := rfl
theorem ssD_inj {n m : Ss} (h : ssD n = ssD m) : n = m := by
  unfold ssD at h
  injection h with h
  simp only [List.cons.injEq, DataW.lit.injEq, Lit.string.injEq, Lit.int.injEq, true_and, and_true] at h
  obtain ⟨h1, h2⟩ := h
  obtain ⟨a, ⟨⟨d⟩⟩⟩ := n
  obtain ⟨a', ⟨⟨d'⟩⟩⟩ := m
  simp only at h1 h2
  subst h1 h2
  rfl
theorem ssR_inv {v : Value} {n : Ss} {ps : List MemPlace} (h : ssR v = some (ssD n, ps)) : v = ssV n := by
  unfold ssR at h
  split at h
  · rename_i xs
    unfold ssL at h
    split at h
    · rename_i a d hx
      injection h with h
      injection h with h _
      have := ssD_inj h
      rw [← this]
      show Value.agg xs = Value.agg _
      congr 1
      rw [← Array.toArray_toList (xs := xs), hx]
    · cases h
  · cases h
def InR (z : Int) : Prop := -9223372036854775808 ≤ z ∧ z ≤ 9223372036854775807
theorem wfR {z : Int} (h : InR z) : (Lit.int .i64 z).wf = true := (Lit.wf_int_iff .i64 z).2 ⟨by rw [show IntKind.i64.min = -9223372036854775808 by decide]; exact h.1, by rw [show IntKind.i64.max = 9223372036854775807 by decide]; exact h.2⟩
theorem inR_of {z : Int} (h : (Lit.int .i64 z).wf = true) : InR z := by
  have := (Lit.wf_int_iff .i64 z).1 h
  rw [show IntKind.i64.min = -9223372036854775808 by decide, show IntKind.i64.max = 9223372036854775807 by decide] at this
  exact this
theorem und_map10 : Try.prog.underlying 61 = some (.map 3 65) := by kernel_rfl
theorem lawI : Keyed Try.prog 3 := int_keyed und_int8
theorem zero_ss (w : World) : (zeroValue 65).run Try.prog w = .ok (ssV Ss.zero) w := by kernel_rfl
theorem keyI {z : Int} (h : InR z) : keyOf Try.prog 3 (.int .i64 z) = some (.int .i64 z) := keyOf_int_mk und_int8 (wfR h)
theorem key_ne {a b : Int} (h : a ≠ b) : (Lit.int .i64 a) ≠ .int .i64 b := fun e => h (by injection e)
theorem isKeyI (z : Int) : Go.WideAt.IsKeyLit (.int .i64 z) := trivial
/-- Block b is a map of c entries (k at most were ever put) that reads as T. -/
def MapS (w : World) (b k c : Nat) (T : Int → Option Ss) : Prop :=
  (∀ z, (T z).isSome → InR z) ∧ ∃ D : DataW Unit, w.ownsMap Try.prog 3 ssR b k D ∧ Maps.size D = c ∧ ∀ z, Maps.has D (.int .i64 z) = (T z).isSome ∧ ∀ t, T z = some t → D.atKey (.int .i64 z) (ssD Ss.zero) = ssD t
def updS (T : Int → Option Ss) (z : Int) (v : Option Ss) : Int → Option Ss := fun x => if x = z then v else T x
theorem updS_same (T : Int → Option Ss) (z : Int) (v : Option Ss) : updS T z v z = v := by simp [updS]
theorem updS_other {T : Int → Option Ss} {z x : Int} {v : Option Ss} (h : x ≠ z) : updS T z v x = T x := by simp [updS, h]
section
variable {w w' : World} {b k c : Nat} {T : Int → Option Ss}
theorem MapS.lt (h : MapS w b k c T) : b < w.heap.size := by obtain ⟨_, D, h, _⟩ := h; exact h.lt
theorem MapS.mono (h : MapS w b k c T) {k' : Nat} (hk : k ≤ k') : MapS w b k' c T := by obtain ⟨hr, D, h, hD⟩ := h; exact ⟨hr, D, h.mono hk, hD⟩
theorem MapS.keep0 (h : MapS w b k c T) (hs : w'.heap[b]? = w.heap[b]?) : MapS w' b k c T := by
  obtain ⟨hr, D, ⟨es, clock, hb, F, hn, hD⟩, hT⟩ := h
  exact ⟨hr, D, ⟨es, clock, hs.trans hb, F, hn, hD⟩, hT⟩
theorem MapS.below (h : MapS w b k c T) (kp : Below w.heap.size w w') : MapS w' b k c T := h.keep0 (kp.block b h.lt)
theorem MapS.new (w : World) : MapS (w.alloc (.map #[] 0)) w.heap.size 0 0 (fun _ => none) := ⟨fun z h => (by cases h), .map [], World.ownsMap_made w _ _ _, rfl, fun z => ⟨rfl, fun t h => by cases h⟩⟩
theorem MapS.at (h : MapS w b k c T) {D : DataW Unit} {z : Int} (hD : Maps.has D (.int .i64 z) = (T z).isSome ∧ ∀ t, T z = some t → D.atKey (.int .i64 z) (ssD Ss.zero) = ssD t) : D.atKey (.int .i64 z) (ssD Ss.zero) = ssD ((T z).getD Ss.zero) := by
  cases ht : T z with
  | none => exact atKey_of_not_has (D := D) (k := .int .i64 z) (by rw [hD.1, ht]; rfl) (ssD Ss.zero)
  | some t => exact hD.2 t ht
theorem MapS.look (h : MapS w b k c T) (z : Int) (hz : InR z) : (Instr.lookup 61 (.map (some b)) (.int .i64 z) false).run Try.prog w = .ok (ssV ((T z).getD Ss.zero)) w := by
  have h0 := h
  obtain ⟨_, D, ho, hc, hD⟩ := h
  obtain ⟨v, ps, hrun, hv⟩ := ho.lookup lawI und_map10 (zero_ss w) (ssR_mk Ss.zero) (keyI hz)
  rw [h0.at (hD z)] at hv
  rw [hrun, ssR_inv hv]
theorem MapS.look_ok (h : MapS w b k c T) (z : Int) (hz : InR z) : (Instr.lookup 61 (.map (some b)) (.int .i64 z) true).run Try.prog w = .ok (.tuple #[ssV ((T z).getD Ss.zero), .bool (T z).isSome]) w := by
  have h0 := h
  obtain ⟨_, D, ho, hc, hD⟩ := h
  obtain ⟨v, ps, hrun, hv⟩ := ho.look_ok lawI und_map10 (zero_ss w) (ssR_mk Ss.zero) (keyI hz)
  rw [h0.at (hD z)] at hv
  rw [hrun, ssR_inv hv, (hD z).1]
theorem MapS.len (h : MapS w b k c T) (ty : TypeId) : (Builtin.len_ #[61] ty #[.map (some b)]).run Try.prog w = .ok (.int .i64 (c : Int)) w := by
  obtain ⟨_, D, ho, hc, hD⟩ := h
  rw [ho.len und_map10 ty, hc]
theorem MapS.store (h : MapS w b k c T) (hk : k < 1000000000) (z : Int) (hz : InR z) (n : Ss) :
    ∃ w', (Instr.mapUpdate 61 (.map (some b)) (.int .i64 z) (ssV n)).run Try.prog w = .ok () w' ∧ MapS w' b (k + 1) (if (T z).isSome then c else c + 1) (updS T z (some n)) ∧ w.grownBy w' (some b) := by
  obtain ⟨hr, D, ho, hc, hD⟩ := h
  obtain ⟨w', hrun, ho', hm⟩ := ho.update lawI und_map10 (by unfold maxLen; omega) (keyI hz) (ssR_mk n)
  refine ⟨w', hrun, ⟨fun x hx => ?_, _, ho', ?_, fun x => ?_⟩, hm⟩
  · by_cases he : x = z
    · rw [he]; exact hz
    · rw [updS_other he] at hx; exact hr x hx
  · rw [size_put (ho.tidy lawI), hc, (hD z).1]
  · unfold updS
    by_cases he : x = z
    · subst he
      rw [if_pos rfl]
      refine ⟨by rw [has_put_same ho.isMap (isKeyI x)]; rfl, fun t' h' => ?_⟩
      rw [atKey_put_same ho.isMap (isKeyI x)]
      injection h' with h'
      rw [h']
    · rw [if_neg he, has_put_other (key_ne he)]
      exact ⟨(hD x).1, fun t' h' => by rw [atKey_put_other (key_ne he)]; exact (hD x).2 t' h'⟩
theorem MapS.del (h : MapS w b k c T) (z : Int) (hz : InR z) (ty : TypeId) :
    ∃ w', (Builtin.delete_ #[61, 3] ty #[.map (some b), .int .i64 z]).run Try.prog w = .ok (.tuple #[]) w' ∧ MapS w' b k (if (T z).isSome then c - 1 else c) (updS T z none) ∧ w.grownBy w' (some b) := by
  obtain ⟨hr, D, ho, hc, hD⟩ := h
  obtain ⟨w', hrun, ho', hm⟩ := ho.drop lawI und_map10 (keyI hz) ty
  refine ⟨w', hrun, ⟨fun x hx => ?_, _, ho', ?_, fun x => ?_⟩, hm.grown⟩
  · by_cases he : x = z
    · rw [he]; exact hz
    · rw [updS_other he] at hx; exact hr x hx
  · have := size_del (k := .int .i64 z) (ho.tidy lawI)
    rw [hc, (hD z).1] at this
    split at this <;> simp_all <;> omega
  · unfold updS
    by_cases he : x = z
    · subst he
      rw [if_pos rfl]
      exact ⟨by rw [has_del_same]; rfl, fun t' h' => by cases h'⟩
    · rw [if_neg he, has_del_other (key_ne he)]
      exact ⟨(hD x).1, fun t' h' => by rw [atKey_del_other (key_ne he)]; exact (hD x).2 t' h'⟩
end
/-- A table in memory: its block, its map's block. -/
structure TbW (w : World) (tb mb k c : Nat) (T : Int → Option Ss) : Prop where
  table : w.heap[tb]? = some (.cells #[.map (some mb)] 63 (0, 0))
  map : MapS w mb k c T
section
variable {w w' : World} {tb mb k c : Nat} {T : Int → Option Ss}
theorem TbW.ne (h : TbW w tb mb k c T) : tb ≠ mb := by
  rintro rfl
  obtain ⟨_, D, ⟨es, clock, hb, _⟩, _⟩ := h.map
  have := h.table.symm.trans hb
  cases this
theorem TbW.lt (h : TbW w tb mb k c T) : tb < w.heap.size := (Array.getElem?_eq_some_iff.1 h.table).1
theorem TbW.below (h : TbW w tb mb k c T) (kp : Below w.heap.size w w') : TbW w' tb mb k c T := ⟨(kp.block tb h.lt).trans h.table, h.map.below kp⟩
theorem TbW.cell (h : TbW w tb mb k c T) : w.cell? ⟨tb, 0, none⟩ = some (.map (some mb)) := by simp [World.cell?, h.table]
theorem TbW.mono (h : TbW w tb mb k c T) {k' : Nat} (hk : k ≤ k') : TbW w tb mb k' c T := ⟨h.table, h.map.mono hk⟩
theorem TbW.stored (h : TbW w tb mb k c T) {k' c' : Nat} {T' : Int → Option Ss} (hg : w.grownBy w' (some mb)) (hm : MapS w' mb k' c' T') : TbW w' tb mb k' c' T' :=
  ⟨(hg.block tb h.lt (fun e => h.ne (Option.some.inj e))).trans h.table, hm⟩
theorem TbW.drew (h : TbW w tb mb k c T) : TbW w.drew tb mb k c T := h.below ((Below.refl _ w).drew)
end
/-- The world behind a store into the map; behind a deletion. -/
noncomputable def stoW (mb : Nat) (z : Int) (n : Ss) (w : World) : World := ranW ((Instr.mapUpdate 61 (.map (some mb)) (.int .i64 z) (ssV n)).run Try.prog w) w
theorem TbW.run {w : World} {tb mb k c : Nat} {T : Int → Option Ss} (h : TbW w tb mb k c T) (hk : k < 1000000000) (z : Int) (hz : InR z) (n : Ss) :
    (Instr.mapUpdate 61 (.map (some mb)) (.int .i64 z) (.agg #[.int .i64 n.req, .string n.ans])).run Try.prog w = .ok () (stoW mb z n w) ∧ TbW (stoW mb z n w) tb mb (k + 1) (if (T z).isSome then c else c + 1) (updS T z (some n)) ∧ w.grownBy (stoW mb z n w) (some mb) := by
  obtain ⟨x, hr, hm, hg⟩ := h.map.store hk z hz n
  have e : stoW mb z n w = x := by unfold stoW; rw [hr]; rfl
  rw [e]
  exact ⟨hr, h.stored hg hm, hg⟩
def Left10 (w : World) (tb mb k c : Nat) (T : Int → Option Ss) (w' : World) : Prop := TbW w' tb mb k c T ∧ w.grownBy w' (some mb)
theorem left10_below {w w' : World} {tb mb k c m : Nat} {T : Int → Option Ss} (h : Left10 w tb mb k c T w') (h1 : m ≤ mb) (hs : m ≤ w.heap.size) : Below m w w' :=
  (Below.refl m w).grown h.2 hs (fun j hj => by obtain rfl := Option.some.inj hj; exact h1)
end Go.Proofs.Ytckengglamkaaaa
