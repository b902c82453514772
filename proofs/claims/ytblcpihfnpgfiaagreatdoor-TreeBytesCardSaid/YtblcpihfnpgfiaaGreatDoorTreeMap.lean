/- The nodes of a tree in memory: a map of paths to nodes. No conditions beyond those in each statement. -/
import Derived.Test.YtblcpihfnpgfiaaGreatDoorPathAll
import Derived.Maps.Own
import Derived.StringKeys
import Derived.Maps.OwnSet
import Derived.Maps.OwnOps
namespace Go.Proofs.YtblcpihfnpgfiaaGreatDoor
open Go.RowKit Go.Maps
set_option linter.unusedVariables false
set_option linter.unusedSimpArgs false
set_option maxRecDepth 100000

/-- A node. -/
structure Nd where
  data : ByteArray
  ver : Int
  below : Int
  owner : Int
  made : Int
  put : Int
  serial : Int
def Nd.zero : Nd := ⟨⟨#[]⟩, 0, 0, 0, 0, 0, 0⟩
def ndV (n : Nd) : Value := .agg #[.string n.data, .int .i64 n.ver, .int .i64 n.below, .int .i64 n.owner, .int .i64 n.made, .int .i64 n.put, .int .i64 n.serial]
def ndD (n : Nd) : DataW Unit := .agg [.lit (.string n.data.data.toList), .lit (.int .i64 n.ver), .lit (.int .i64 n.below), .lit (.int .i64 n.owner), .lit (.int .i64 n.made), .lit (.int .i64 n.put), .lit (.int .i64 n.serial)]
def ndL : List Value → Option (DataW Unit × List MemPlace)
  | [.string d, .int .i64 a, .int .i64 b, .int .i64 c, .int .i64 e, .int .i64 f, .int .i64 g] => some (ndD ⟨d, a, b, c, e, f, g⟩, [])
  | _ => none
def ndR : Value → Option (DataW Unit × List MemPlace)
  | .agg xs => ndL xs.toList
  | _ => none
theorem ndR_mk (n : Nd) : ndR (ndV n) = some (ndD n, []) := rfl
theorem ndD_inj {n m : Nd} (h : ndD n = ndD m) : n = m := by
  unfold ndD at h
  injection h with h
  simp only [List.cons.injEq, DataW.lit.injEq, Lit.string.injEq, Lit.int.injEq, true_and, and_true] at h
  obtain ⟨h1, h2, h3, h4, h5, h6, h7⟩ := h
  obtain ⟨⟨⟨d⟩⟩, a, b, c, e, f, g⟩ := n
  obtain ⟨⟨⟨d'⟩⟩, a', b', c', e', f', g'⟩ := m
  simp only at h1 h2 h3 h4 h5 h6 h7
  subst h1 h2 h3 h4 h5 h6 h7
  rfl
theorem ndR_inv {v : Value} {n : Nd} {ps : List MemPlace} (h : ndR v = some (ndD n, ps)) : v = ndV n := by
  unfold ndR at h
  split at h
  · rename_i xs
    unfold ndL at h
    split at h
    · rename_i d a b c e f g hx
      injection h with h
      injection h with h _
      have := ndD_inj h
      rw [← this]
      show Value.agg xs = Value.agg _
      congr 1
      rw [← Array.toArray_toList (xs := xs), hx]
    · cases h
  · cases h
theorem und_str9 : Tryz.prog.underlying 9 = some .string := by kernel_rfl
theorem und_map9 : Tryz.prog.underlying 68 = some (.map 9 40) := by kernel_rfl
theorem lawS : Keyed Tryz.prog 9 := string_keyed und_str9
theorem zero_nd (w : World) : (zeroValue 40).run Tryz.prog w = .ok (ndV Nd.zero) w := by kernel_rfl
theorem keyS (z : List UInt8) (h : z.length ≤ maxLen) : keyOf Tryz.prog 9 (.string (bs z)) = some (.string z) := by
  have := Go.WideMaps.keyOf_string_mk (P := Tryz.prog) (k := 9) und_str9 (s := bs z) (by rw [bs_size]; exact h)
  rw [bs_list] at this; exact this
theorem isKeyS (z : List UInt8) : Go.WideAt.IsKeyLit (.string z) := trivial
theorem key_neS {a b : List UInt8} (h : a ≠ b) : (Lit.string a) ≠ .string b := fun e => h (by injection e)
/-- Block b is a map of c entries (k at most were ever put) that reads as T. -/
def MapN (w : World) (b k c : Nat) (T : List UInt8 → Option Nd) : Prop :=
  ∃ D : DataW Unit, w.ownsMap Tryz.prog 9 ndR b k D ∧ Maps.size D = c ∧ ∀ z, Maps.has D (.string z) = (T z).isSome ∧ ∀ t, T z = some t → D.atKey (.string z) (ndD Nd.zero) = ndD t
def updN (T : List UInt8 → Option Nd) (z : List UInt8) (v : Option Nd) : List UInt8 → Option Nd := fun x => if x = z then v else T x
theorem updN_same (T : List UInt8 → Option Nd) (z : List UInt8) (v : Option Nd) : updN T z v z = v := by simp [updN]
theorem updN_other {T : List UInt8 → Option Nd} {z x : List UInt8} {v : Option Nd} (h : x ≠ z) : updN T z v x = T x := by simp [updN, h]
section
variable {w w' : World} {b k c : Nat} {T : List UInt8 → Option Nd}
theorem MapN.lt (h : MapN w b k c T) : b < w.heap.size := by obtain ⟨D, h, _⟩ := h; exact h.lt
theorem MapN.mono (h : MapN w b k c T) {k' : Nat} (hk : k ≤ k') : MapN w b k' c T := by obtain ⟨D, h, hD⟩ := h; exact ⟨D, h.mono hk, hD⟩
theorem MapN.keep0 (h : MapN w b k c T) (hs : w'.heap[b]? = w.heap[b]?) : MapN w' b k c T := by
  obtain ⟨D, ⟨es, clock, hb, F, hn, hD⟩, hT⟩ := h
  exact ⟨D, ⟨es, clock, hs.trans hb, F, hn, hD⟩, hT⟩
theorem MapN.below (h : MapN w b k c T) (kp : Below w.heap.size w w') : MapN w' b k c T := h.keep0 (kp.block b h.lt)
theorem MapN.new (w : World) : MapN (w.alloc (.map #[] 0)) w.heap.size 0 0 (fun _ => none) := ⟨.map [], World.ownsMap_made w _ _ _, rfl, fun z => ⟨rfl, fun t h => by cases h⟩⟩
theorem MapN.at (h : MapN w b k c T) {D : DataW Unit} {z : List UInt8} (hD : Maps.has D (.string z) = (T z).isSome ∧ ∀ t, T z = some t → D.atKey (.string z) (ndD Nd.zero) = ndD t) : D.atKey (.string z) (ndD Nd.zero) = ndD ((T z).getD Nd.zero) := by
  cases ht : T z with
  | none => exact atKey_of_not_has (D := D) (k := .string z) (by rw [hD.1, ht]; rfl) (ndD Nd.zero)
  | some t => exact hD.2 t ht
theorem MapN.look (h : MapN w b k c T) (z : List UInt8) (hz : z.length ≤ maxLen) : (Instr.lookup 68 (.map (some b)) (.string (bs z)) false).run Tryz.prog w = .ok (ndV ((T z).getD Nd.zero)) w := by
  have h0 := h
  obtain ⟨D, ho, hc, hD⟩ := h
  obtain ⟨v, ps, hrun, hv⟩ := ho.lookup lawS und_map9 (zero_nd w) (ndR_mk Nd.zero) (keyS z hz)
  rw [h0.at (hD z)] at hv
  rw [hrun, ndR_inv hv]
theorem MapN.look_ok (h : MapN w b k c T) (z : List UInt8) (hz : z.length ≤ maxLen) : (Instr.lookup 68 (.map (some b)) (.string (bs z)) true).run Tryz.prog w = .ok (.tuple #[ndV ((T z).getD Nd.zero), .bool (T z).isSome]) w := by
  have h0 := h
  obtain ⟨D, ho, hc, hD⟩ := h
  obtain ⟨v, ps, hrun, hv⟩ := ho.look_ok lawS und_map9 (zero_nd w) (ndR_mk Nd.zero) (keyS z hz)
  rw [h0.at (hD z)] at hv
  rw [hrun, ndR_inv hv, (hD z).1]
theorem MapN.len (h : MapN w b k c T) (ty : TypeId) : (Builtin.len_ #[68] ty #[.map (some b)]).run Tryz.prog w = .ok (.int .i64 (c : Int)) w := by
  obtain ⟨D, ho, hc, hD⟩ := h
  rw [ho.len und_map9 ty, hc]
theorem MapN.store (h : MapN w b k c T) (hk : k < 1000000000) (z : List UInt8) (hz : z.length ≤ maxLen) (n : Nd) :
    ∃ w', (Instr.mapUpdate 68 (.map (some b)) (.string (bs z)) (ndV n)).run Tryz.prog w = .ok () w' ∧ MapN w' b (k + 1) (if (T z).isSome then c else c + 1) (updN T z (some n)) ∧ w.grownBy w' (some b) := by
  obtain ⟨D, ho, hc, hD⟩ := h
  obtain ⟨w', hrun, ho', hm⟩ := ho.update lawS und_map9 (by unfold maxLen; omega) (keyS z hz) (ndR_mk n)
  refine ⟨w', hrun, ⟨_, ho', ?_, fun x => ?_⟩, hm⟩
  · rw [size_put (ho.tidy lawS), hc, (hD z).1]
  · unfold updN
    by_cases he : x = z
    · subst he
      rw [if_pos rfl]
      refine ⟨by rw [has_put_same ho.isMap (isKeyS x)]; rfl, fun t' h' => ?_⟩
      rw [atKey_put_same ho.isMap (isKeyS x)]
      injection h' with h'
      rw [h']
    · rw [if_neg he, has_put_other (key_neS he)]
      exact ⟨(hD x).1, fun t' h' => by rw [atKey_put_other (key_neS he)]; exact (hD x).2 t' h'⟩
theorem MapN.del (h : MapN w b k c T) (z : List UInt8) (hz : z.length ≤ maxLen) (ty : TypeId) :
    ∃ w', (Builtin.delete_ #[68, 9] ty #[.map (some b), .string (bs z)]).run Tryz.prog w = .ok (.tuple #[]) w' ∧ MapN w' b k (if (T z).isSome then c - 1 else c) (updN T z none) ∧ w.grownBy w' (some b) := by
  obtain ⟨D, ho, hc, hD⟩ := h
  obtain ⟨w', hrun, ho', hm⟩ := ho.drop lawS und_map9 (keyS z hz) ty
  refine ⟨w', hrun, ⟨_, ho', ?_, fun x => ?_⟩, hm.grown⟩
  · have := size_del (k := .string z) (ho.tidy lawS)
    rw [hc, (hD z).1] at this
    split at this <;> simp_all <;> omega
  · unfold updN
    by_cases he : x = z
    · subst he
      rw [if_pos rfl]
      exact ⟨by rw [has_del_same]; rfl, fun t' h' => by cases h'⟩
    · rw [if_neg he, has_del_other (key_neS he)]
      exact ⟨(hD x).1, fun t' h' => by rw [atKey_del_other (key_neS he)]; exact (hD x).2 t' h'⟩
end
end Go.Proofs.YtblcpihfnpgfiaaGreatDoor
