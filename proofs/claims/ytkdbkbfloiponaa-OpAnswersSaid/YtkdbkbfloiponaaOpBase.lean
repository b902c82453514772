/- Operations and commands as values; whether an operation is right. No conditions beyond those in each statement. -/
import Derived.Test.YtkdbkbfloiponaaPithGood
import Derived.Test.YtkdbkbfloiponaaInvar6
import Derived.ProofKit
import Derived.Below
import Derived.Deep.QuietTactic
import Derived.Deep.RegionHeld3
import Derived.Deep.DeepCutAuto
import Derived.Laws.AppendOwn
import Derived.Lib.SliceRun
import Derived.Outline
namespace Go.Proofs.Ytkdbkbfloiponaa
open Go.RowKit
set_option linter.unusedVariables false
set_option maxRecDepth 100000

section
variable {α : Type} (one : α → List Value) (k : Nat)
def cellsK (l : List α) : List Value := l.flatMap one
variable {one k}
theorem cellsK_nil : cellsK one [] = [] := rfl
theorem cellsK_cons (x : α) (l : List α) : cellsK one (x :: l) = one x ++ cellsK one l := rfl
theorem cellsK_append (l m : List α) : cellsK one (l ++ m) = cellsK one l ++ cellsK one m := by unfold cellsK; rw [List.flatMap_append]
theorem cellsK_len (hk : ∀ x, (one x).length = k) (l : List α) : (cellsK one l).length = l.length * k := by
  induction l with
  | nil => simp [cellsK]
  | cons x l ih => rw [cellsK_cons, List.length_append, ih, hk, List.length_cons, Nat.succ_mul, Nat.add_comm]
theorem cellsK_at (hk : ∀ x, (one x).length = k) : ∀ (l : List α) (j i : Nat) (x : α), l[j]? = some x → i < k → (cellsK one l)[j * k + i]? = (one x)[i]?
  | [], j, i, x, h, _ => by simp at h
  | y :: l, 0, i, x, h, hi => by
    obtain rfl : y = x := by simpa using h
    rw [cellsK_cons, Nat.zero_mul, Nat.zero_add, List.getElem?_append_left (by rw [hk]; exact hi)]
  | y :: l, j + 1, i, x, h, hi => by
    have := cellsK_at hk l j i x (by simpa using h) hi
    rw [cellsK_cons, List.getElem?_append_right (by rw [hk, Nat.succ_mul]; omega), hk, Nat.succ_mul, ← this]
    congr 1; omega
theorem cellsK_one (h1 : ∀ x, ∀ v ∈ one x, v.oneCell' = true) (l : List α) (v : Value) (h : v ∈ cellsK one l) : v.oneCell' = true := by
  obtain ⟨x, _, hx⟩ := List.mem_flatMap.1 h
  exact h1 x v hx
theorem cellsK_set (hk : ∀ x, (one x).length = k) (l : List α) (i f : Nat) (x y : α) (u : Value) (h : l[i]? = some x) (hf : f < k) (hu : (one x).set f u = one y) : (cellsK one l).set (i * k + f) u = cellsK one (l.set i y) := by
  induction l generalizing i with
  | nil => simp at h
  | cons z l ih =>
    cases i with
    | zero =>
      obtain rfl : z = x := by simpa using h
      rw [cellsK_cons, Nat.zero_mul, Nat.zero_add, List.set_append_left _ _ (by rw [hk]; exact hf), hu]; rfl
    | succ i =>
      rw [cellsK_cons, List.set_append_right _ _ (by rw [hk, Nat.succ_mul]; omega), hk, List.set_cons_succ, cellsK_cons, ← ih i (by simpa using h)]
      congr 2; rw [Nat.succ_mul]; omega
end
/-- A whole number that a machine's int holds. -/
def InR (z : Int) : Prop := -9223372036854775808 ≤ z ∧ z ≤ 9223372036854775807
/-- An operation. -/
structure Opr where
  does : Int
  path : ByteArray
  data : ByteArray
  ver : Int
  ser : Bool
  own : Bool
def Opr.zero : Opr := ⟨0, ⟨#[]⟩, ⟨#[]⟩, 0, false, false⟩
structure Opr.Ok (o : Opr) : Prop where
  does : InR o.does
  path : o.path.size ≤ maxLen
  data : o.data.size ≤ maxLen
  ver : InR o.ver
def opOne (o : Opr) : List Value := [.int .i64 o.does, .string o.path, .string o.data, .int .i64 o.ver, .bool o.ser, .bool o.own]
def opV (o : Opr) : Value := .agg #[.int .i64 o.does, .string o.path, .string o.data, .int .i64 o.ver, .bool o.ser, .bool o.own]
theorem opOne_len (x : Opr) : (opOne x).length = 6 := rfl
theorem opOne_one (x : Opr) : ∀ v ∈ opOne x, v.oneCell' = true := by
  intro v hv
  simp only [opOne, List.mem_cons, List.not_mem_nil, or_false] at hv
  rcases hv with rfl | rfl | rfl | rfl | rfl | rfl <;> rfl
def OpC (w : World) (g o : Nat) (x : Opr) : Prop :=
  w.cell? ⟨g, o, none⟩ = some (.int .i64 x.does) ∧ w.cell? ⟨g, o + 1, none⟩ = some (.string x.path) ∧ w.cell? ⟨g, o + 2, none⟩ = some (.string x.data) ∧ w.cell? ⟨g, o + 3, none⟩ = some (.int .i64 x.ver) ∧ w.cell? ⟨g, o + 4, none⟩ = some (.bool x.ser) ∧ w.cell? ⟨g, o + 5, none⟩ = some (.bool x.own)
theorem OpC.below {w x : World} {g o : Nat} {q : Opr} (h : OpC w g o q) (hb : Below w.heap.size w x) (hg : g < w.heap.size) : OpC x g o q := by
  obtain ⟨h0, h1, h2, h3, h4, h5⟩ := h
  exact ⟨(hb.cell (p := ⟨g, _, none⟩) hg).trans h0, (hb.cell (p := ⟨g, _, none⟩) hg).trans h1, (hb.cell (p := ⟨g, _, none⟩) hg).trans h2, (hb.cell (p := ⟨g, _, none⟩) hg).trans h3, (hb.cell (p := ⟨g, _, none⟩) hg).trans h4, (hb.cell (p := ⟨g, _, none⟩) hg).trans h5⟩
/-- A slice of operations that can be read. -/
def OpsR (w : World) (v : Value) (L : List Opr) : Prop :=
  ∃ p cap, v = .slice p L.length cap ∧ L.length ≤ maxLen ∧ (∀ x ∈ L, x.Ok) ∧ (L.length = 0 ∨ ∃ g off, p = some ⟨g, off, none⟩ ∧ g < w.heap.size ∧ ∀ j, j < L.length → OpC w g (off + j * 6) (L.getD j Opr.zero))
theorem OpsR.below {w x : World} {v : Value} {L : List Opr} (h : OpsR w v L) (hb : Below w.heap.size w x) : OpsR x v L := by
  obtain ⟨a, cap, hv, hm, ho, h⟩ := h
  refine ⟨a, cap, hv, hm, ho, h.imp id ?_⟩
  rintro ⟨g, off, ha, hg, hc⟩
  exact ⟨g, off, ha, Nat.lt_of_lt_of_le hg hb.size, fun j hj => (hc j hj).below hb hg⟩
theorem getD_mem {α : Type} {L : List α} {d : α} {k : Nat} (h : k < L.length) : L.getD k d ∈ L := by
  rw [List.getD_eq_getElem?_getD, List.getElem?_eq_getElem h]; exact List.getElem_mem h
theorem OpsR.at {w x : World} {a : Option Addr} {cap k : Nat} {L : List Opr} (h : OpsR w (.slice a L.length cap) L) (hb : Below w.heap.size w x) (hk : k < L.length) : (L.getD k Opr.zero).Ok ∧ ∃ g off, a = some ⟨g, off, none⟩ ∧ OpC x g (off + k * 6) (L.getD k Opr.zero) := by
  obtain ⟨_, _, e0, _, ho, h⟩ := h.below hb
  obtain ⟨rfl, rfl⟩ : a = _ ∧ cap = _ := by simpa using e0
  refine ⟨ho _ (getD_mem hk), ?_⟩
  rcases h with h | ⟨g, off, rfl, hg, hc⟩
  · omega
  · exact ⟨g, off, rfl, hc k hk⟩
/-- A command. -/
structure Cm where
  kind : Int
  ses : Int
  req : Int
  noted : Int
  ops : List Opr
  path : ByteArray
  kids : Bool
  once : Bool
structure Cm.Ok (c : Cm) : Prop where
  kind : InR c.kind
  ses : InR c.ses
  req : InR c.req
  noted : InR c.noted
  path : c.path.size ≤ maxLen
def cmV (v : Value) (c : Cm) : Value := .agg #[.int .i64 c.kind, .int .i64 c.ses, .int .i64 c.req, .int .i64 c.noted, v, .string c.path, .bool c.kids, .bool c.once]
/-- The command's value, whose operations can be read. -/
def CmR (w : World) (v : Value) (c : Cm) : Prop := c.Ok ∧ ∃ u, v = cmV u c ∧ OpsR w u c.ops
theorem CmR.below {w x : World} {v : Value} {c : Cm} (h : CmR w v c) (hb : Below w.heap.size w x) : CmR x v c := by
  obtain ⟨h0, u, h1, h2⟩ := h; exact ⟨h0, u, h1, h2.below hb⟩
/-- Is an operation right? -/
def rightO (o : Opr) : Bool := decide (1 ≤ o.does) && decide (o.does ≤ 4) && decide ((o.path.size : Int) ≤ 60) && decide ((o.data.size : Int) ≤ 61) && decide (-1 ≤ o.ver) && decide (o.ver < 281474976710655)
set_option maxHeartbeats 4000000 in
theorem rightop_any (o : Opr) (w : World) (h1 : o.path.size ≤ maxLen) (h2 : o.data.size ≤ maxLen) :
    Calls Try.prog 21 #[opV o] w fun e w' => e = .returned (.bool (rightO o)) ∧ Below w.heap.size w w' := by
  obtain ⟨d, p, t, v, s, n⟩ := o
  unfold maxLen at h1 h2
  simp only at h1 h2
  show Calls _ _ #[.agg #[.int .i64 d, .string p, .string t, .int .i64 v, .bool s, .bool n]] w _
  have bA := (Below.refl w.heap.size w).alloc (Nat.le_refl _) (.cells #[.int .i64 d, .string p, .string t, .int .i64 v, .bool s, .bool n] 50)
  cases d1 : decide (1 ≤ d) with
  | false =>
    have HR := Lib.hid (show rightO ⟨d, p, t, v, s, n⟩ = false by simp only [rightO, d1, Bool.false_and])
    go_enter Try.func21, Try.ntmps21
    go_wp2_with fail
    go_ret
    exact ⟨by rw [HR.out]; rfl, bA⟩
  | true =>
  cases d2 : decide (d ≤ 4) with
  | false =>
    have HR := Lib.hid (show rightO ⟨d, p, t, v, s, n⟩ = false by simp only [rightO, d1, d2, Bool.true_and, Bool.false_and])
    go_enter Try.func21, Try.ntmps21
    go_wp2_with fail
    go_ret
    exact ⟨by rw [HR.out]; rfl, bA⟩
  | true =>
  cases d3 : decide ((p.size : Int) ≤ 60) with
  | false =>
    have HR := Lib.hid (show rightO ⟨d, p, t, v, s, n⟩ = false by simp only [rightO, d1, d2, d3, Bool.true_and, Bool.false_and])
    go_enter Try.func21, Try.ntmps21
    go_wp2_with fail
    go_ret
    exact ⟨by rw [HR.out]; rfl, bA⟩
  | true =>
  cases d4 : decide ((t.size : Int) ≤ 61) with
  | false =>
    have HR := Lib.hid (show rightO ⟨d, p, t, v, s, n⟩ = false by simp only [rightO, d1, d2, d3, d4, Bool.true_and, Bool.false_and])
    go_enter Try.func21, Try.ntmps21
    go_wp2_with fail
    go_ret
    exact ⟨by rw [HR.out]; rfl, bA⟩
  | true =>
  cases d5 : decide (-1 ≤ v) with
  | false =>
    have HR := Lib.hid (show rightO ⟨d, p, t, v, s, n⟩ = false by simp only [rightO, d1, d2, d3, d4, d5, Bool.true_and, Bool.false_and])
    go_enter Try.func21, Try.ntmps21
    go_wp2_with fail
    go_ret
    exact ⟨by rw [HR.out]; rfl, bA⟩
  | true =>
    have HR := Lib.hid (show rightO ⟨d, p, t, v, s, n⟩ = decide (v < 281474976710655) by simp only [rightO, d1, d2, d3, d4, d5, Bool.true_and])
    go_enter Try.func21, Try.ntmps21
    go_wp2_with fail
    go_ret
    exact ⟨by rw [HR.out]; rfl, bA⟩
end Go.Proofs.Ytkdbkbfloiponaa
