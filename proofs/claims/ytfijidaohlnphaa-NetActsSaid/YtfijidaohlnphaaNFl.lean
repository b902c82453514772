/- Flights in blocks of their own, the row of pointers to them, and a transit's Len and Less. No conditions beyond those in each statement. -/
import Derived.Test.YtfijidaohlnphaaNBase
namespace Go.Proofs.Ytfijidaohlnphaa
open Go.RowKit
set_option linter.unusedVariables false
set_option linter.unusedSimpArgs false
set_option maxRecDepth 100000

/-- A flight: its block, when it is due, its number, its message. -/
structure Fl where
  p : Nat
  due : Int
  no : Int
  ua : Option Addr
  un : Nat
  uc : Nat
  va : Option Addr
  vn : Nat
  vc : Nat
  m : Mg
def Fl.zero : Fl := ⟨0, 0, 0, none, 0, 0, none, 0, 0, Mg.zero⟩
def Fl.u (f : Fl) : Value := .slice f.ua f.un f.uc
def Fl.v (f : Fl) : Value := .slice f.va f.vn f.vc
def Fl.ptr (f : Fl) : Value := .pointer (some ⟨f.p, 0, none⟩)
def flA (f : Fl) : Array Value := #[.int .i64 f.due, .int .i64 f.no, .int .i64 f.m.kd, .int .i64 f.m.fr, .int .i64 f.m.dt, .int .i64 f.m.tm, .int .i64 f.m.ix, .int .i64 f.m.lg, .int .i64 f.m.la, .int .i64 f.m.co, f.u, .bool f.m.ok, .int .i64 f.m.st, .int .i64 f.m.li, .int .i64 f.m.lt, .int .i64 f.m.lb, f.v, .int .i64 f.m.pa, .string f.m.da]
def FlB (w : World) (f : Fl) : Prop := w.heap[f.p]? = some (.cells (flA f) 58 (0, 0))
section
variable {w w' : World} {f : Fl}
theorem FlB.lt (h : FlB w f) : f.p < w.heap.size := lt_of_block h
theorem FlB.c0 (h : FlB w f) : w.cell? ⟨f.p, 0, none⟩ = some (.int .i64 f.due) := by unfold FlB flA at h; simp [World.cell?, h]
theorem FlB.c1 (h : FlB w f) : w.cell? ⟨f.p, 1, none⟩ = some (.int .i64 f.no) := by unfold FlB flA at h; simp [World.cell?, h]
theorem run_loadF (h : FlB w f) : (Instr.loadAt 41 (.pointer (some ⟨f.p, 2, none⟩))).run Try.prog w = .ok (mgV f.u f.v f.m) w := by
  unfold FlB flA Fl.u Fl.v at h
  obtain ⟨c0, c1, c2, c3, c4, c5, c6, c7, c8, c9, c10, c11, c12, c13, c14, c15, c16⟩ : w.cell? ⟨f.p, 2, none⟩ = some (.int .i64 f.m.kd) ∧ w.cell? ⟨f.p, 3, none⟩ = some (.int .i64 f.m.fr) ∧ w.cell? ⟨f.p, 4, none⟩ = some (.int .i64 f.m.dt) ∧ w.cell? ⟨f.p, 5, none⟩ = some (.int .i64 f.m.tm) ∧ w.cell? ⟨f.p, 6, none⟩ = some (.int .i64 f.m.ix) ∧ w.cell? ⟨f.p, 7, none⟩ = some (.int .i64 f.m.lg) ∧ w.cell? ⟨f.p, 8, none⟩ = some (.int .i64 f.m.la) ∧ w.cell? ⟨f.p, 9, none⟩ = some (.int .i64 f.m.co) ∧ w.cell? ⟨f.p, 10, none⟩ = some (.slice f.ua f.un f.uc) ∧ w.cell? ⟨f.p, 11, none⟩ = some (.bool f.m.ok) ∧ w.cell? ⟨f.p, 12, none⟩ = some (.int .i64 f.m.st) ∧ w.cell? ⟨f.p, 13, none⟩ = some (.int .i64 f.m.li) ∧ w.cell? ⟨f.p, 14, none⟩ = some (.int .i64 f.m.lt) ∧ w.cell? ⟨f.p, 15, none⟩ = some (.int .i64 f.m.lb) ∧ w.cell? ⟨f.p, 16, none⟩ = some (.slice f.va f.vn f.vc) ∧ w.cell? ⟨f.p, 17, none⟩ = some (.int .i64 f.m.pa) ∧ w.cell? ⟨f.p, 18, none⟩ = some (.string f.m.da) := by
    simp [World.cell?, h]
  unfold Fl.u Fl.v
  simp [go_sem, c0, c1, c2, c3, c4, c5, c6, c7, c8, c9, c10, c11, c12, c13, c14, c15, c16, mgV]
theorem FlB.same (h : FlB w f) (e : w'.heap[f.p]? = w.heap[f.p]?) : FlB w' f := e.trans h
end
/-- Whether the first is delivered ahead of the second. -/
def lessF (f g : Fl) : Bool := if f.due = g.due then decide (f.no < g.no) else decide (f.due < g.due)
/-- A row of pointers to flights. -/
structure RowB (w : World) (base g cap : Nat) (cur : Array Value) (L : List Fl) : Prop where
  low : base ≤ g
  blk : w.heap[g]? = some (.cells cur 55 (0, 0))
  len : L.length ≤ cap
  fit : cap ≤ cur.size
  big : cap ≤ maxLen
  at_ : ∀ j, j < L.length → cur[j]? = some (L.getD j Fl.zero).ptr
def NRow (w : World) (base : Nat) (v : Value) (L : List Fl) : Prop :=
  L.length ≤ 2000 ∧ (∀ f ∈ L, FlB w f) ∧ ((v = .slice none 0 0 ∧ L = []) ∨ ∃ g cap cur, v = .slice (some ⟨g, 0, none⟩) L.length cap ∧ RowB w base g cap cur L)
section
variable {w w' : World} {base g cap : Nat} {cur : Array Value} {L : List Fl} {v : Value}
theorem RowB.cell (h : RowB w base g cap cur L) {j : Nat} (hj : j < L.length) : w.cell? ⟨g, j, none⟩ = some (L.getD j Fl.zero).ptr := by
  have h1 := h.blk
  have h2 := h.at_ j hj
  simp [World.cell?, h1, h2]
theorem RowB.fz (h : RowB w base g cap cur L) (j : Nat) : w.frozen? ⟨g, j, none⟩ = false := by
  have h1 := h.blk
  simp [World.frozen?, h1]
theorem RowB.lt (h : RowB w base g cap cur L) : g < w.heap.size := lt_of_block h.blk
theorem RowB.same (h : RowB w base g cap cur L) (e : w'.heap[g]? = w.heap[g]?) : RowB w' base g cap cur L := ⟨h.low, e.trans h.blk, h.len, h.fit, h.big, h.at_⟩
theorem NRow.form (h : NRow w base v L) : ∃ a c, v = .slice a L.length c ∧ (0 < L.length → ∃ g cur, a = some ⟨g, 0, none⟩ ∧ RowB w base g c cur L) := by
  rcases h.2.2 with ⟨rfl, rfl⟩ | ⟨g, c, cur, rfl, hr⟩
  · exact ⟨none, 0, rfl, fun h => by simp at h⟩
  · exact ⟨_, c, rfl, fun _ => ⟨g, cur, rfl, hr⟩⟩
theorem NRow.own (h : NRow w base v L) {g : Nat} (hg : v.ownBlock = some g) : base ≤ g ∧ g < w.heap.size ∧ ∃ cs, w.heap[g]? = some (.cells cs 55 (0, 0)) := by
  rcases h.2.2 with ⟨rfl, rfl⟩ | ⟨g', c, cur, rfl, hr⟩
  · simp [Value.ownBlock] at hg
  · simp [Value.ownBlock] at hg; subst hg; exact ⟨hr.low, hr.lt, cur, hr.blk⟩
/-- A flight's block and the row's are two. -/
theorem FlB.ne_row {f : Fl} (h : FlB w f) {cs : Array Value} (hg : w.heap[g]? = some (.cells cs 55 (0, 0))) : f.p ≠ g := by
  intro e
  unfold FlB at h
  rw [e, hg] at h
  injection h with h
  injection h with _ h
  cases h
end
theorem ord_nat (i : Nat) (h : i < 2000) : (0 : Int) ≤ (i : Int) := by omega
set_option maxHeartbeats 4000000 in
theorem len_any (a : Option Addr) (n c : Nat) (w : World) :
    Calls Try.prog 14 #[.slice a n c] w fun e w' => e = .returned (.int .i64 n) ∧ w' = w := by
  go_enter Try.func14, Try.ntmps14
  go_wp2_with fail
  go_ret
  exact ⟨rfl, rfl⟩
set_option maxHeartbeats 4000000 in
theorem less_any {w : World} {base : Nat} {v : Value} {L : List Fl} (h : NRow w base v L) (i j : Nat) (hi : i < L.length) (hj : j < L.length) :
    Calls Try.prog 38 #[v, .int .i64 i, .int .i64 j] w fun e w' => e = .returned (.bool (lessF (L.getD i Fl.zero) (L.getD j Fl.zero))) ∧ ∃ q, w' = w.drewN q := by
  have hl := h.1
  obtain ⟨a, c, rfl, ha⟩ := h.form
  obtain ⟨g, cur, rfl, hr⟩ := ha (by omega)
  have ci := hr.cell hi
  have cj := hr.cell hj
  have Fi := h.2.1 _ (getD_mem (d := Fl.zero) hi)
  have Fj := h.2.1 _ (getD_mem (d := Fl.zero) hj)
  obtain ⟨f1, hf1⟩ : ∃ f, f = L.getD i Fl.zero := ⟨_, rfl⟩
  obtain ⟨f2, hf2⟩ : ∃ f, f = L.getD j Fl.zero := ⟨_, rfl⟩
  rw [← hf1] at ci Fi ⊢
  rw [← hf2] at cj Fj ⊢
  have d1 := Fi.c0
  have d2 := Fj.c0
  have n1 := Fi.c1
  have n2 := Fj.c1
  unfold Fl.ptr at ci cj
  have x0 : (0 : Int) ≤ (i : Int) := by omega
  have x1 : (i : Int) < (L.length : Int) := by omega
  have y0 : (0 : Int) ≤ (j : Int) := by omega
  have y1 : (j : Int) < (L.length : Int) := by omega
  unfold lessF
  clear h ha hr Fi Fj hf1 hf2 hl
  by_cases hd : f1.due = f2.due
  · rw [if_pos hd]
    have hd1 : (f1.due != f2.due) = false := by simp [hd]
    have HD := Lib.hid hd
    clear hd
    go_enter Try.func38, Try.ntmps38
    go_wp2_with fail
    go_quiet (fail)
    go_wp2_with fail
    go_quiet (fail)
    go_wp2_with fail
    go_ret
    exact ⟨rfl, _, by rw [World.drewN_drewN]⟩
  · rw [if_neg hd]
    have hd1 : (f1.due != f2.due) = true := by simp [hd]
    have HD := Lib.hid hd
    clear hd
    go_enter Try.func38, Try.ntmps38
    go_wp2_with fail
    go_quiet (fail)
    go_wp2_with fail
    go_quiet (fail)
    go_wp2_with fail
    go_ret
    exact ⟨rfl, _, by rw [World.drewN_drewN]⟩
end Go.Proofs.Ytfijidaohlnphaa
