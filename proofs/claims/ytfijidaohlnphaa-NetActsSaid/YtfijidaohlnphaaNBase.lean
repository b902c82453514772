/- Messages as values and in blocks. No conditions beyond those in each statement. -/
import Derived.Test.YtfijidaohlnphaaNGen
namespace Go.Proofs.Ytfijidaohlnphaa
open Go.RowKit
set_option linter.unusedVariables false
set_option linter.unusedSimpArgs false
set_option maxRecDepth 100000

/-- An entry. -/
structure Ent where
  ix : Int
  tm : Int
  da : ByteArray
def Ent.zero : Ent := ⟨0, 0, ⟨#[]⟩⟩
structure Ent.Ok (o : Ent) : Prop where
  ix : InR o.ix
  tm : InR o.tm
  da : o.da.size ≤ maxLen
def entOne (o : Ent) : List Value := [.int .i64 o.ix, .int .i64 o.tm, .string o.da]
def entV (o : Ent) : Value := .agg #[.int .i64 o.ix, .int .i64 o.tm, .string o.da]
def entA (o : Ent) : Array Value := #[.int .i64 o.ix, .int .i64 o.tm, .string o.da]
theorem entOne_len (x : Ent) : (entOne x).length = 3 := rfl
theorem entOne_one (x : Ent) : ∀ v ∈ entOne x, v.oneCell' = true := by
  intro v hv
  simp only [entOne, List.mem_cons, List.not_mem_nil, or_false] at hv
  rcases hv with rfl | rfl | rfl <;> rfl
def EnC (w : World) (g o : Nat) (x : Ent) : Prop :=
  w.cell? ⟨g, o, none⟩ = some (.int .i64 x.ix) ∧ w.cell? ⟨g, o + 1, none⟩ = some (.int .i64 x.tm) ∧ w.cell? ⟨g, o + 2, none⟩ = some (.string x.da)
theorem EnC.below {w x : World} {g o : Nat} {q : Ent} (h : EnC w g o q) (hb : Below w.heap.size w x) (hg : g < w.heap.size) : EnC x g o q := by
  obtain ⟨h0, h1, h2⟩ := h
  exact ⟨(hb.cell (p := ⟨g, _, none⟩) hg).trans h0, (hb.cell (p := ⟨g, _, none⟩) hg).trans h1, (hb.cell (p := ⟨g, _, none⟩) hg).trans h2⟩
/-- A slice of entries that can be read. -/
def EnsR (w : World) (v : Value) (L : List Ent) : Prop :=
  ∃ p cap, v = .slice p L.length cap ∧ L.length ≤ maxLen ∧ (∀ x ∈ L, x.Ok) ∧ (L.length = 0 ∨ ∃ g off, p = some ⟨g, off, none⟩ ∧ g < w.heap.size ∧ ∀ j, j < L.length → EnC w g (off + j * 3) (L.getD j Ent.zero))
theorem EnsR.below {w x : World} {v : Value} {L : List Ent} (h : EnsR w v L) (hb : Below w.heap.size w x) : EnsR x v L := by
  obtain ⟨a, cap, hv, hm, ho, h⟩ := h
  refine ⟨a, cap, hv, hm, ho, h.imp id ?_⟩
  rintro ⟨g, off, ha, hg, hc⟩
  exact ⟨g, off, ha, Nat.lt_of_lt_of_le hg hb.size, fun j hj => (hc j hj).below hb hg⟩
theorem EnsR.at {w x : World} {a : Option Addr} {cap k : Nat} {L : List Ent} (h : EnsR w (.slice a L.length cap) L) (hb : Below w.heap.size w x) (hk : k < L.length) : (L.getD k Ent.zero).Ok ∧ ∃ g off, a = some ⟨g, off, none⟩ ∧ EnC x g (off + k * 3) (L.getD k Ent.zero) := by
  obtain ⟨_, _, e0, _, ho, h⟩ := h.below hb
  obtain ⟨rfl, rfl⟩ : a = _ ∧ cap = _ := by simpa using e0
  refine ⟨ho _ (getD_mem hk), ?_⟩
  rcases h with h | ⟨g, off, rfl, hg, hc⟩
  · omega
  · exact ⟨g, off, rfl, hc k hk⟩
theorem EnsR.form {w : World} {v : Value} {L : List Ent} (h : EnsR w v L) : ∃ a cap, v = .slice a L.length cap ∧ L.length ≤ maxLen := by
  obtain ⟨a, cap, h1, h2, _⟩ := h; exact ⟨a, cap, h1, h2⟩
theorem EnsR.oks {w : World} {v : Value} {L : List Ent} (h : EnsR w v L) : ∀ x ∈ L, x.Ok := by
  obtain ⟨a, cap, _, _, h, _⟩ := h; exact h
theorem EnsR.nil (w : World) : EnsR w (.slice none 0 0) [] := ⟨none, 0, rfl, Nat.zero_le _, (fun x hx => by cases hx), .inl rfl⟩
/-- A slice of sums that can be read. -/
def SmsR (w : World) (v : Value) (S : List Int) : Prop :=
  ∃ p cap, v = .slice p S.length cap ∧ S.length ≤ maxLen ∧ (∀ x ∈ S, 0 ≤ x ∧ x ≤ 4294967295) ∧ (S.length = 0 ∨ ∃ g off, p = some ⟨g, off, none⟩ ∧ g < w.heap.size ∧ ∀ j, j < S.length → w.cell? ⟨g, off + j, none⟩ = some (.int .u32 (S.getD j 0)))
theorem SmsR.below {w x : World} {v : Value} {L : List Int} (h : SmsR w v L) (hb : Below w.heap.size w x) : SmsR x v L := by
  obtain ⟨a, cap, hv, hm, ho, h⟩ := h
  refine ⟨a, cap, hv, hm, ho, h.imp id ?_⟩
  rintro ⟨g, off, ha, hg, hc⟩
  exact ⟨g, off, ha, Nat.lt_of_lt_of_le hg hb.size, fun j hj => (hb.cell (p := ⟨g, _, none⟩) hg).trans (hc j hj)⟩
theorem SmsR.at {w x : World} {a : Option Addr} {cap k : Nat} {L : List Int} (h : SmsR w (.slice a L.length cap) L) (hb : Below w.heap.size w x) (hk : k < L.length) : (0 ≤ L.getD k 0 ∧ L.getD k 0 ≤ 4294967295) ∧ ∃ g off, a = some ⟨g, off, none⟩ ∧ x.cell? ⟨g, off + k, none⟩ = some (.int .u32 (L.getD k 0)) := by
  obtain ⟨_, _, e0, _, ho, h⟩ := h.below hb
  obtain ⟨rfl, rfl⟩ : a = _ ∧ cap = _ := by simpa using e0
  refine ⟨ho _ (getD_mem hk), ?_⟩
  rcases h with h | ⟨g, off, rfl, hg, hc⟩
  · omega
  · exact ⟨g, off, rfl, hc k hk⟩
theorem SmsR.form {w : World} {v : Value} {L : List Int} (h : SmsR w v L) : ∃ a cap, v = .slice a L.length cap ∧ L.length ≤ maxLen := by
  obtain ⟨a, cap, h1, h2, _⟩ := h; exact ⟨a, cap, h1, h2⟩
theorem SmsR.oks {w : World} {v : Value} {L : List Int} (h : SmsR w v L) : ∀ x ∈ L, 0 ≤ x ∧ x ≤ 4294967295 := by
  obtain ⟨a, cap, _, _, h, _⟩ := h; exact h
theorem SmsR.nil (w : World) : SmsR w (.slice none 0 0) [] := ⟨none, 0, rfl, Nat.zero_le _, (fun x hx => by cases hx), .inl rfl⟩
/-- A message. -/
@[ext] structure Mg where
  kd : Int
  fr : Int
  dt : Int
  tm : Int
  ix : Int
  lg : Int
  la : Int
  co : Int
  es : List Ent
  ok : Bool
  st : Int
  li : Int
  lt : Int
  lb : Int
  ss : List Int
  pa : Int
  da : ByteArray
def Mg.zero : Mg := ⟨0, 0, 0, 0, 0, 0, 0, 0, [], false, 0, 0, 0, 0, [], 0, ⟨#[]⟩⟩
structure Mg.Ok (m : Mg) : Prop where
  kd : InR m.kd
  fr : InR m.fr
  dt : InR m.dt
  tm : InR m.tm
  ix : InR m.ix
  lg : InR m.lg
  la : InR m.la
  co : InR m.co
  st : InR m.st
  li : InR m.li
  lt : InR m.lt
  lb : InR m.lb
  pa : InR m.pa
  da : m.da.size ≤ maxLen
def mgV (u v : Value) (m : Mg) : Value := .agg #[.int .i64 m.kd, .int .i64 m.fr, .int .i64 m.dt, .int .i64 m.tm, .int .i64 m.ix, .int .i64 m.lg, .int .i64 m.la, .int .i64 m.co, u, .bool m.ok, .int .i64 m.st, .int .i64 m.li, .int .i64 m.lt, .int .i64 m.lb, v, .int .i64 m.pa, .string m.da]
def mgA (u v : Value) (m : Mg) : Array Value := #[.int .i64 m.kd, .int .i64 m.fr, .int .i64 m.dt, .int .i64 m.tm, .int .i64 m.ix, .int .i64 m.lg, .int .i64 m.la, .int .i64 m.co, u, .bool m.ok, .int .i64 m.st, .int .i64 m.li, .int .i64 m.lt, .int .i64 m.lb, v, .int .i64 m.pa, .string m.da]
theorem mgV_eq (u v : Value) (m : Mg) : mgV u v m = .agg #[.int .i64 m.kd, .int .i64 m.fr, .int .i64 m.dt, .int .i64 m.tm, .int .i64 m.ix, .int .i64 m.lg, .int .i64 m.la, .int .i64 m.co, u, .bool m.ok, .int .i64 m.st, .int .i64 m.li, .int .i64 m.lt, .int .i64 m.lb, v, .int .i64 m.pa, .string m.da] := rfl
theorem mgA_eq (u v : Value) (m : Mg) : mgA u v m = #[.int .i64 m.kd, .int .i64 m.fr, .int .i64 m.dt, .int .i64 m.tm, .int .i64 m.ix, .int .i64 m.lg, .int .i64 m.la, .int .i64 m.co, u, .bool m.ok, .int .i64 m.st, .int .i64 m.li, .int .i64 m.lt, .int .i64 m.lb, v, .int .i64 m.pa, .string m.da] := rfl
def MgB (w : World) (b : Nat) (u v : Value) (m : Mg) : Prop := w.heap[b]? = some (.cells (mgA u v m) 41 (0, 0))
theorem MgB.lt {w : World} {b : Nat} {u v : Value} {o : Mg} (h : MgB w b u v o) : b < w.heap.size := (Array.getElem?_eq_some_iff.1 h).1
theorem MgB.below {w w' : World} {b : Nat} {u v : Value} {o : Mg} (h : MgB w b u v o) (hb : Below w.heap.size w w') : MgB w' b u v o := (hb.block b h.lt).trans h
theorem MgB.kept {w w' : World} {b : Nat} {u v : Value} {o : Mg} {r : Option Nat} (h : MgB w b u v o) (hg : w.grownBy w' r) (hr : some b ≠ r) : MgB w' b u v o := (hg.block b h.lt hr).trans h
theorem MgB.new (w : World) (u v : Value) (n : Mg) : MgB (w.alloc (.cells (mgA u v n) 41)) w.heap.size u v n := heap_alloc_new w _
theorem MgB.set {w : World} {b c i : Nat} {u v x : Value} {o : Mg} (h : MgB w c u v o) (hne : c ≠ b) : MgB (w.setCell ⟨b, i, none⟩ x) c u v o := kept_set h hne
theorem MgB.cells {w : World} {b : Nat} {u v : Value} {m : Mg} (h : MgB w b u v m) : (w.cell? ⟨b, 0, none⟩ = some (.int .i64 m.kd) ∧ w.cell? ⟨b, 1, none⟩ = some (.int .i64 m.fr) ∧ w.cell? ⟨b, 2, none⟩ = some (.int .i64 m.dt) ∧ w.cell? ⟨b, 3, none⟩ = some (.int .i64 m.tm) ∧ w.cell? ⟨b, 4, none⟩ = some (.int .i64 m.ix) ∧ w.cell? ⟨b, 5, none⟩ = some (.int .i64 m.lg) ∧ w.cell? ⟨b, 6, none⟩ = some (.int .i64 m.la) ∧ w.cell? ⟨b, 7, none⟩ = some (.int .i64 m.co) ∧ w.cell? ⟨b, 8, none⟩ = some (u) ∧ w.cell? ⟨b, 9, none⟩ = some (.bool m.ok) ∧ w.cell? ⟨b, 10, none⟩ = some (.int .i64 m.st) ∧ w.cell? ⟨b, 11, none⟩ = some (.int .i64 m.li) ∧ w.cell? ⟨b, 12, none⟩ = some (.int .i64 m.lt) ∧ w.cell? ⟨b, 13, none⟩ = some (.int .i64 m.lb) ∧ w.cell? ⟨b, 14, none⟩ = some (v) ∧ w.cell? ⟨b, 15, none⟩ = some (.int .i64 m.pa) ∧ w.cell? ⟨b, 16, none⟩ = some (.string m.da)) ∧
    (w.frozen? ⟨b, 0, none⟩ = false ∧ w.frozen? ⟨b, 1, none⟩ = false ∧ w.frozen? ⟨b, 2, none⟩ = false ∧ w.frozen? ⟨b, 3, none⟩ = false ∧ w.frozen? ⟨b, 4, none⟩ = false ∧ w.frozen? ⟨b, 5, none⟩ = false ∧ w.frozen? ⟨b, 6, none⟩ = false ∧ w.frozen? ⟨b, 7, none⟩ = false ∧ w.frozen? ⟨b, 8, none⟩ = false ∧ w.frozen? ⟨b, 9, none⟩ = false ∧ w.frozen? ⟨b, 10, none⟩ = false ∧ w.frozen? ⟨b, 11, none⟩ = false ∧ w.frozen? ⟨b, 12, none⟩ = false ∧ w.frozen? ⟨b, 13, none⟩ = false ∧ w.frozen? ⟨b, 14, none⟩ = false ∧ w.frozen? ⟨b, 15, none⟩ = false ∧ w.frozen? ⟨b, 16, none⟩ = false) := by
  unfold MgB mgA at h
  simp [World.cell?, World.frozen?, h]
theorem below17 {n b : Nat} {w x : World} (h : Below n w x) (hb : n ≤ b) (x0 x1 x2 x3 x4 x5 x6 x7 x8 x9 x10 x11 x12 x13 x14 x15 x16 : Value) : Below n w (((((((((((((((((x.setCell ⟨b, 0, none⟩ x0).setCell ⟨b, 1, none⟩ x1).setCell ⟨b, 2, none⟩ x2).setCell ⟨b, 3, none⟩ x3).setCell ⟨b, 4, none⟩ x4).setCell ⟨b, 5, none⟩ x5).setCell ⟨b, 6, none⟩ x6).setCell ⟨b, 7, none⟩ x7).setCell ⟨b, 8, none⟩ x8).setCell ⟨b, 9, none⟩ x9).setCell ⟨b, 10, none⟩ x10).setCell ⟨b, 11, none⟩ x11).setCell ⟨b, 12, none⟩ x12).setCell ⟨b, 13, none⟩ x13).setCell ⟨b, 14, none⟩ x14).setCell ⟨b, 15, none⟩ x15).setCell ⟨b, 16, none⟩ x16) :=
  (((((((((((((((((h.setCell hb _).setCell hb _).setCell hb _).setCell hb _).setCell hb _).setCell hb _).setCell hb _).setCell hb _).setCell hb _).setCell hb _).setCell hb _).setCell hb _).setCell hb _).setCell hb _).setCell hb _).setCell hb _).setCell hb _)
theorem MgB.set17 {x : World} {b : Nat} {u0 v0 u v : Value} {m0 : Mg} (h : MgB x b u0 v0 m0) (m : Mg) : MgB (((((((((((((((((x.setCell ⟨b, 0, none⟩ (.int .i64 m.kd)).setCell ⟨b, 1, none⟩ (.int .i64 m.fr)).setCell ⟨b, 2, none⟩ (.int .i64 m.dt)).setCell ⟨b, 3, none⟩ (.int .i64 m.tm)).setCell ⟨b, 4, none⟩ (.int .i64 m.ix)).setCell ⟨b, 5, none⟩ (.int .i64 m.lg)).setCell ⟨b, 6, none⟩ (.int .i64 m.la)).setCell ⟨b, 7, none⟩ (.int .i64 m.co)).setCell ⟨b, 8, none⟩ u).setCell ⟨b, 9, none⟩ (.bool m.ok)).setCell ⟨b, 10, none⟩ (.int .i64 m.st)).setCell ⟨b, 11, none⟩ (.int .i64 m.li)).setCell ⟨b, 12, none⟩ (.int .i64 m.lt)).setCell ⟨b, 13, none⟩ (.int .i64 m.lb)).setCell ⟨b, 14, none⟩ v).setCell ⟨b, 15, none⟩ (.int .i64 m.pa)).setCell ⟨b, 16, none⟩ (.string m.da)) b u v m := by
  unfold MgB mgA at h ⊢
  have h0 := block_setCell (i := 0) (u := .int .i64 m.kd) h
  have h1 := block_setCell (i := 1) (u := .int .i64 m.fr) h0
  have h2 := block_setCell (i := 2) (u := .int .i64 m.dt) h1
  have h3 := block_setCell (i := 3) (u := .int .i64 m.tm) h2
  have h4 := block_setCell (i := 4) (u := .int .i64 m.ix) h3
  have h5 := block_setCell (i := 5) (u := .int .i64 m.lg) h4
  have h6 := block_setCell (i := 6) (u := .int .i64 m.la) h5
  have h7 := block_setCell (i := 7) (u := .int .i64 m.co) h6
  have h8 := block_setCell (i := 8) (u := u) h7
  have h9 := block_setCell (i := 9) (u := .bool m.ok) h8
  have h10 := block_setCell (i := 10) (u := .int .i64 m.st) h9
  have h11 := block_setCell (i := 11) (u := .int .i64 m.li) h10
  have h12 := block_setCell (i := 12) (u := .int .i64 m.lt) h11
  have h13 := block_setCell (i := 13) (u := .int .i64 m.lb) h12
  have h14 := block_setCell (i := 14) (u := v) h13
  have h15 := block_setCell (i := 15) (u := .int .i64 m.pa) h14
  have h16 := block_setCell (i := 16) (u := .string m.da) h15
  simp only [List.setIfInBounds_toArray, List.set_cons_zero, List.set_cons_succ] at h16
  exact h16
theorem kept17 {x : World} {b c : Nat} {o : Obj} (h : x.heap[c]? = some o) (hne : c ≠ b) (x0 x1 x2 x3 x4 x5 x6 x7 x8 x9 x10 x11 x12 x13 x14 x15 x16 : Value) : ((((((((((((((((((x.setCell ⟨b, 0, none⟩ x0).setCell ⟨b, 1, none⟩ x1).setCell ⟨b, 2, none⟩ x2).setCell ⟨b, 3, none⟩ x3).setCell ⟨b, 4, none⟩ x4).setCell ⟨b, 5, none⟩ x5).setCell ⟨b, 6, none⟩ x6).setCell ⟨b, 7, none⟩ x7).setCell ⟨b, 8, none⟩ x8).setCell ⟨b, 9, none⟩ x9).setCell ⟨b, 10, none⟩ x10).setCell ⟨b, 11, none⟩ x11).setCell ⟨b, 12, none⟩ x12).setCell ⟨b, 13, none⟩ x13).setCell ⟨b, 14, none⟩ x14).setCell ⟨b, 15, none⟩ x15).setCell ⟨b, 16, none⟩ x16)).heap[c]? = some o :=
  (kept_set (kept_set (kept_set (kept_set (kept_set (kept_set (kept_set (kept_set (kept_set (kept_set (kept_set (kept_set (kept_set (kept_set (kept_set (kept_set (kept_set h hne) hne) hne) hne) hne) hne) hne) hne) hne) hne) hne) hne) hne) hne) hne) hne) hne)
/-- An entry in a block of its own. -/
def EnB (w : World) (b : Nat) (o : Ent) : Prop := w.heap[b]? = some (.cells (entA o) 66 (0, 0))
theorem EnB.lt {w : World} {b : Nat} {o : Ent} (h : EnB w b o) : b < w.heap.size := (Array.getElem?_eq_some_iff.1 h).1
theorem EnB.below {w w' : World} {b : Nat} {o : Ent} (h : EnB w b o) (hb : Below w.heap.size w w') : EnB w' b o := (hb.block b h.lt).trans h
theorem EnB.new (w : World) (n : Ent) : EnB (w.alloc (.cells (entA n) 66)) w.heap.size n := heap_alloc_new w _
theorem EnB.cells {w : World} {b : Nat} {o : Ent} (h : EnB w b o) : w.cell? ⟨b, 0, none⟩ = some (.int .i64 o.ix) ∧ w.cell? ⟨b, 1, none⟩ = some (.int .i64 o.tm) ∧ w.cell? ⟨b, 2, none⟩ = some (.string o.da) := by
  unfold EnB entA at h
  simp [World.cell?, h]
theorem EnB.ensR {w : World} {b : Nat} {o : Ent} (h : EnB w b o) (ho : o.Ok) : EnsR w (.slice (some ⟨b, 0, none⟩) 1 1) [o] := by
  refine ⟨_, 1, rfl, by show 1 ≤ maxLen; decide, fun x hx => by rw [List.mem_singleton.1 hx]; exact ho, .inr ⟨b, 0, rfl, h.lt, fun j hj => ?_⟩⟩
  match j, hj with
  | 0, _ => exact h.cells
/-- A list in a block of its own. -/
def lsA (v : Value) (i t n : Int) : Array Value := #[.int .i64 i, .int .i64 t, .int .i64 n, v]
def lsV (v : Value) (i t n : Int) : Value := .agg #[.int .i64 i, .int .i64 t, .int .i64 n, v]
def LsB (w : World) (b : Nat) (v : Value) (i t n : Int) : Prop := w.heap[b]? = some (.cells (lsA v i t n) 39 (0, 0))
section
variable {w w' : World} {b : Nat} {v : Value} {i t n : Int}
theorem LsB.lt (h : LsB w b v i t n) : b < w.heap.size := (Array.getElem?_eq_some_iff.1 h).1
theorem LsB.below (h : LsB w b v i t n) (hb : Below w.heap.size w w') : LsB w' b v i t n := (hb.block b h.lt).trans h
theorem LsB.kept {r : Option Nat} (h : LsB w b v i t n) (hg : w.grownBy w' r) (hr : some b ≠ r) : LsB w' b v i t n := (hg.block b h.lt hr).trans h
theorem LsB.new (w : World) (v : Value) (i t n : Int) : LsB (w.alloc (.cells (lsA v i t n) 39)) w.heap.size v i t n := heap_alloc_new w _
theorem LsB.cells (h : LsB w b v i t n) : (w.cell? ⟨b, 0, none⟩ = some (.int .i64 i) ∧ w.cell? ⟨b, 1, none⟩ = some (.int .i64 t) ∧ w.cell? ⟨b, 2, none⟩ = some (.int .i64 n) ∧ w.cell? ⟨b, 3, none⟩ = some v) ∧
    (w.frozen? ⟨b, 0, none⟩ = false ∧ w.frozen? ⟨b, 1, none⟩ = false ∧ w.frozen? ⟨b, 2, none⟩ = false ∧ w.frozen? ⟨b, 3, none⟩ = false) := by
  unfold LsB lsA at h
  simp [World.cell?, World.frozen?, h]
end
end Go.Proofs.Ytfijidaohlnphaa
