/- Rows of entries: append to a full slice; law 6's World with its log. No conditions beyond those in each statement. -/
import Derived.Test.YtigebaaldikeaaaDoorPlogApW
import Derived.Deep.RegionLawGrows
namespace Go.Proofs.YtigebaaldikeaaaDoor
open Go.RowKit
set_option linter.unusedVariables false
set_option maxRecDepth 100000

def enCells : List En → List Value
  | [] => []
  | x :: l => .int .i64 x.index :: .int .i64 x.term :: .string x.data :: enCells l
theorem enCells_append (l m : List En) : enCells (l ++ m) = enCells l ++ enCells m := by
  induction l with
  | nil => rfl
  | cons x l ih => show _ :: _ :: _ :: enCells (l ++ m) = _; rw [ih]; rfl
theorem enCells_length (l : List En) : (enCells l).length = l.length * 3 := by
  induction l with
  | nil => rfl
  | cons x l ih => show (enCells l).length + 1 + 1 + 1 = (l.length + 1) * 3; rw [ih]; omega
theorem enCells_at : ∀ (l : List En) (j : Nat) (x : En), l[j]? = some x → (enCells l)[j * 3]? = some (.int .i64 x.index) ∧ (enCells l)[j * 3 + 1]? = some (.int .i64 x.term) ∧ (enCells l)[j * 3 + 2]? = some (.string x.data)
  | [], j, x, h => by simp at h
  | y :: l, 0, x, h => by
    obtain rfl : y = x := by simpa using h
    exact ⟨rfl, rfl, rfl⟩
  | y :: l, j + 1, x, h => by
    have := enCells_at l j x (by simpa using h)
    rw [show (j + 1) * 3 = j * 3 + 3 by omega]
    exact this
theorem enCells_one (l : List En) : ∀ v ∈ enCells l, v.oneCell' = true := by
  induction l with
  | nil => intro v hv; cases hv
  | cons x l ih =>
    intro v hv
    rcases List.mem_cons.1 hv with rfl | hv
    · rfl
    · rcases List.mem_cons.1 hv with rfl | hv
      · rfl
      · rcases List.mem_cons.1 hv with rfl | hv
        · rfl
        · exact ih v hv
theorem enCells_inv : ∀ (l : List En) (i : Nat) (u : Value), (enCells l)[i]? = some u → ∃ j x, l[j]? = some x ∧ ((i = j * 3 ∧ u = .int .i64 x.index) ∨ (i = j * 3 + 1 ∧ u = .int .i64 x.term) ∨ (i = j * 3 + 2 ∧ u = .string x.data))
  | [], i, u, h => by simp [enCells] at h
  | y :: l, 0, u, h => ⟨0, y, rfl, .inl ⟨rfl, by simpa [enCells] using h.symm⟩⟩
  | y :: l, 1, u, h => ⟨0, y, rfl, .inr (.inl ⟨rfl, by simpa [enCells] using h.symm⟩)⟩
  | y :: l, 2, u, h => ⟨0, y, rfl, .inr (.inr ⟨rfl, by simpa [enCells] using h.symm⟩)⟩
  | y :: l, i + 3, u, h => by
    obtain ⟨j, x, hj, hx⟩ := enCells_inv l i u (by simpa [enCells] using h)
    refine ⟨j + 1, x, by simpa using hj, ?_⟩
    rcases hx with ⟨hi, hv⟩ | ⟨hi, hv⟩ | ⟨hi, hv⟩
    · exact .inl ⟨by omega, hv⟩
    · exact .inr (.inl ⟨by omega, hv⟩)
    · exact .inr (.inr ⟨by omega, hv⟩)
theorem und_ens : Tryd.prog.underlying 50 = some (.slice 60) := by kernel_rfl
theorem info_en : (Tryd.prog.info? 60).map (fun i => (i.zero, i.size, i.bytes)) = some (some (.agg #[.int .i64 0, .int .i64 0, .string ⟨#[]⟩]), 3, 32) := by kernel_rfl
/-- Where a slice of entries reads from. -/
theorem EnA.reads {F : Nat → Prop} {w : World} {a : Option Addr} {c : Nat} {xs : List En} (h : EnA F w (.slice a xs.length c) xs) : ∀ b, a = some b → ∀ j u, (enCells xs)[j]? = some u → w.cell? (b.add j) = some u := by
  obtain ⟨a', cap, hv, hn, h⟩ := h
  obtain ⟨rfl, _⟩ : a = a' ∧ c = cap := by injection hv with h1 h2 h3; exact ⟨h1, h3⟩
  rintro b rfl j u hu
  obtain ⟨i, x, hx, hj⟩ := enCells_inv xs j u hu
  have hil := (List.getElem?_eq_some_iff.1 hx).1
  rcases h with h | ⟨g, off, ha, _, _, hc⟩
  · omega
  · obtain rfl := Option.some.inj ha
    obtain ⟨c0, c1, c2⟩ := hc i x hx
    have hadd : ∀ j : Nat, (Addr.add ⟨g, off, none⟩ j : Addr) = ⟨g, off + j, none⟩ := fun j => by simp [Addr.add]
    rcases hj with ⟨rfl, rfl⟩ | ⟨rfl, rfl⟩ | ⟨rfl, rfl⟩
    · rw [hadd]; exact c0
    · rw [hadd]; exact c1
    · rw [hadd]; exact c2
/-- A row that append has made. -/
theorem row_en {w : World} {base : Nat} {v : Value} {xs : List En} (h : w.ownsRow base 60 3 v xs.length (enCells xs)) (h0 : xs.length ≠ 0) (hl : xs.length ≤ 10000) :
    ∃ g cap, v = .slice (some ⟨g, 0, none⟩) xs.length cap ∧ xs.length ≤ cap ∧ base ≤ g ∧ g < w.heap.size ∧ ∀ j x, xs[j]? = some x → w.cell? ⟨g, 0 + j * 3, none⟩ = some (.int .i64 x.index) ∧ w.cell? ⟨g, 0 + j * 3 + 1, none⟩ = some (.int .i64 x.term) ∧ w.cell? ⟨g, 0 + j * 3 + 2, none⟩ = some (.string x.data) := by
  rcases h.2 with ⟨rfl, h1⟩ | ⟨g, cap, cur, rfl, hb, hg, hn, hc, hs, ht⟩
  · exact absurd h1 h0
  · refine ⟨g, cap, rfl, hn, hb, lt_of_block hg, fun j x hj => ?_⟩
    obtain ⟨c0, c1, c2⟩ := enCells_at xs j x hj
    have hjl : j < xs.length := (List.getElem?_eq_some_iff.1 hj).1
    have hat : ∀ i u, i < xs.length * 3 → (enCells xs)[i]? = some u → w.cell? ⟨g, i, none⟩ = some u := by
      intro i u hi hu
      rw [← ht, List.getElem?_take_of_lt hi] at hu
      exact cell_of hg (by simpa using hu)
    rw [Nat.zero_add]
    exact ⟨hat _ _ (by omega) c0, hat _ _ (by omega) c1, hat _ _ (by omega) c2⟩
/-- The room of a slice. -/
def CapS (v : Value) (n : Nat) : Prop := ∃ a cap, v = .slice a n cap ∧ n ≤ cap ∧ (a = none → cap = 0) ∧ ∀ b, a = some b → b.spot = none
/-- Law 6's World, and its log, nothing amiss. -/
structure WlIn (m wb : Nat) (w : World) (E : Nat → Prop) (B b bt bd : Nat) (D : Dv) (first : Int) (xs : List En) (cnt : Nat) (va vm : Value) : Prop where
  lw : Lw m E w b B bt bd 19 3 8 first xs cnt D
  wld : WldB w wb B b first va vm
  all : EnA (But E b bt bd) w va xs
  cap : CapS va xs.length
  but : But E b bt bd wb
  mwb : m ≤ wb
  size : m ≤ w.heap.size
  pure : Unsp D
def Wl (m wb : Nat) (w : World) (first : Int) (xs : List En) (cnt : Nat) : Prop := ∃ E B b bt bd D va vm, WlIn m wb w E B b bt bd D first xs cnt va vm
section
variable {m wb : Nat} {w W : World} {E : Nat → Prop} {B b bt bd cnt : Nat} {D : Dv} {first : Int} {xs : List En} {va vm : Value}
theorem WlIn.keep {w' : World} {cnt' : Nat} (h : WlIn m wb w E B b bt bd D first xs cnt va vm) (hl : Lw m E w' b B bt bd 19 3 8 first xs cnt' D) (hk : Kept (But E b bt bd) w w') (hs : w.heap.size ≤ w'.heap.size) : WlIn m wb w' E B b bt bd D first xs cnt' va vm :=
  ⟨hl, h.wld.keep hk h.but, h.all.keep hk (fun _ h => h) hs, h.cap, h.but, h.mwb, Nat.le_trans h.size hs, h.pure⟩
theorem WlIn.below {w' : World} (h : WlIn m wb w E B b bt bd D first xs cnt va vm) (hb : Below w.heap.size w w') : WlIn m wb w' E B b bt bd D first xs cnt va vm :=
  h.keep (h.lw.below hb) (Kept.of_below (fun j hj => h.lw.dev.lt j hj.1) hb) hb.size
theorem WlIn.mono {cnt' : Nat} (h : WlIn m wb w E B b bt bd D first xs cnt va vm) (hc : cnt ≤ cnt') : WlIn m wb w E B b bt bd D first xs cnt' va vm :=
  ⟨h.lw.mono hc, h.wld, h.all, h.cap, h.but, h.mwb, h.size, h.pure⟩
theorem wl_new {w0 : World} {e : Ending} (h : NewW w0 e W) : ∃ wb E B b bt bd D, e = .returned (.pointer (some ⟨wb, 0, none⟩)) ∧ WlIn w0.heap.size wb W E B b bt bd D 1 [] 10000 (.slice none 0 0) (.slice none 0 0) ∧ Below w0.heap.size w0 W := by
  obtain ⟨wb, B, b, bt, bd, D, E, rfl, h1, h2, h3, h4, h5, h6⟩ := h
  exact ⟨wb, E, B, b, bt, bd, D, rfl, ⟨h1, h3, EnA.nil _ _, ⟨none, 0, rfl, Nat.le_refl _, fun _ => rfl, fun b h => by cases h⟩, h4, h5, h6.size, h2⟩, h6⟩
/-- Shows. -/
theorem wl_shows (h : WlIn m wb w E B b bt bd D first xs cnt va vm) (ht : ∀ x, Below m w x → Tabs x) (hk : cnt < 800000000) :
    Calls Tryd.prog 29 #[.pointer (some ⟨wb, 0, none⟩)] w fun e w' => e = .returned (.bool true) ∧ WlIn m wb w' E B b bt bd D first xs (cnt + xs.length + 2) va vm ∧ Below m w w' := by
  refine (shows_any h.lw h.wld h.all h.but h.size ht hk).mono ?_
  rintro e w' ⟨rfl, hl, hb, hk'⟩
  exact ⟨rfl, h.keep hl hk' hb.size, hb⟩
theorem wl_push {w3 w4 : World} {ys : List En} {base : Nat} {v4 : Value} (hL : Lw m E w3 b B bt bd 19 3 8 first ys cnt D) (hV : WldB w3 wb B b first va vm) (hbut : But E b bt bd wb) (hmw : m ≤ wb) (hms : m ≤ w3.heap.size) (hu : Unsp D) (hb : Below w3.heap.size w3 w4)
    (hown : w4.ownsRow base 60 3 v4 ys.length (enCells ys)) (h0 : ys.length ≠ 0) (hl : ys.length ≤ 10000) (hbase : w3.heap.size ≤ base) :
    ∃ g cap, v4 = .slice (some ⟨g, 0, none⟩) ys.length cap ∧ WlIn m wb (w4.setCell ⟨wb, 3, none⟩ (.slice (some ⟨g, 0, none⟩) ys.length cap)) (fun j => E j ∨ (w3.heap.size ≤ j ∧ j < w4.heap.size)) B b bt bd D first ys cnt (.slice (some ⟨g, 0, none⟩) ys.length cap) vm := by
  obtain ⟨g, cap, rfl, hcap, hg, hgl, hc⟩ := row_en hown h0 hl
  obtain ⟨⟨o1, o2, o3⟩, l1, l2, l3⟩ := hL.own
  have hwl := hV.lt
  have hbw : But (fun j => E j ∨ (w3.heap.size ≤ j ∧ j < w4.heap.size)) b bt bd wb := ⟨.inl hbut.1, hbut.2⟩
  have hne : g ≠ wb := by omega
  refine ⟨g, cap, rfl, (hL.growAll hb).setOut hbw hmw 3 _, (hV.below hb).setAll _, ?_, ⟨_, cap, rfl, hcap, (fun h => by cases h), (fun b h => by obtain rfl := Option.some.inj h; rfl)⟩, hbw, hmw, ?_, hu⟩
  · refine ⟨_, cap, rfl, hl, .inr ⟨g, 0, rfl, ⟨.inr ⟨by omega, hgl⟩, by omega, by omega, by omega⟩, by simpa using hgl, fun j x hx => ?_⟩⟩
    have e : (w4.setCell ⟨wb, 3, none⟩ (.slice (some ⟨g, 0, none⟩) ys.length cap)).heap[g]? = w4.heap[g]? := block_setCell_other hne
    rw [cell_kept e, cell_kept e, cell_kept e]
    exact hc j x hx
  · have := hb.size
    show m ≤ (w4.setCell _ _).heap.size
    simp
    omega
end
end Go.Proofs.YtigebaaldikeaaaDoor
