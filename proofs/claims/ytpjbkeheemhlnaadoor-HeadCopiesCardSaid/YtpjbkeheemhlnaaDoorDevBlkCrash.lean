/- A block behind a power failure; no conditions beyond those in each statement. -/
import Derived.Test.YtpjbkeheemhlnaaDoorDevFate
namespace Go.Proofs.YtpjbkeheemhlnaaDoor
open Go.RowKit Go.Shelf
set_option linter.unusedVariables false
set_option maxRecDepth 100000
attribute [local go_sem] Oper.semAt_some

/-- What a write of a fate leaves, if it has an effect. -/
def oneHit (zs : List Int) (b : Blk) (p : Wr) : Option Blk :=
  if fateF zs p.place = 1 then some ⟨p.data, false, b.lost, []⟩ else if fateF zs p.place = 2 then some ⟨p.data.extract 0 (p.data.size / 2), true, b.lost, []⟩ else none
/-- A block behind a power failure: of the writes, from the end, the first that had an effect decides. -/
def Blk.crash (zs : List Int) (b : Blk) : Blk := (b.pending.reverse.findSome? (oneHit zs b)).getD ⟨b.durable, b.spoiled, b.lost, []⟩
def blkCells (b : Blk) : Array Value := #[.string b.durable, .bool b.spoiled, .bool b.lost, .slice none 0 0]

/-- A block of memory known whole. -/
def Whole (W : World) (B : Nat) (t : TypeId) (vs : Array Value) : Prop := W.heap[B]? = some (.cells vs t (0, 0))
theorem Whole.lt {W : World} {B : Nat} {t : TypeId} {vs : Array Value} (h : Whole W B t vs) : B < W.heap.size := lt_of_block h
theorem Whole.cell {W : World} {B i : Nat} {t : TypeId} {vs : Array Value} {u : Value} (h : Whole W B t vs) (hu : vs[i]? = some u) : W.cell? ⟨B, i, none⟩ = some u := cell_of h hu
theorem Whole.free {W : World} {B : Nat} {t : TypeId} {vs : Array Value} (h : Whole W B t vs) (i : Nat) : W.frozen? ⟨B, i, none⟩ = false := free_of h
theorem Whole.new (W : World) (t : TypeId) (vs : Array Value) : Whole (W.alloc (.cells vs t)) W.heap.size t vs := World.alloc_heap_new W _
theorem Whole.alloc {W : World} {B : Nat} {t : TypeId} {vs : Array Value} (h : Whole W B t vs) (o : Obj) : Whole (W.alloc o) B t vs := (Below.heap_alloc W o B h.lt).trans h
theorem Whole.below {W X : World} {B : Nat} {t : TypeId} {vs : Array Value} (h : Whole W B t vs) (hb : Below W.heap.size W X) : Whole X B t vs := (hb.block B h.lt).trans h
theorem whole_own {β : Type} (B : Nat) (t : TypeId) (vs : β → Array Value) : Own (fun s W => Whole W B t (vs s)) := by
  intro s X Y row h hg hrow
  refine (hg.block B h.lt (fun e => ?_)).trans h
  obtain ⟨o, ho, hc⟩ := hrow B e.symm
  rw [show X.heap[B]? = _ from h] at ho
  cases ho
  cases hc

theorem Whole.set {W : World} {B : Nat} {t : TypeId} {vs : Array Value} (h : Whole W B t vs) (i : Nat) (u : Value) : Whole (W.setCell ⟨B, i, none⟩ u) B t (vs.setIfInBounds i u) := block_setCell h
theorem Whole.other {W : World} {B k : Nat} {t : TypeId} {vs : Array Value} (h : Whole W B t vs) (hne : B ≠ k) (i : Nat) (u : Value) : Whole (W.setCell ⟨k, i, none⟩ u) B t vs := (block_setCell_other hne).trans h
theorem ownFrom_size {β : Type} (B n : Nat) : OwnFrom B (fun (_ : β) W => n ≤ W.heap.size) := fun _ _ _ _ hs hg _ => Nat.le_trans hs hg.size
theorem keeps_below {W X : World} (h : Below W.heap.size W X) (B : Nat) : KeepsFrom B W X := ⟨h.size, fun k o _ hk _ => (h.block k (lt_of_block hk)).trans hk⟩
/-- The steps of a round that leaves: what is stored into the block at O, and from there into the block at R. -/
def left2 (W : World) (O R : Nat) (r : Blk) : World :=
  (((((W.setCell ⟨O, 0, none⟩ (.string r.durable)).setCell ⟨O, 1, none⟩ (.bool r.spoiled)).setCell ⟨R, 0, none⟩ (.string r.durable)).setCell ⟨R, 1, none⟩ (.bool r.spoiled)).setCell ⟨R, 2, none⟩ (.bool r.lost)).setCell ⟨R, 3, none⟩ (.slice none 0 0)
def left1 (W : World) (R : Nat) (r : Blk) : World :=
  (((W.setCell ⟨R, 0, none⟩ (.string r.durable)).setCell ⟨R, 1, none⟩ (.bool r.spoiled)).setCell ⟨R, 2, none⟩ (.bool r.lost)).setCell ⟨R, 3, none⟩ (.slice none 0 0)
theorem left1_whole {W : World} {R : Nat} {t : TypeId} {v0 v1 v2 v3 : Value} (r : Blk) (h : Whole W R t #[v0, v1, v2, v3]) : Whole (left1 W R r) R t (blkCells r) := (((h.set 0 _).set 1 _).set 2 _).set 3 _
theorem left2_whole {W : World} {O R : Nat} {t : TypeId} {v0 v1 v2 v3 : Value} (r : Blk) (h : Whole W R t #[v0, v1, v2, v3]) (hne : R ≠ O) : Whole (left2 W O R r) R t (blkCells r) := left1_whole r ((h.other hne 0 _).other hne 1 _)
theorem left1_below {a W : World} {B R : Nat} (r : Blk) (h : Below B a W) (hR : B ≤ R) : Below B a (left1 W R r) :=
  (((h.setCell (p := ⟨R, 0, none⟩) hR _).setCell (p := ⟨R, 1, none⟩) hR _).setCell (p := ⟨R, 2, none⟩) hR _).setCell (p := ⟨R, 3, none⟩) hR _
theorem left2_below {a W : World} {B O R : Nat} (r : Blk) (h : Below B a W) (hO : B ≤ O) (hR : B ≤ R) : Below B a (left2 W O R r) :=
  left1_below r ((h.setCell (p := ⟨O, 0, none⟩) hO _).setCell (p := ⟨O, 1, none⟩) hO _) hR
theorem left1_keeps (W : World) (R : Nat) (r : Blk) : KeepsOthers W (left1 W R r) :=
  (((KeepsOthers.setCell W _ _).trans (KeepsOthers.setCell _ _ _)).trans (KeepsOthers.setCell _ _ _)).trans (KeepsOthers.setCell _ _ _)
theorem left2_keeps (W : World) (O R : Nat) (r : Blk) : KeepsOthers W (left2 W O R r) :=
  ((KeepsOthers.setCell W _ _).trans (KeepsOthers.setCell _ _ _)).trans (left1_keeps _ R r)

theorem crash_none (zs : List Int) (b : Blk) (hs : ∀ p ∈ b.pending, p.data.size ≤ 512) (h : ∀ x ∈ back (wnAt b.pending hs) b.pending.length b.pending.length, oneHit zs b x.1.2 = none) : b.crash zs = ⟨b.durable, b.spoiled, b.lost, []⟩ := by
  have : b.pending.reverse.findSome? (oneHit zs b) = none := by
    rw [List.findSome?_eq_none_iff]
    intro p hp
    obtain ⟨j, hj, he⟩ := List.mem_iff_getElem.1 (List.mem_reverse.1 hp)
    have := h (wnAt b.pending hs j) (by simp only [back, List.mem_map, List.mem_range]; exact ⟨b.pending.length - 1 - j, by omega, by congr 1; omega⟩)
    rw [wnAt_eq hj] at this
    rw [← he]
    exact this
  simp [Blk.crash, this]
theorem crash_some (zs : List Int) (b r : Blk) (hs : ∀ p ∈ b.pending, p.data.size ≤ 512) (k : Nat) (hk : k ≤ b.pending.length) (ini : List Wn) (last : Wn) (e : back (wnAt b.pending hs) b.pending.length k = ini ++ [last])
    (hi : ∀ x ∈ ini, oneHit zs b x.1.2 = none) (hl : oneHit zs b last.1.2 = some r) : b.crash zs = r := by
  have hrev : b.pending.reverse = (ini.map fun x => x.1.2) ++ last.1.2 :: b.pending.reverse.drop k := by
    have e1 : (back (wnAt b.pending hs) b.pending.length k).map (fun x => x.1.2) = b.pending.reverse.take k := by
      apply List.ext_getElem
      · simp [back]; omega
      · intro j h1 h2
        have hj : j < k := by simpa [back] using h1
        simp only [back, List.map_map, List.getElem_map, List.getElem_range, List.getElem_take, List.getElem_reverse, Function.comp]
        rw [wnAt_eq (by omega)]
    rw [e] at e1
    have := List.take_append_drop k b.pending.reverse
    rw [← e1] at this
    exact this.symm.trans (by simp)
  have : b.pending.reverse.findSome? (oneHit zs b) = some r := by
    rw [hrev, List.findSome?_append]
    have h0 : (ini.map fun x => x.1.2).findSome? (oneHit zs b) = none := by
      rw [List.findSome?_eq_none_iff]
      intro p hp
      obtain ⟨x, hx, rfl⟩ := List.mem_map.1 hp
      exact hi x hx
    rw [h0]
    simp [hl]
  simp [Blk.crash, this]

/-- The result of a block by value, out of its cells. -/
theorem results_cell4 {tmps : Array Value} {W : World} {R : Nat} {r : Blk} (ht : tmps.getD 4 undef = .pointer (some ⟨R, 0, none⟩)) (h : Whole W R 109 (blkCells r)) :
    (results Tryd.f57 tmps).run Tryd.prog W = .ok (blkV r (.slice none 0 0)) W := by
  have c0 : W.cell? ⟨R, 0, none⟩ = some (.string r.durable) := h.cell rfl
  have c1 : W.cell? ⟨R, 1, none⟩ = some (.bool r.spoiled) := h.cell rfl
  have c2 : W.cell? ⟨R, 2, none⟩ = some (.bool r.lost) := h.cell rfl
  have c3 : W.cell? ⟨R, 3, none⟩ = some (.slice none 0 0) := h.cell rfl
  rw [Array.getD_eq_getD_getElem?] at ht
  simp [results, Tryd.f57, go_sem, ht, c0, c1, c2, c3]

set_option maxRecDepth 100000 in
set_option maxHeartbeats 4000000 in
theorem blkcrash_in (b : Blk) (v fv : Value) (zs : List Int) (w : World) (hp : ∀ p ∈ b.pending, p.data.size ≤ 512) (hc : b.pending.length ≤ 4611686018427387904)
    (h : w.ownsRow 0 144 2 v b.pending.length (wrCells b.pending)) (hz : Fts w fv zs) :
    CallsIn Fence.wide 6 Tryd.prog 57 #[blkV b v, fv] w fun e w' => e = .returned (blkV (b.crash zs) (.slice none 0 0)) ∧ Below w.heap.size w w' := by
  obtain ⟨a, cap, rfl⟩ := slice_of h
  obtain ⟨fa, fcap, rfl⟩ : ∃ fa fcap, fv = .slice fa zs.length fcap := by obtain ⟨fa, fcap, h, _⟩ := hz; exact ⟨fa, fcap, h⟩
  have hro : Fence.wide.round = none := rfl
  refine callsIn_of_wp_marks Tryd.func57 rfl trivial ?_ hro
  simp only [Tryd.ntmps57, List.size_toArray, List.length_cons, List.length_nil, Nat.reduceAdd, Nat.reduceSub, Array.replicate_succ, Array.replicate_zero, List.push_toArray, List.append_toArray, List.nil_append, List.cons_append]
  gi_wp2_with (refine ⟨trivial, ?_⟩; gi_at_call 83; refine (back_in Fence.wide _ trivial rfl _ _ _ _).mono ?_; rintro e w' ⟨rfl, rfl⟩)
  have hlw : ∀ k, (Value.slice a b.pending.length cap).ownBlock = some k → k < w.heap.size := fun k e => by obtain ⟨cur, hc⟩ := ownsRow_block h e; exact lt_of_block hc
  have b3 := (((Whole.new (w.alloc (.cells (blkCells b |>.setIfInBounds 3 (.slice a b.pending.length cap)) 109)) 46 #[.slice fa zs.length fcap]).alloc (.cells #[.string ⟨#[]⟩, .bool false, .bool false, .slice none 0 0] 109)).alloc (.cells (blkCells b) 109)).alloc (.cells #[.slice a b.pending.length cap] 107)
  have bR := ((Whole.new ((w.alloc (.cells (blkCells b |>.setIfInBounds 3 (.slice a b.pending.length cap)) 109)).alloc (.cells #[.slice fa zs.length fcap] 46)) 109 #[.string ⟨#[]⟩, .bool false, .bool false, .slice none 0 0]).alloc (.cells (blkCells b) 109)).alloc (.cells #[.slice a b.pending.length cap] 107)
  have bO := (Whole.new (((w.alloc (.cells (blkCells b |>.setIfInBounds 3 (.slice a b.pending.length cap)) 109)).alloc (.cells #[.slice fa zs.length fcap] 46)).alloc (.cells #[.string ⟨#[]⟩, .bool false, .bool false, .slice none 0 0] 109)) 109 (blkCells b)).alloc (.cells #[.slice a b.pending.length cap] 107)
  have bN := Whole.new ((((w.alloc (.cells (blkCells b |>.setIfInBounds 3 (.slice a b.pending.length cap)) 109)).alloc (.cells #[.slice fa zs.length fcap] 46)).alloc (.cells #[.string ⟨#[]⟩, .bool false, .bool false, .slice none 0 0] 109)).alloc (.cells (blkCells b) 109)) 107 #[.slice a b.pending.length cap]
  simp only [World.size_alloc] at b3 bR bO bN
  simp only [blkCells, List.setIfInBounds_toArray, List.set_cons_succ, List.set_cons_zero] at b3 bR bO bN
  have hsz : (((((w.alloc (.cells #[.string b.durable, .bool b.spoiled, .bool b.lost, .slice a b.pending.length cap] 109)).alloc (.cells #[.slice fa zs.length fcap] 46)).alloc (.cells #[.string ⟨#[]⟩, .bool false, .bool false, .slice none 0 0] 109)).alloc (.cells #[.string b.durable, .bool b.spoiled, .bool b.lost, .slice none 0 0] 109)).alloc (.cells #[.slice a b.pending.length cap] 107)).heap.size = w.heap.size + 5 := by simp
  have hB0 : Below w.heap.size w (((((w.alloc (.cells #[.string b.durable, .bool b.spoiled, .bool b.lost, .slice a b.pending.length cap] 109)).alloc (.cells #[.slice fa zs.length fcap] 46)).alloc (.cells #[.string ⟨#[]⟩, .bool false, .bool false, .slice none 0 0] 109)).alloc (.cells #[.string b.durable, .bool b.spoiled, .bool b.lost, .slice none 0 0] 109)).alloc (.cells #[.slice a b.pending.length cap] 107)) :=
    (((((Below.refl _ w).alloc (Nat.le_refl _) _).alloc (by simp) _).alloc (by simp; omega) _).alloc (by simp; omega) _).alloc (by simp; omega) _
  obtain ⟨W0, hW0⟩ : ∃ W0, (((((w.alloc (.cells #[.string b.durable, .bool b.spoiled, .bool b.lost, .slice a b.pending.length cap] 109)).alloc (.cells #[.slice fa zs.length fcap] 46)).alloc (.cells #[.string ⟨#[]⟩, .bool false, .bool false, .slice none 0 0] 109)).alloc (.cells #[.string b.durable, .bool b.spoiled, .bool b.lost, .slice none 0 0] 109)).alloc (.cells #[.slice a b.pending.length cap] 107)) = W0 := ⟨_, rfl⟩
  rw [hW0] at b3 bR bO bN hB0 hsz ⊢
  clear hW0
  have hI0 := ownsRow_same (w' := W0) h (fun k e => hB0.block k (hlw k e))
  refine wpIn_rangeFunc_ownH hro (by omega) (gf := 99) (lb := #[.pointer (some ⟨w.heap.size + 1 + 1 + 1 + 1, 0, none⟩)]) rfl trivial (enters_of Tryd.func99 (by kernel_rfl) rfl)
    (back_stops Fence.wide _ trivial rfl (by omega) (w.heap.size + 1 + 1 + 1 + 1) W0.heap.size _ b.pending hp hc W0 (by omega) (Nat.le_refl _) (bN.cell rfl) hI0 (fun k e => by have := hlw k e; omega)) belowK_t (belowK_b (Nat.le_refl _)) (Below.refl _ _) (fun _ => rfl)
    (fun pre W => ((Whole W (w.heap.size + 1) 46 #[.slice fa zs.length fcap] ∧ Whole W (w.heap.size + 1 + 1) 109 #[.string ⟨#[]⟩, .bool false, .bool false, .slice none 0 0]) ∧ Whole W (w.heap.size + 1 + 1 + 1) 109 (blkCells b)) ∧ (∀ x ∈ pre, oneHit zs b x.1.2 = none) ∧ Below w.heap.size w W ∧ W0.heap.size ≤ W.heap.size)
    (fun c pre W => (∃ ini last r, (c = .ret ∧ pre = ini ++ [last] ∧ (∀ x ∈ ini, oneHit zs b x.1.2 = none) ∧ oneHit zs b last.1.2 = some r) ∧ Whole W (w.heap.size + 1 + 1) 109 (blkCells r)) ∧ Below w.heap.size w W)
    (OwnFrom.and (OwnFrom.and (OwnFrom.and (Own.from (whole_own _ _ _) _) (Own.from (whole_own _ _ _) _)) (Own.from (whole_own _ _ _) _)) (OwnFrom.and (ownFrom_pure _ _) (OwnFrom.and (ownFrom_below (Nat.le_refl _) (by omega)) (ownFrom_size _ _))))
    (fun c => OwnFrom.and (fun pre X Y row hs hg hr => by obtain ⟨ini, last, r, h1, h2⟩ := hs; exact ⟨ini, last, r, h1, whole_own _ _ (fun (_ : Unit) => blkCells r) () X Y row h2 hg (fun j e => (hr j e).2)⟩) (ownFrom_below (Nat.le_refl _) (by omega)))
    ⟨⟨⟨b3, bR⟩, bO⟩, (fun x hx => (List.not_mem_nil hx).elim), hB0, Nat.le_refl _⟩
    (fun x a' W => ∃ Bx, w.heap.size + 1 + 1 + 1 + 1 < Bx ∧ Whole W Bx 144 #[.int .i64 (x.1.2.place : Int), .string x.1.2.data] ∧ a' = { tmps := #[blkV b (.slice a b.pending.length cap), .slice fa zs.length fcap, .pointer (some ⟨w.heap.size, 0, none⟩), .pointer (some ⟨w.heap.size + 1, 0, none⟩), .pointer (some ⟨w.heap.size + 1 + 1, 0, none⟩), .pointer (some ⟨w.heap.size + 1 + 1 + 1, 0, none⟩), undef, .pointer (some ⟨Bx, 0, none⟩),
          .pointer (some ⟨w.heap.size, 0, none⟩), .string b.durable, .pointer (some ⟨w.heap.size, 1, none⟩), .bool b.spoiled, .pointer (some ⟨w.heap.size, 2, none⟩), .bool b.lost, .agg #[.string b.durable, .bool b.spoiled, .bool b.lost, .slice none 0 0], .pointer (some ⟨w.heap.size, 3, none⟩), .slice a b.pending.length cap,
          .func (.func 99) #[] #[.pointer (some ⟨w.heap.size + 1 + 1 + 1 + 1, 0, none⟩)], .int .i64 (x.1.1 : Int), .agg #[.int .i64 (x.1.2.place : Int), .string x.1.2.data], undef, undef, undef, undef, undef, undef, undef, undef, undef, undef, undef, undef, undef, undef, undef, undef, undef, undef, undef, undef, undef, undef, undef], defers := [] })
    (fun x a' _ X Y row hs hg hr => by obtain ⟨Bx, h1, h2, h3⟩ := hs; exact ⟨Bx, h1, whole_own Bx _ (fun (_ : Unit) => #[.int .i64 (x.1.2.place : Int), .string x.1.2.data]) () X Y row h2 hg (fun r e => (hr r e).2), h3⟩)
    ?assign ?body ?done ?stop
  case assign =>
    rintro l pre x W K ⟨⟨⟨q3, qR⟩, qO⟩, hno, hB, hle⟩ hK
    dsimp only [encW]
    gi_wp2
    exact hK _ _ ((KeepsOthers.alloc _ _).from _) ((Below.refl _ W).alloc hle _) ⟨⟨⟨q3.alloc _, qR.alloc _⟩, qO.alloc _⟩, hno, hB.alloc hB.size _, Nat.le_trans hle (by simp)⟩ ⟨W.heap.size, by omega, Whole.new W _ _, rfl⟩
  case body =>
    rintro l pre x a' W hl hr ⟨⟨⟨q3, qR⟩, qO⟩, hno, hB, hle⟩ ⟨Bx, hBx, bX, rfl⟩ hlt
    obtain ⟨⟨xi, ⟨xp, xd⟩⟩, hxd⟩ := x
    dsimp only at bX hxd ⊢
    have x0 : W.cell? ⟨Bx, 0, none⟩ = some (.int .i64 (xp : Int)) := bX.cell rfl
    have x1 : W.cell? ⟨Bx, 1, none⟩ = some (.string xd) := bX.cell rfl
    have y3 : W.cell? ⟨w.heap.size + 1, 0, none⟩ = some (.slice fa zs.length fcap) := q3.cell rfl
    have hfo := callsIn_wide (n := 6 - 1 - 1 - 1).2 (fateOf_any xp xd _ zs W (hz.below hB))
    have hWX : ∀ W2, Below W.heap.size W W2 → (W2.cell? ⟨Bx, 0, none⟩ = some (.int .i64 (xp : Int)) ∧ W2.cell? ⟨Bx, 1, none⟩ = some (.string xd)) ∧ Whole W2 (w.heap.size + 1 + 1) 109 #[.string ⟨#[]⟩, .bool false, .bool false, .slice none 0 0] ∧ Whole W2 (w.heap.size + 1 + 1 + 1) 109 (blkCells b) :=
      fun W2 h2 => ⟨⟨(bX.below h2).cell rfl, (bX.below h2).cell rfl⟩, qR.below h2, qO.below h2⟩
    have HWX := Lib.hid hWX
    clear hWX
    have hxm : xd.size ≤ 9223372036854775807 := by omega
    have hone : oneHit zs b ⟨xp, xd⟩ = if fateF zs xp = 1 then some ⟨xd, false, b.lost, []⟩ else if fateF zs xp = 2 then some ⟨xd.extract 0 (xd.size / 2), true, b.lost, []⟩ else none := rfl
    generalize fateF zs xp = z at *
    by_cases h1 : z = 1
    · subst h1
      have HONE := Lib.hid (show oneHit zs b ⟨xp, xd⟩ = some ⟨xd, false, b.lost, []⟩ by rw [hone]; rfl)
      clear hone
      gi_wp2_with (refine ⟨trivial, ?_⟩; gi_at_call 84; refine (CallsIn.inRound l hfo).mono ?_; clear hfo; rintro e W2 ⟨rfl, hb2⟩; obtain ⟨⟨z0, z1⟩, zR, zO⟩ := HWX.out W2 hb2; have o0 : W2.cell? ⟨w.heap.size + 1 + 1 + 1, 0, none⟩ = some (.string b.durable) := zO.cell rfl; have o1 : W2.cell? ⟨w.heap.size + 1 + 1 + 1, 1, none⟩ = some (.bool b.spoiled) := zO.cell rfl; have o2 : W2.cell? ⟨w.heap.size + 1 + 1 + 1, 2, none⟩ = some (.bool b.lost) := zO.cell rfl; have o3 : W2.cell? ⟨w.heap.size + 1 + 1 + 1, 3, none⟩ = some (.slice none 0 0) := zO.cell rfl; have g0 := zO.free 0; have g1 := zO.free 1; have r0 : W2.cell? ⟨w.heap.size + 1 + 1, 0, none⟩ = some (.string ⟨#[]⟩) := zR.cell rfl; have r1 : W2.cell? ⟨w.heap.size + 1 + 1, 1, none⟩ = some (.bool false) := zR.cell rfl; have r2 : W2.cell? ⟨w.heap.size + 1 + 1, 2, none⟩ = some (.bool false) := zR.cell rfl; have r3 : W2.cell? ⟨w.heap.size + 1 + 1, 3, none⟩ = some (.slice none 0 0) := zR.cell rfl; have f0 := zR.free 0; have f1 := zR.free 1; have f2 := zR.free 2; have f3 := zR.free 3)
      exact ⟨(keeps_below hb2 _).trans ((left2_keeps W2 (w.heap.size + 1 + 1 + 1) (w.heap.size + 1 + 1) ⟨xd, false, b.lost, []⟩).from _), ⟨pre, _, _, ⟨rfl, rfl, hno, HONE.out⟩, left2_whole ⟨xd, false, b.lost, []⟩ zR (by omega)⟩, left2_below (W := W2) (O := w.heap.size + 1 + 1 + 1) (R := w.heap.size + 1 + 1) ⟨xd, false, b.lost, []⟩ (hB.trans (hb2.mono hB.size)) (by omega) (by omega)⟩
    · by_cases h2 : z = 2
      · subst h2
        have HONE := Lib.hid (show oneHit zs b ⟨xp, xd⟩ = some ⟨xd.extract 0 (xd.size / 2), true, b.lost, []⟩ by rw [hone]; rfl)
        clear hone h1
        gi_wp2_with (refine ⟨trivial, ?_⟩; gi_at_call 84; refine (CallsIn.inRound l hfo).mono ?_; clear hfo; rintro e W2 ⟨rfl, hb2⟩; obtain ⟨⟨z0, z1⟩, zR, zO⟩ := HWX.out W2 hb2; have o0 : W2.cell? ⟨w.heap.size + 1 + 1 + 1, 0, none⟩ = some (.string b.durable) := zO.cell rfl; have o1 : W2.cell? ⟨w.heap.size + 1 + 1 + 1, 1, none⟩ = some (.bool b.spoiled) := zO.cell rfl; have o2 : W2.cell? ⟨w.heap.size + 1 + 1 + 1, 2, none⟩ = some (.bool b.lost) := zO.cell rfl; have o3 : W2.cell? ⟨w.heap.size + 1 + 1 + 1, 3, none⟩ = some (.slice none 0 0) := zO.cell rfl; have g0 := zO.free 0; have g1 := zO.free 1; have r0 : W2.cell? ⟨w.heap.size + 1 + 1, 0, none⟩ = some (.string ⟨#[]⟩) := zR.cell rfl; have r1 : W2.cell? ⟨w.heap.size + 1 + 1, 1, none⟩ = some (.bool false) := zR.cell rfl; have r2 : W2.cell? ⟨w.heap.size + 1 + 1, 2, none⟩ = some (.bool false) := zR.cell rfl; have r3 : W2.cell? ⟨w.heap.size + 1 + 1, 3, none⟩ = some (.slice none 0 0) := zR.cell rfl; have f0 := zR.free 0; have f1 := zR.free 1; have f2 := zR.free 2; have f3 := zR.free 3)
        exact ⟨(keeps_below hb2 _).trans ((left2_keeps W2 (w.heap.size + 1 + 1 + 1) (w.heap.size + 1 + 1) ⟨xd.extract 0 (xd.size / 2), true, b.lost, []⟩).from _), ⟨pre, _, _, ⟨rfl, rfl, hno, HONE.out⟩, left2_whole ⟨xd.extract 0 (xd.size / 2), true, b.lost, []⟩ zR (by omega)⟩, left2_below (W := W2) (O := w.heap.size + 1 + 1 + 1) (R := w.heap.size + 1 + 1) ⟨xd.extract 0 (xd.size / 2), true, b.lost, []⟩ (hB.trans (hb2.mono hB.size)) (by omega) (by omega)⟩
      · have HONE := Lib.hid (show oneHit zs b ⟨xp, xd⟩ = none by rw [hone, if_neg h1, if_neg h2])
        have e1 : (z == 1) = false := by simpa using h1
        have e2 : (z == 2) = false := by simpa using h2
        clear hone h1 h2
        gi_wp2_with (refine ⟨trivial, ?_⟩; gi_at_call 84; refine (CallsIn.inRound l hfo).mono ?_; clear hfo; rintro e W2 ⟨rfl, hb2⟩)
        exact ⟨keeps_below hb2 _, hb2.mono hle, ⟨⟨⟨q3.below hb2, qR.below hb2⟩, qO.below hb2⟩, (fun y hy => (List.mem_append.1 hy).elim (hno y) (fun e => by rw [List.mem_singleton.1 e]; exact HONE.out)), hB.trans (hb2.mono hB.size), Nat.le_trans hle hb2.size⟩⟩
  case done =>
    rintro D ys W hD rfl ⟨⟨⟨q3, qR⟩, qO⟩, hno, hB, hle⟩ hK
    have o0 : W.cell? ⟨w.heap.size + 1 + 1 + 1, 0, none⟩ = some (.string b.durable) := qO.cell rfl
    have o1 : W.cell? ⟨w.heap.size + 1 + 1 + 1, 1, none⟩ = some (.bool b.spoiled) := qO.cell rfl
    have o2 : W.cell? ⟨w.heap.size + 1 + 1 + 1, 2, none⟩ = some (.bool b.lost) := qO.cell rfl
    have o3 : W.cell? ⟨w.heap.size + 1 + 1 + 1, 3, none⟩ = some (.slice none 0 0) := qO.cell rfl
    have r0 : W.cell? ⟨w.heap.size + 1 + 1, 0, none⟩ = some (.string ⟨#[]⟩) := qR.cell rfl
    have r1 : W.cell? ⟨w.heap.size + 1 + 1, 1, none⟩ = some (.bool false) := qR.cell rfl
    have r2 : W.cell? ⟨w.heap.size + 1 + 1, 2, none⟩ = some (.bool false) := qR.cell rfl
    have r3 : W.cell? ⟨w.heap.size + 1 + 1, 3, none⟩ = some (.slice none 0 0) := qR.cell rfl
    have f0 := qR.free 0
    have f1 := qR.free 1
    have f2 := qR.free 2
    have f3 := qR.free 3
    have hwhole := left1_whole ⟨b.durable, b.spoiled, b.lost, []⟩ qR
    have hcr := crash_none zs b hp hno
    have HCR := Lib.hid hcr
    clear hcr hno
    have hK' := (left1_keeps W (w.heap.size + 1 + 1) ⟨b.durable, b.spoiled, b.lost, []⟩).same D _ hK rfl
    have hbel := left1_below (R := w.heap.size + 1 + 1) ⟨b.durable, b.spoiled, b.lost, []⟩ hB (by omega)
    gi_wp2
    refine ⟨by simp, .inl ⟨_, _, rfl, run_takeDeferred hK', ?_⟩⟩
    have hp5 : Whole ((left1 W (w.heap.size + 1 + 1) ⟨b.durable, b.spoiled, b.lost, []⟩).putObj D (.deferred none)) (w.heap.size + 1 + 1) 109 (blkCells ⟨b.durable, b.spoiled, b.lost, []⟩) := whole_own _ _ (fun (_ : Unit) => blkCells ⟨b.durable, b.spoiled, b.lost, []⟩) () _ _ (some D) hwhole (grownBy_putObj' _ D (.deferred none)) (fun r e => by cases e; exact ⟨_, hK', rfl⟩)
    have c0 := hp5.cell (i := 0) rfl
    have c1 := hp5.cell (i := 1) rfl
    have c2 := hp5.cell (i := 2) rfl
    have c3 := hp5.cell (i := 3) rfl
    refine ⟨_, results_cell4 rfl hp5, by rw [HCR.out], hbel.trans (belowK_b (w := w) (Nat.le_refl _) _ D _ _ (by omega) hK' rfl rfl)⟩
  case stop =>
    rintro D c pre W hD ⟨k, hk, rfl⟩ ⟨⟨ini, last, r, ⟨rfl, e1, e2, e3⟩, hwhole⟩, hB⟩ hK
    have hcr := crash_some zs b r hp k hk ini last e1 e2 e3
    have HCR := Lib.hid hcr
    clear hcr e1 e2 e3
    gi_wp2
    refine ⟨by simp, .inl ⟨_, _, rfl, run_takeDeferred hK, ?_⟩⟩
    have hp5 : Whole (W.putObj D (.deferred none)) (w.heap.size + 1 + 1) 109 (blkCells r) := whole_own _ _ (fun (_ : Unit) => blkCells r) () _ _ (some D) hwhole (grownBy_putObj' _ D (.deferred none)) (fun r e => by cases e; exact ⟨_, hK, rfl⟩)
    refine ⟨_, results_cell4 rfl hp5, by rw [HCR.out], hB.trans (belowK_b (w := w) (Nat.le_refl _) _ D _ _ (by omega) hK rfl rfl)⟩
end Go.Proofs.YtpjbkeheemhlnaaDoor
