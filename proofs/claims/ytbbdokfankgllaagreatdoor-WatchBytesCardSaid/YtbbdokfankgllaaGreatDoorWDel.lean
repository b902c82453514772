/- slices.IndexFunc, slices.DeleteFunc, slices.Clone at watches and at events. No conditions beyond those in each statement. -/
import Derived.Test.YtbbdokfankgllaaGreatDoorWIns
import Derived.Shelf.SlicesQ.IndexFunc
namespace Go.Proofs.YtbbdokfankgllaaGreatDoor
open Go.RowKit
set_option linter.unusedVariables false
set_option maxRecDepth 100000

/-- An event. -/
structure Ev where
  ses : Int
  no : Int
  path : ByteArray
  what : Int
  when : Int
def evOne (x : Ev) : List Value := [.int .i64 x.ses, .int .i64 x.no, .string x.path, .int .i64 x.what, .int .i64 x.when]
def evV (x : Ev) : Value := .agg #[.int .i64 x.ses, .int .i64 x.no, .string x.path, .int .i64 x.what, .int .i64 x.when]
theorem evOne_len (a : Ev) : (evOne a).length = 5 := rfl
theorem evOne_one (a : Ev) (v : Value) (h : v ∈ evOne a) : v.oneCell' = true := by
  simp [evOne] at h
  rcases h with rfl | rfl | rfl | rfl | rfl <;> rfl
theorem und_evs : Tryz.prog.underlying 29 = some (.slice 54) := by kernel_rfl
theorem info_ev : (Tryz.prog.info? 54).map (fun i => (i.zero, i.size, i.bytes)) = some (some (.agg #[.int .i64 0, .int .i64 0, .string ⟨#[]⟩, .int .i64 0, .int .i64 0]), 5, 48) := by kernel_rfl
/-- A row of events of one's own. -/
def ERow (w : World) (base : Nat) (v : Value) (L : List Ev) : Prop := w.ownsRow base 54 5 v L.length (cellsK evOne L)
/-- Where the first that p holds of is. -/
def IxP {α : Type} (p : α → Bool) (L : List α) (z : Int) : Prop :=
  (z = -1 ∧ ∀ x ∈ L, p x = false) ∨ ∃ (k : Nat) (x : α), z = (k : Int) ∧ L[k]? = some x ∧ p x = true ∧ ∀ j y, j < k → L[j]? = some y → p y = false
theorem clearK {P : Program} (w : World) (t ty elem : TypeId) (z : Value) (g o n c : Nat) (cur : Array Value) (te : TypeId) (hu : P.underlying t = some (.slice elem)) (hz : ∀ w, (zeroValue elem).run P w = .ok z w)
    (hg : w.heap[g]? = some (.cells cur te (0, 0))) (hn : 0 < n) (hfit : o + n * z.cells.size ≤ cur.size) (h1 : ∀ v ∈ (Builtin.zeroCells z.cells n).toList, v.oneCell' = true) :
    (Builtin.clear_ #[t] ty #[.slice (some ⟨g, o, none⟩) n c]).run P w = .ok (.tuple #[]) (w.setRow g (cur.toList.take o ++ (Builtin.zeroCells z.cells n).toList ++ cur.toList.drop (o + (Builtin.zeroCells z.cells n).toList.length)).toArray) := by
  have hl : (Builtin.zeroCells z.cells n).toList.length = n * z.cells.size := by simp [Builtin.zeroCells]
  have hst := run_storeCells_at P g o te (Builtin.zeroCells z.cells n).toList 0 cur w hg (by rw [hl]; simpa using hfit) h1
  obtain ⟨m, rfl⟩ : ∃ m, n = m + 1 := ⟨n - 1, by omega⟩
  simp [Builtin.clear_, run_underlying hu, hz, hst]
theorem filter_take_succ {α : Type} (q : α → Bool) (L : List α) (j : Nat) (x : α) (h : L[j]? = some x) : (L.take (j + 1)).filter q = (L.take j).filter q ++ (if q x = true then [x] else []) := by
  obtain ⟨hl, he⟩ := List.getElem?_eq_some_iff.1 h
  rw [List.take_succ_eq_append_getElem hl, List.filter_append, he]
  congr 1
  by_cases hq : q x = true
  · rw [if_pos hq]; simp [hq]
  · rw [if_neg hq]; simp [hq]
/-- How far the deleting is: what is kept of the first j stands at the head, what comes behind j is as it was. -/
structure DelI {α : Type} (q : α → Bool) (L M : List α) (i j : Nat) : Prop where
  len : M.length = L.length
  ij : i < j
  jl : j ≤ L.length
  head : M.take i = (L.take j).filter q
  tail : ∀ k, j ≤ k → M[k]? = L[k]?
theorem DelI.cnt {α : Type} {q : α → Bool} {L M : List α} {i j : Nat} (h : DelI q L M i j) : ((L.take j).filter q).length = i := by
  rw [← h.head, List.length_take]; have := h.len; have := h.ij; have := h.jl; omega
theorem DelI.skip {α : Type} {q : α → Bool} {L M : List α} {i j : Nat} (h : DelI q L M i j) {x : α} (hx : L[j]? = some x) (hq : q x = false) : DelI q L M i (j + 1) := by
  have hl := (List.getElem?_eq_some_iff.1 hx).1
  refine ⟨h.len, by have := h.ij; omega, by omega, ?_, fun k hk => h.tail k (by omega)⟩
  rw [filter_take_succ q L j x hx, if_neg (by rw [hq]; decide), List.append_nil]; exact h.head
theorem DelI.keep {α : Type} {q : α → Bool} {L M : List α} {i j : Nat} (h : DelI q L M i j) {x : α} (hx : L[j]? = some x) (hq : q x = true) : DelI q L (M.set i x) (i + 1) (j + 1) := by
  have hl := (List.getElem?_eq_some_iff.1 hx).1
  have h1 := h.len
  have h2 := h.ij
  refine ⟨by rw [List.length_set]; exact h1, by omega, by omega, ?_, fun k hk => by rw [List.getElem?_set_ne (by omega)]; exact h.tail k (by omega)⟩
  rw [filter_take_succ q L j x hx, if_pos hq, ← h.head]
  rw [List.take_succ_eq_append_getElem (by rw [List.length_set]; omega), List.getElem_set_self]
  congr 1
  rw [List.take_set_of_le (Nat.le_refl i)]
theorem DelI.start {α : Type} {p : α → Bool} {L : List α} {k : Nat} {x : α} (hx : L[k]? = some x) (hp : p x = true) (hall : ∀ j y, j < k → L[j]? = some y → p y = false) : DelI (fun y => !p y) L L k (k + 1) := by
  have hl := (List.getElem?_eq_some_iff.1 hx).1
  refine ⟨rfl, by omega, by omega, ?_, fun _ _ => rfl⟩
  rw [filter_take_succ _ L k x hx, if_neg (by rw [hp]; decide), List.append_nil]
  refine (List.filter_eq_self.2 fun y hy => ?_).symm
  obtain ⟨j, hj⟩ := List.getElem?_of_mem hy
  rw [List.getElem?_take] at hj
  split at hj
  · rw [hall j y (by assumption) hj]; rfl
  · cases hj
theorem waC0 {w : World} {base : Nat} {v : Value} {L : List Wa} (h : WRow w base v L) {j : Nat} {x : Wa} (hx : L[j]? = some x) {g c : Nat} (hv : v = .slice (some ⟨g, 0, none⟩) L.length c) : w.cell? ⟨g, j * 4, none⟩ = some (.int .i64 x.ses) := by
  subst hv
  have hl := (List.getElem?_eq_some_iff.1 hx).1
  have := h.cellAt (j * 4 + 0) (by omega)
  rw [cellsK_at waOne_len L j 0 x hx (by decide)] at this
  simpa [waOne] using this
theorem waC1 {w : World} {base : Nat} {v : Value} {L : List Wa} (h : WRow w base v L) {j : Nat} {x : Wa} (hx : L[j]? = some x) {g c : Nat} (hv : v = .slice (some ⟨g, 0, none⟩) L.length c) : w.cell? ⟨g, j * 4 + 1, none⟩ = some (.string x.path) := by
  subst hv
  have hl := (List.getElem?_eq_some_iff.1 hx).1
  have := h.cellAt (j * 4 + 1) (by omega)
  rw [cellsK_at waOne_len L j 1 x hx (by decide)] at this
  simpa [waOne] using this
theorem waC2 {w : World} {base : Nat} {v : Value} {L : List Wa} (h : WRow w base v L) {j : Nat} {x : Wa} (hx : L[j]? = some x) {g c : Nat} (hv : v = .slice (some ⟨g, 0, none⟩) L.length c) : w.cell? ⟨g, j * 4 + 2, none⟩ = some (.bool x.kids) := by
  subst hv
  have hl := (List.getElem?_eq_some_iff.1 hx).1
  have := h.cellAt (j * 4 + 2) (by omega)
  rw [cellsK_at waOne_len L j 2 x hx (by decide)] at this
  simpa [waOne] using this
theorem waC3 {w : World} {base : Nat} {v : Value} {L : List Wa} (h : WRow w base v L) {j : Nat} {x : Wa} (hx : L[j]? = some x) {g c : Nat} (hv : v = .slice (some ⟨g, 0, none⟩) L.length c) : w.cell? ⟨g, j * 4 + 3, none⟩ = some (.bool x.once) := by
  subst hv
  have hl := (List.getElem?_eq_some_iff.1 hx).1
  have := h.cellAt (j * 4 + 3) (by omega)
  rw [cellsK_at waOne_len L j 3 x hx (by decide)] at this
  simpa [waOne] using this
theorem waV_form {w : World} {base : Nat} {v : Value} {L : List Wa} (h : WRow w base v L) : ∃ a c, v = .slice a L.length c ∧ (0 < L.length → ∃ g, a = some ⟨g, 0, none⟩ ∧ g < w.heap.size ∧ base ≤ g) ∧ L.length ≤ c := by
  rcases h.2 with ⟨h1, h2⟩ | ⟨g, c, cur, h1, h3, h4, h5, _⟩
  · exact ⟨none, 0, by rw [h1, h2], fun h => by omega, by omega⟩
  · exact ⟨_, _, h1, fun _ => ⟨g, rfl, (Array.getElem?_eq_some_iff.1 h4).1, h3⟩, h5⟩
theorem WRow.below {w w' : World} {base : Nat} {v : Value} {L : List Wa} (h : WRow w base v L) (hb : Below w.heap.size w w') : WRow w' base v L := by
  refine ⟨h.1, h.2.imp id ?_⟩
  rintro ⟨g, c, cur, h1, h3, h4, h5⟩
  exact ⟨g, c, cur, h1, h3, (hb.block g (Array.getElem?_eq_some_iff.1 h4).1).trans h4, h5⟩
set_option maxHeartbeats 8000000 in
theorem ixf_wa (fn : Nat) (cb : Array Value) (eg : ∀ args w, (callFunc fn args).run Tryz.prog w = .ok (.enter fn args) w) (p : Wa → Bool) (base : Nat) (v : Value) (L : List Wa) (w : World) (hL : L.length ≤ 100000) (hr : WRow w base v L)
    (hp : ∀ W x, Below w.heap.size w W → Calls Tryz.prog fn (#[waV x] ++ cb) W fun e W' => e = .returned (.bool (p x)) ∧ Below W.heap.size W W') :
    Calls Tryz.prog 75 #[v, .func (.func fn) #[] cb] w fun e w' => ∃ z, e = .returned (.int .i64 z) ∧ IxP p L z ∧ Below w.heap.size w w' := by
  obtain ⟨a, c, rfl, hga, hlc⟩ := waV_form hr
  have HR := Lib.hid hr
  have HP := Lib.hid hp
  have HG := Lib.hid hga
  clear hr hp hga hlc
  go_enter Tryz.func75, Tryz.ntmps75
  go_wp2_with fail
  go_loopw [5, 8] (fun _ iv wr => ∃ j : Nat, j ≤ L.length ∧ iv = .int .i64 j ∧ Hid (∀ k y, k < j → L[k]? = some y → p y = false) ∧ Below w.heap.size w wr) (fun _ iv _ => L.length - (intOf iv).toNat)
  case atStart => exact ⟨0, by omega, rfl, Lib.hid (fun k y h => by omega), Below.refl _ _⟩
  case round =>
    obtain ⟨j, hj, rfl, hf, bk⟩ := hrel
    by_cases hlt : j < L.length
    · have hlt2 : decide ((j : Int) < (L.length : Int)) = true := by simp; omega
      obtain ⟨x, hx⟩ : ∃ x, L[j]? = some x := ⟨L[j], by simp [hlt]⟩
      obtain ⟨g, rfl, hgw, _⟩ := HG.out (by omega)
      have hrw := HR.out.below bk
      have x0 := waC0 hrw hx rfl
      have x1 := waC1 hrw hx rfl
      have x2 := waC2 hrw hx rfl
      have x3 := waC3 hrw hx rfl
      have hj0 : (0 : Int) ≤ (j : Int) := by omega
      have hji : (j : Int) < (L.length : Int) := by omega
      have t2 : IntKind.i64.wrap ((j : Int) + 1) = (j : Int) + 1 := IntWalk.i64_in _ (by omega)
      have hcall := HP.out wr x bk
      unfold waV at hcall
      have HX := Lib.hid hx
      have HB := Lib.hid bk
      clear hx hrw
      cases hq : p x with
      | true =>
        have HQ := Lib.hid hq
        rw [hq] at hcall
        clear hq
        go_wp2_with (go_at_fn fn; refine hcall.mono ?_; rintro e w' ⟨rfl, hb'⟩)
        go_ret
        exact ⟨j, rfl, .inr ⟨j, x, rfl, HX.out, HQ.out, hf.out⟩, HB.out.trans (hb'.mono HB.out.size)⟩
      | false =>
        have HQ := Lib.hid hq
        rw [hq] at hcall
        clear hq
        go_wp2_with (go_at_fn fn; refine hcall.mono ?_; rintro e w' ⟨rfl, hb'⟩)
        go_roundw
        case rel => exact ⟨j + 1, by omega, by go_num, Lib.hid (fun k y hk hy => by
          by_cases e : k = j
          · subst e; rw [HX.out] at hy; injection hy with hy; rw [← hy]; exact HQ.out
          · exact hf.out k y (by omega) hy), HB.out.trans (hb'.mono HB.out.size)⟩
        case measure => simp [intOf]; omega
    · obtain rfl : j = L.length := by omega
      have hlt2 : decide ((L.length : Int) < (L.length : Int)) = false := by simp
      go_wp2_with fail
      go_ret
      exact ⟨_, rfl, .inl ⟨rfl, fun x hx => by
        obtain ⟨k, hk⟩ := List.getElem?_of_mem hx
        exact hf.out k x (List.getElem?_eq_some_iff.1 hk).1 hk⟩, bk⟩
theorem wa_put1 {w : World} {base g n c i f : Nat} {M : List Wa} {z z' : Wa} {u : Value} (h : WRow w base (.slice (some ⟨g, 0, none⟩) n c) M) (hn : M.length = n) (hz : M[i]? = some z) (hf : f < 4) (hu : (waOne z).set f u = waOne z') :
    WRow (w.setCell ⟨g, i * 4 + f, none⟩ u) base (.slice (some ⟨g, 0, none⟩) n c) (M.set i z') ∧ w.grownBy (w.setCell ⟨g, i * 4 + f, none⟩ u) (some g) ∧ (M.set i z')[i]? = some z' := by
  subst hn
  obtain ⟨h1, h2⟩ := World.ownsRow.stored h (i * 4 + f) u
  rw [cellsK_set waOne_len M i f z z' u hz hf hu] at h1
  refine ⟨?_, h2, List.getElem?_set_self (List.getElem?_eq_some_iff.1 hz).1⟩
  unfold WRow
  rw [List.length_set]; exact h1
/-- An element laid over another one. -/
theorem wa_put {w : World} {base g n c i : Nat} {M : List Wa} {z x : Wa} (h : WRow w base (.slice (some ⟨g, 0, none⟩) n c) M) (hn : M.length = n) (hz : M[i]? = some z) :
    WRow (((((w).setCell ⟨g, i * 4, none⟩ (.int .i64 x.ses)).setCell ⟨g, i * 4 + 1, none⟩ (.string x.path)).setCell ⟨g, i * 4 + 2, none⟩ (.bool x.kids)).setCell ⟨g, i * 4 + 3, none⟩ (.bool x.once)) base (.slice (some ⟨g, 0, none⟩) n c) (M.set i x) ∧ w.grownBy (((((w).setCell ⟨g, i * 4, none⟩ (.int .i64 x.ses)).setCell ⟨g, i * 4 + 1, none⟩ (.string x.path)).setCell ⟨g, i * 4 + 2, none⟩ (.bool x.kids)).setCell ⟨g, i * 4 + 3, none⟩ (.bool x.once)) (some g) := by
  have q0 := hz
  obtain ⟨r1, g1, q1⟩ := wa_put1 (f := 0) (z' := { z with ses := x.ses }) (u := .int .i64 x.ses) h (by simp [hn]) q0 (by decide) rfl
  obtain ⟨r2, g2, q2⟩ := wa_put1 (f := 1) (z' := { ({ z with ses := x.ses }) with path := x.path }) (u := .string x.path) r1 (by simp [hn]) q1 (by decide) rfl
  obtain ⟨r3, g3, q3⟩ := wa_put1 (f := 2) (z' := { ({ ({ z with ses := x.ses }) with path := x.path }) with kids := x.kids }) (u := .bool x.kids) r2 (by simp [hn]) q2 (by decide) rfl
  obtain ⟨r4, g4, q4⟩ := wa_put1 (f := 3) (z' := { ({ ({ ({ z with ses := x.ses }) with path := x.path }) with kids := x.kids }) with once := x.once }) (u := .bool x.once) r3 (by simp [hn]) q3 (by decide) rfl
  simp only [List.set_set] at r1 r2 r3 r4
  refine ⟨?_, ?_⟩
  · exact r4
  · exact grownBy_trans (grownBy_trans (grownBy_trans (g1) g2) g3) g4
set_option maxHeartbeats 16000000 in
theorem del_wa (fn : Nat) (cb : Array Value) (eg : ∀ args w, (callFunc fn args).run Tryz.prog w = .ok (.enter fn args) w) (p : Wa → Bool) (base : Nat) (v : Value) (L : List Wa) (w : World) (hL : L.length ≤ 100000) (hr : WRow w base v L)
    (hp : ∀ W x, w.grownBy W v.ownBlock → Calls Tryz.prog fn (#[waV x] ++ cb) W fun e W' => e = .returned (.bool (p x)) ∧ Below W.heap.size W W') :
    Calls Tryz.prog 45 #[v, .func (.func fn) #[] cb] w fun e w' => ∃ v', e = .returned v' ∧ WRow w' base v' (L.filter fun x => !p x) ∧ v'.ownBlock = v.ownBlock ∧ w.grownBy w' v.ownBlock := by
  have HI := Lib.hid (ixf_wa fn cb eg p base v L w hL hr (fun W x hW => hp W x (below_grownBy hW _)))
  have HR := Lib.hid hr
  have HP := Lib.hid hp
  obtain ⟨a, c, rfl, hga, hlc⟩ := waV_form hr
  have HG := Lib.hid hga
  clear hr hp hga
  go_enter Tryz.func45, Tryz.ntmps45
  go_wp2_with fail
  refine HI.out.mono ?_
  rintro e w1 ⟨z, rfl, hz, b1⟩
  rcases hz with ⟨rfl, hall⟩ | ⟨k, x, rfl, hx, hpx, hlow⟩
  · have HF : Hid (L.filter (fun x => !p x) = L) := Lib.hid (List.filter_eq_self.2 fun x hx => by rw [hall x hx]; rfl)
    go_wp2_with fail
    go_ret
    rw [HF.out]
    exact ⟨_, rfl, HR.out.below b1, rfl, below_grownBy b1 _⟩
  · have hkl := (List.getElem?_eq_some_iff.1 hx).1
    obtain ⟨g, rfl, hgw, hbg⟩ := HG.out (by omega)
    have hne : ((k : Int) == -1) = false := beq_eq_false_iff_ne.2 (by omega)
    have t1 : IntKind.i64.wrap ((k : Int) + 1) = (k : Int) + 1 := IntWalk.i64_in _ (by omega)
    have HS := Lib.hid (DelI.start hx hpx hlow)
    have R1 := HR.out.below b1
    have g1 := below_grownBy b1 (some g)
    have HKL := Lib.hid hkl
    clear hx hpx hlow b1 hkl HI HG
    go_wp2_with fail
    go_loopw [5, 6, 7] (fun iv jv _ wr => ∃ (i j : Nat) (M : List Wa), iv = .int .i64 i ∧ jv = .int .i64 j ∧ Hid (DelI (fun y => !p y) L M i j) ∧ Hid (WRow wr base (.slice (some ⟨g, 0, none⟩) L.length c) M) ∧ Hid (w.grownBy wr (some g))) (fun _ jv _ _ => L.length - (intOf jv).toNat)
    case atStart => exact ⟨k, k + 1, L, rfl, by go_num, HS, Lib.hid R1, Lib.hid g1⟩
    case round =>
      obtain ⟨i, j, M, rfl, rfl, HD, HM, HGr⟩ := hrel
      clear R1 g1
      have hij := HD.out.ij
      have hjl := HD.out.jl
      have hlen := HD.out.len
      by_cases hlt : j < L.length
      · have hlt2 : decide ((j : Int) < (L.length : Int)) = true := by simp; omega
        obtain ⟨y, hy⟩ : ∃ y, L[j]? = some y := ⟨L[j], by simp [hlt]⟩
        have hyM : M[j]? = some y := (HD.out.tail j (Nat.le_refl _)).trans hy
        have x0 := waC0 HM.out hyM (by rw [hlen])
        have x1 := waC1 HM.out hyM (by rw [hlen])
        have x2 := waC2 HM.out hyM (by rw [hlen])
        have x3 := waC3 HM.out hyM (by rw [hlen])
        have hj0 : (0 : Int) ≤ (j : Int) := by omega
        have hji : (j : Int) < (L.length : Int) := by omega
        have t2 : IntKind.i64.wrap ((j : Int) + 1) = (j : Int) + 1 := IntWalk.i64_in _ (by omega)
        have t3 : IntKind.i64.wrap ((i : Int) + 1) = (i : Int) + 1 := IntWalk.i64_in _ (by omega)
        have bA := (Below.refl _ wr).alloc (Nat.le_refl _) (.cells #[.int .i64 y.ses, .string y.path, .bool y.kids, .bool y.once] 49)
        have NA := heap_alloc_new wr (.cells #[.int .i64 y.ses, .string y.path, .bool y.kids, .bool y.once] 49)
        have HY := Lib.hid hy
        have HLEN := Lib.hid hlen
        have HIJ : Hid (i < j ∧ j < L.length) := Lib.hid ⟨hij, hlt⟩
        clear hy hyM hlen hjl
        go_upto_region 8 with fail
        obtain ⟨w5, hw5⟩ : ∃ w5, w5 = wr.alloc (.cells #[.int .i64 y.ses, .string y.path, .bool y.kids, .bool y.once] 49) := ⟨_, rfl⟩
        rw [← hw5] at bA NA ⊢
        have hgwr : g < wr.heap.size := Nat.lt_of_lt_of_le hgw HGr.out.size
        have hlt5 : wr.heap.size < w5.heap.size := (Array.getElem?_eq_some_iff.1 NA).1
        have n0 : w5.cell? ⟨wr.heap.size, 0, none⟩ = some (.int .i64 y.ses) := by simp [World.cell?, NA]
        have n1 : w5.cell? ⟨wr.heap.size, 1, none⟩ = some (.string y.path) := by simp [World.cell?, NA]
        have n2 : w5.cell? ⟨wr.heap.size, 2, none⟩ = some (.bool y.kids) := by simp [World.cell?, NA]
        have n3 : w5.cell? ⟨wr.heap.size, 3, none⟩ = some (.bool y.once) := by simp [World.cell?, NA]
        have R5 := HM.out.below bA
        have G5 := grownBy_trans HGr.out (below_grownBy bA _)
        have hcall := HP.out w5 y G5
        unfold waV at hcall
        have HR5 := Lib.hid R5
        have HG5 := Lib.hid G5
        have HN5 := Lib.hid NA
        clear hw5 R5 G5 NA bA x0 x1 x2 x3
        cases hq : p y with
        | true =>
          have HQ := Lib.hid hq
          rw [hq] at hcall
          clear hq
          go_wp2_with (go_at_fn fn; refine hcall.mono ?_; rintro e w6 ⟨rfl, b6⟩)
          go_roundw
          case rel => exact ⟨i, j + 1, M, rfl, by go_num, Lib.hid (HD.out.skip HY.out (by rw [HQ.out]; rfl)), Lib.hid (HR5.out.below b6), Lib.hid (grownBy_trans HG5.out (below_grownBy b6 _))⟩
          case measure => have := HIJ.out; simp [intOf]; omega
        | false =>
          have HQ := Lib.hid hq
          rw [hq] at hcall
          clear hq
          obtain ⟨z, hz⟩ : ∃ z, M[i]? = some z := ⟨M[i]'(by have := HLEN.out; omega), by simp⟩
          have HZ := Lib.hid hz
          clear hz
          have hi0 : (0 : Int) ≤ (i : Int) := by omega
          have hil : (i : Int) < (L.length : Int) := by omega
          go_wp2_with (
            go_at_fn fn
            refine hcall.mono ?_
            rintro e w6 ⟨rfl, b6⟩
            have R6 := HR5.out.below b6
            have N6 := (b6.block wr.heap.size hlt5).trans HN5.out
            have m0 : w6.cell? ⟨wr.heap.size, 0, none⟩ = some (.int .i64 y.ses) := by simp [World.cell?, N6]
            have m1 : w6.cell? ⟨wr.heap.size, 1, none⟩ = some (.string y.path) := by simp [World.cell?, N6]
            have m2 : w6.cell? ⟨wr.heap.size, 2, none⟩ = some (.bool y.kids) := by simp [World.cell?, N6]
            have m3 : w6.cell? ⟨wr.heap.size, 3, none⟩ = some (.bool y.once) := by simp [World.cell?, N6]
            have z0 := waC0 R6 HZ.out (by rw [HLEN.out])
            have z1 := waC1 R6 HZ.out (by rw [HLEN.out])
            have z2 := waC2 R6 HZ.out (by rw [HLEN.out])
            have z3 := waC3 R6 HZ.out (by rw [HLEN.out])
            have hfz : ∀ q, w6.frozen? ⟨g, q, none⟩ = false := fun q => by
              have R7 := R6
              unfold WRow at R7
              rw [← HLEN.out] at R7
              exact World.ownsRow.frozenAt R7 q
            have f0 := hfz (i * 4)
            have f1 := hfz (i * 4 + 1)
            have f2 := hfz (i * 4 + 2)
            have f3 := hfz (i * 4 + 3)
            have hne6 : ¬ wr.heap.size = g := by omega
            have hne7 : ¬ g = wr.heap.size := by omega
            have HR6 := Lib.hid R6
            have HG6 := Lib.hid (grownBy_trans HG5.out (below_grownBy b6 (some g)))
            clear R6 N6 hfz b6 hcall)
          go_roundw
          case rel => exact ⟨i + 1, j + 1, M.set i y, by go_num, by go_num, Lib.hid (HD.out.keep HY.out (by rw [HQ.out]; rfl)), Lib.hid (wa_put HR6.out HLEN.out HZ.out).1, Lib.hid (grownBy_trans HG6.out (wa_put HR6.out HLEN.out HZ.out).2)⟩
          case measure => have := HIJ.out; simp [intOf]; omega
      · obtain rfl : j = L.length := by omega
        have hlt2 : decide ((L.length : Int) < (L.length : Int)) = false := by simp
        have R5 := HM.out
        unfold WRow at R5
        rw [hlen] at R5
        obtain ⟨hl5, ⟨_, h0⟩ | ⟨g', c', cur, hv, hbg', hg', hnc, hcm, hcs, htk⟩⟩ := R5
        · omega
        · injection hv with hv1 _ hv2
          injection hv1 with hv1
          injection hv1 with hv1 _ _
          subst hv1 hv2
          have hsz : ∀ m, (Builtin.zeroCells (Value.agg #[.int .i64 0, .string ⟨#[]⟩, .bool false, .bool false]).cells m).toList.length = m * 4 := fun m => by simp [Builtin.zeroCells, Value.cells]
          obtain ⟨C, hC⟩ : ∃ C : Array Value, C = (cur.toList.take (i * 4) ++ (Builtin.zeroCells (Value.agg #[.int .i64 0, .string ⟨#[]⟩, .bool false, .bool false]).cells (L.length - i)).toList ++ cur.toList.drop (i * 4 + (Builtin.zeroCells (Value.agg #[.int .i64 0, .string ⟨#[]⟩, .bool false, .bool false]).cells (L.length - i)).toList.length)).toArray := ⟨_, rfl⟩
          have hcl : ∀ ty, (Builtin.clear_ #[28] ty #[.slice (some ⟨g, i * 4, none⟩) (L.length - i) (c - i)]).run Tryz.prog wr = .ok (.tuple #[]) (wr.setRow g C) := fun ty => by
            rw [hC]
            exact clearK wr 28 ty 49 (Value.agg #[.int .i64 0, .string ⟨#[]⟩, .bool false, .bool false]) g (i * 4) (L.length - i) (c - i) cur 49 und_was (fun w => by kernel_rfl) hg' (by omega) (by rw [hcs]; show i * 4 + (L.length - i) * 4 ≤ c * 4; omega) (fun u hu => by
              simp [Builtin.zeroCells, Value.cells] at hu
              obtain ⟨q, hq, rfl⟩ := hu
              have : q % 4 < 4 := Nat.mod_lt _ (by decide)
              generalize q % 4 = r at this
              match r, this with
              | 0, _ => rfl
              | 1, _ => rfl
              | 2, _ => rfl
              | 3, _ => rfl)
          have hCs : C.size = c * 4 := by
            have := hsz (L.length - i)
            rw [hC, List.size_toArray, List.length_append, List.length_append, List.length_take, List.length_drop, this, Array.length_toList, hcs]; omega
          have hcnt := HD.out.cnt
          rw [List.take_length] at hcnt
          have hCt : C.toList.take (i * 4) = cellsK waOne (L.filter fun y => !p y) := by
            have h1 : M.take i = L.filter (fun y => !p y) := by have := HD.out.head; rwa [List.take_length] at this
            rw [← h1, ← cellsK_take waOne_len, ← htk, List.take_take, Nat.min_eq_left (by omega), hC, List.append_assoc, List.take_append_of_le_length (by rw [List.length_take, Array.length_toList, hcs]; omega), List.take_take, Nat.min_eq_left (by omega)]
          have HFIN : Hid (WRow (wr.setRow g C) base (.slice (some ⟨g, 0, none⟩) i c) (L.filter fun y => !p y) ∧ w.grownBy (wr.setRow g C) (some g)) := Lib.hid ⟨by
            unfold WRow
            rw [hcnt]
            exact ⟨by rw [cellsK_len waOne_len, hcnt], .inr ⟨g, c, C, rfl, hbg', setRow_heap _ _ _ _ _ _ hg', by omega, hcm, hCs, hCt⟩⟩, grownBy_trans HGr.out ⟨rfl, rfl, rfl, by simp [World.setRow], fun q hq hne => setRow_other _ _ _ _ (fun e => hne (by rw [e]))⟩⟩
          have hi0 : (0 : Int) ≤ (i : Int) := by omega
          have hil : (i : Int) ≤ (L.length : Int) := by omega
          have hci : ¬ (c = i) := by omega
          have hic : (i : Int) ≤ (c : Int) := by omega
          clear hC hCs hCt hcnt hsz hl5 hg' hcs htk hlen hij hjl
          go_wp2_with fail
          go_ret
          exact ⟨_, rfl, HFIN.out.1, rfl, HFIN.out.2⟩
theorem evC0 {w : World} {base : Nat} {v : Value} {L : List Ev} (h : ERow w base v L) {j : Nat} {x : Ev} (hx : L[j]? = some x) {g c : Nat} (hv : v = .slice (some ⟨g, 0, none⟩) L.length c) : w.cell? ⟨g, j * 5, none⟩ = some (.int .i64 x.ses) := by
  subst hv
  have hl := (List.getElem?_eq_some_iff.1 hx).1
  have := h.cellAt (j * 5 + 0) (by omega)
  rw [cellsK_at evOne_len L j 0 x hx (by decide)] at this
  simpa [evOne] using this
theorem evC1 {w : World} {base : Nat} {v : Value} {L : List Ev} (h : ERow w base v L) {j : Nat} {x : Ev} (hx : L[j]? = some x) {g c : Nat} (hv : v = .slice (some ⟨g, 0, none⟩) L.length c) : w.cell? ⟨g, j * 5 + 1, none⟩ = some (.int .i64 x.no) := by
  subst hv
  have hl := (List.getElem?_eq_some_iff.1 hx).1
  have := h.cellAt (j * 5 + 1) (by omega)
  rw [cellsK_at evOne_len L j 1 x hx (by decide)] at this
  simpa [evOne] using this
theorem evC2 {w : World} {base : Nat} {v : Value} {L : List Ev} (h : ERow w base v L) {j : Nat} {x : Ev} (hx : L[j]? = some x) {g c : Nat} (hv : v = .slice (some ⟨g, 0, none⟩) L.length c) : w.cell? ⟨g, j * 5 + 2, none⟩ = some (.string x.path) := by
  subst hv
  have hl := (List.getElem?_eq_some_iff.1 hx).1
  have := h.cellAt (j * 5 + 2) (by omega)
  rw [cellsK_at evOne_len L j 2 x hx (by decide)] at this
  simpa [evOne] using this
theorem evC3 {w : World} {base : Nat} {v : Value} {L : List Ev} (h : ERow w base v L) {j : Nat} {x : Ev} (hx : L[j]? = some x) {g c : Nat} (hv : v = .slice (some ⟨g, 0, none⟩) L.length c) : w.cell? ⟨g, j * 5 + 3, none⟩ = some (.int .i64 x.what) := by
  subst hv
  have hl := (List.getElem?_eq_some_iff.1 hx).1
  have := h.cellAt (j * 5 + 3) (by omega)
  rw [cellsK_at evOne_len L j 3 x hx (by decide)] at this
  simpa [evOne] using this
theorem evC4 {w : World} {base : Nat} {v : Value} {L : List Ev} (h : ERow w base v L) {j : Nat} {x : Ev} (hx : L[j]? = some x) {g c : Nat} (hv : v = .slice (some ⟨g, 0, none⟩) L.length c) : w.cell? ⟨g, j * 5 + 4, none⟩ = some (.int .i64 x.when) := by
  subst hv
  have hl := (List.getElem?_eq_some_iff.1 hx).1
  have := h.cellAt (j * 5 + 4) (by omega)
  rw [cellsK_at evOne_len L j 4 x hx (by decide)] at this
  simpa [evOne] using this
theorem evV_form {w : World} {base : Nat} {v : Value} {L : List Ev} (h : ERow w base v L) : ∃ a c, v = .slice a L.length c ∧ (0 < L.length → ∃ g, a = some ⟨g, 0, none⟩ ∧ g < w.heap.size ∧ base ≤ g) ∧ L.length ≤ c := by
  rcases h.2 with ⟨h1, h2⟩ | ⟨g, c, cur, h1, h3, h4, h5, _⟩
  · exact ⟨none, 0, by rw [h1, h2], fun h => by omega, by omega⟩
  · exact ⟨_, _, h1, fun _ => ⟨g, rfl, (Array.getElem?_eq_some_iff.1 h4).1, h3⟩, h5⟩
theorem ERow.below {w w' : World} {base : Nat} {v : Value} {L : List Ev} (h : ERow w base v L) (hb : Below w.heap.size w w') : ERow w' base v L := by
  refine ⟨h.1, h.2.imp id ?_⟩
  rintro ⟨g, c, cur, h1, h3, h4, h5⟩
  exact ⟨g, c, cur, h1, h3, (hb.block g (Array.getElem?_eq_some_iff.1 h4).1).trans h4, h5⟩
set_option maxHeartbeats 8000000 in
theorem ixf_ev (fn : Nat) (cb : Array Value) (eg : ∀ args w, (callFunc fn args).run Tryz.prog w = .ok (.enter fn args) w) (p : Ev → Bool) (base : Nat) (v : Value) (L : List Ev) (w : World) (hL : L.length ≤ 100000) (hr : ERow w base v L)
    (hp : ∀ W x, Below w.heap.size w W → Calls Tryz.prog fn (#[evV x] ++ cb) W fun e W' => e = .returned (.bool (p x)) ∧ Below W.heap.size W W') :
    Calls Tryz.prog 77 #[v, .func (.func fn) #[] cb] w fun e w' => ∃ z, e = .returned (.int .i64 z) ∧ IxP p L z ∧ Below w.heap.size w w' := by
  obtain ⟨a, c, rfl, hga, hlc⟩ := evV_form hr
  have HR := Lib.hid hr
  have HP := Lib.hid hp
  have HG := Lib.hid hga
  clear hr hp hga hlc
  go_enter Tryz.func77, Tryz.ntmps77
  go_wp2_with fail
  go_loopw [5, 8] (fun _ iv wr => ∃ j : Nat, j ≤ L.length ∧ iv = .int .i64 j ∧ Hid (∀ k y, k < j → L[k]? = some y → p y = false) ∧ Below w.heap.size w wr) (fun _ iv _ => L.length - (intOf iv).toNat)
  case atStart => exact ⟨0, by omega, rfl, Lib.hid (fun k y h => by omega), Below.refl _ _⟩
  case round =>
    obtain ⟨j, hj, rfl, hf, bk⟩ := hrel
    by_cases hlt : j < L.length
    · have hlt2 : decide ((j : Int) < (L.length : Int)) = true := by simp; omega
      obtain ⟨x, hx⟩ : ∃ x, L[j]? = some x := ⟨L[j], by simp [hlt]⟩
      obtain ⟨g, rfl, hgw, _⟩ := HG.out (by omega)
      have hrw := HR.out.below bk
      have x0 := evC0 hrw hx rfl
      have x1 := evC1 hrw hx rfl
      have x2 := evC2 hrw hx rfl
      have x3 := evC3 hrw hx rfl
      have x4 := evC4 hrw hx rfl
      have hj0 : (0 : Int) ≤ (j : Int) := by omega
      have hji : (j : Int) < (L.length : Int) := by omega
      have t2 : IntKind.i64.wrap ((j : Int) + 1) = (j : Int) + 1 := IntWalk.i64_in _ (by omega)
      have hcall := HP.out wr x bk
      unfold evV at hcall
      have HX := Lib.hid hx
      have HB := Lib.hid bk
      clear hx hrw
      cases hq : p x with
      | true =>
        have HQ := Lib.hid hq
        rw [hq] at hcall
        clear hq
        go_wp2_with (go_at_fn fn; refine hcall.mono ?_; rintro e w' ⟨rfl, hb'⟩)
        go_ret
        exact ⟨j, rfl, .inr ⟨j, x, rfl, HX.out, HQ.out, hf.out⟩, HB.out.trans (hb'.mono HB.out.size)⟩
      | false =>
        have HQ := Lib.hid hq
        rw [hq] at hcall
        clear hq
        go_wp2_with (go_at_fn fn; refine hcall.mono ?_; rintro e w' ⟨rfl, hb'⟩)
        go_roundw
        case rel => exact ⟨j + 1, by omega, by go_num, Lib.hid (fun k y hk hy => by
          by_cases e : k = j
          · subst e; rw [HX.out] at hy; injection hy with hy; rw [← hy]; exact HQ.out
          · exact hf.out k y (by omega) hy), HB.out.trans (hb'.mono HB.out.size)⟩
        case measure => simp [intOf]; omega
    · obtain rfl : j = L.length := by omega
      have hlt2 : decide ((L.length : Int) < (L.length : Int)) = false := by simp
      go_wp2_with fail
      go_ret
      exact ⟨_, rfl, .inl ⟨rfl, fun x hx => by
        obtain ⟨k, hk⟩ := List.getElem?_of_mem hx
        exact hf.out k x (List.getElem?_eq_some_iff.1 hk).1 hk⟩, bk⟩
theorem ev_put1 {w : World} {base g n c i f : Nat} {M : List Ev} {z z' : Ev} {u : Value} (h : ERow w base (.slice (some ⟨g, 0, none⟩) n c) M) (hn : M.length = n) (hz : M[i]? = some z) (hf : f < 5) (hu : (evOne z).set f u = evOne z') :
    ERow (w.setCell ⟨g, i * 5 + f, none⟩ u) base (.slice (some ⟨g, 0, none⟩) n c) (M.set i z') ∧ w.grownBy (w.setCell ⟨g, i * 5 + f, none⟩ u) (some g) ∧ (M.set i z')[i]? = some z' := by
  subst hn
  obtain ⟨h1, h2⟩ := World.ownsRow.stored h (i * 5 + f) u
  rw [cellsK_set evOne_len M i f z z' u hz hf hu] at h1
  refine ⟨?_, h2, List.getElem?_set_self (List.getElem?_eq_some_iff.1 hz).1⟩
  unfold ERow
  rw [List.length_set]; exact h1
/-- An element laid over another one. -/
theorem ev_put {w : World} {base g n c i : Nat} {M : List Ev} {z x : Ev} (h : ERow w base (.slice (some ⟨g, 0, none⟩) n c) M) (hn : M.length = n) (hz : M[i]? = some z) :
    ERow ((((((w).setCell ⟨g, i * 5, none⟩ (.int .i64 x.ses)).setCell ⟨g, i * 5 + 1, none⟩ (.int .i64 x.no)).setCell ⟨g, i * 5 + 2, none⟩ (.string x.path)).setCell ⟨g, i * 5 + 3, none⟩ (.int .i64 x.what)).setCell ⟨g, i * 5 + 4, none⟩ (.int .i64 x.when)) base (.slice (some ⟨g, 0, none⟩) n c) (M.set i x) ∧ w.grownBy ((((((w).setCell ⟨g, i * 5, none⟩ (.int .i64 x.ses)).setCell ⟨g, i * 5 + 1, none⟩ (.int .i64 x.no)).setCell ⟨g, i * 5 + 2, none⟩ (.string x.path)).setCell ⟨g, i * 5 + 3, none⟩ (.int .i64 x.what)).setCell ⟨g, i * 5 + 4, none⟩ (.int .i64 x.when)) (some g) := by
  have q0 := hz
  obtain ⟨r1, g1, q1⟩ := ev_put1 (f := 0) (z' := { z with ses := x.ses }) (u := .int .i64 x.ses) h (by simp [hn]) q0 (by decide) rfl
  obtain ⟨r2, g2, q2⟩ := ev_put1 (f := 1) (z' := { ({ z with ses := x.ses }) with no := x.no }) (u := .int .i64 x.no) r1 (by simp [hn]) q1 (by decide) rfl
  obtain ⟨r3, g3, q3⟩ := ev_put1 (f := 2) (z' := { ({ ({ z with ses := x.ses }) with no := x.no }) with path := x.path }) (u := .string x.path) r2 (by simp [hn]) q2 (by decide) rfl
  obtain ⟨r4, g4, q4⟩ := ev_put1 (f := 3) (z' := { ({ ({ ({ z with ses := x.ses }) with no := x.no }) with path := x.path }) with what := x.what }) (u := .int .i64 x.what) r3 (by simp [hn]) q3 (by decide) rfl
  obtain ⟨r5, g5, q5⟩ := ev_put1 (f := 4) (z' := { ({ ({ ({ ({ z with ses := x.ses }) with no := x.no }) with path := x.path }) with what := x.what }) with when := x.when }) (u := .int .i64 x.when) r4 (by simp [hn]) q4 (by decide) rfl
  simp only [List.set_set] at r1 r2 r3 r4 r5
  refine ⟨?_, ?_⟩
  · exact r5
  · exact grownBy_trans (grownBy_trans (grownBy_trans (grownBy_trans (g1) g2) g3) g4) g5
set_option maxHeartbeats 16000000 in
theorem del_ev (fn : Nat) (cb : Array Value) (eg : ∀ args w, (callFunc fn args).run Tryz.prog w = .ok (.enter fn args) w) (p : Ev → Bool) (base : Nat) (v : Value) (L : List Ev) (w : World) (hL : L.length ≤ 100000) (hr : ERow w base v L)
    (hp : ∀ W x, w.grownBy W v.ownBlock → Calls Tryz.prog fn (#[evV x] ++ cb) W fun e W' => e = .returned (.bool (p x)) ∧ Below W.heap.size W W') :
    Calls Tryz.prog 49 #[v, .func (.func fn) #[] cb] w fun e w' => ∃ v', e = .returned v' ∧ ERow w' base v' (L.filter fun x => !p x) ∧ v'.ownBlock = v.ownBlock ∧ w.grownBy w' v.ownBlock := by
  have HI := Lib.hid (ixf_ev fn cb eg p base v L w hL hr (fun W x hW => hp W x (below_grownBy hW _)))
  have HR := Lib.hid hr
  have HP := Lib.hid hp
  obtain ⟨a, c, rfl, hga, hlc⟩ := evV_form hr
  have HG := Lib.hid hga
  clear hr hp hga
  go_enter Tryz.func49, Tryz.ntmps49
  go_wp2_with fail
  refine HI.out.mono ?_
  rintro e w1 ⟨z, rfl, hz, b1⟩
  rcases hz with ⟨rfl, hall⟩ | ⟨k, x, rfl, hx, hpx, hlow⟩
  · have HF : Hid (L.filter (fun x => !p x) = L) := Lib.hid (List.filter_eq_self.2 fun x hx => by rw [hall x hx]; rfl)
    go_wp2_with fail
    go_ret
    rw [HF.out]
    exact ⟨_, rfl, HR.out.below b1, rfl, below_grownBy b1 _⟩
  · have hkl := (List.getElem?_eq_some_iff.1 hx).1
    obtain ⟨g, rfl, hgw, hbg⟩ := HG.out (by omega)
    have hne : ((k : Int) == -1) = false := beq_eq_false_iff_ne.2 (by omega)
    have t1 : IntKind.i64.wrap ((k : Int) + 1) = (k : Int) + 1 := IntWalk.i64_in _ (by omega)
    have HS := Lib.hid (DelI.start hx hpx hlow)
    have R1 := HR.out.below b1
    have g1 := below_grownBy b1 (some g)
    have HKL := Lib.hid hkl
    clear hx hpx hlow b1 hkl HI HG
    go_wp2_with fail
    go_loopw [5, 6, 7] (fun iv jv _ wr => ∃ (i j : Nat) (M : List Ev), iv = .int .i64 i ∧ jv = .int .i64 j ∧ Hid (DelI (fun y => !p y) L M i j) ∧ Hid (ERow wr base (.slice (some ⟨g, 0, none⟩) L.length c) M) ∧ Hid (w.grownBy wr (some g))) (fun _ jv _ _ => L.length - (intOf jv).toNat)
    case atStart => exact ⟨k, k + 1, L, rfl, by go_num, HS, Lib.hid R1, Lib.hid g1⟩
    case round =>
      obtain ⟨i, j, M, rfl, rfl, HD, HM, HGr⟩ := hrel
      clear R1 g1
      have hij := HD.out.ij
      have hjl := HD.out.jl
      have hlen := HD.out.len
      by_cases hlt : j < L.length
      · have hlt2 : decide ((j : Int) < (L.length : Int)) = true := by simp; omega
        obtain ⟨y, hy⟩ : ∃ y, L[j]? = some y := ⟨L[j], by simp [hlt]⟩
        have hyM : M[j]? = some y := (HD.out.tail j (Nat.le_refl _)).trans hy
        have x0 := evC0 HM.out hyM (by rw [hlen])
        have x1 := evC1 HM.out hyM (by rw [hlen])
        have x2 := evC2 HM.out hyM (by rw [hlen])
        have x3 := evC3 HM.out hyM (by rw [hlen])
        have x4 := evC4 HM.out hyM (by rw [hlen])
        have hj0 : (0 : Int) ≤ (j : Int) := by omega
        have hji : (j : Int) < (L.length : Int) := by omega
        have t2 : IntKind.i64.wrap ((j : Int) + 1) = (j : Int) + 1 := IntWalk.i64_in _ (by omega)
        have t3 : IntKind.i64.wrap ((i : Int) + 1) = (i : Int) + 1 := IntWalk.i64_in _ (by omega)
        have bA := (Below.refl _ wr).alloc (Nat.le_refl _) (.cells #[.int .i64 y.ses, .int .i64 y.no, .string y.path, .int .i64 y.what, .int .i64 y.when] 54)
        have NA := heap_alloc_new wr (.cells #[.int .i64 y.ses, .int .i64 y.no, .string y.path, .int .i64 y.what, .int .i64 y.when] 54)
        have HY := Lib.hid hy
        have HLEN := Lib.hid hlen
        have HIJ : Hid (i < j ∧ j < L.length) := Lib.hid ⟨hij, hlt⟩
        clear hy hyM hlen hjl
        go_upto_region 8 with fail
        obtain ⟨w5, hw5⟩ : ∃ w5, w5 = wr.alloc (.cells #[.int .i64 y.ses, .int .i64 y.no, .string y.path, .int .i64 y.what, .int .i64 y.when] 54) := ⟨_, rfl⟩
        rw [← hw5] at bA NA ⊢
        have hgwr : g < wr.heap.size := Nat.lt_of_lt_of_le hgw HGr.out.size
        have hlt5 : wr.heap.size < w5.heap.size := (Array.getElem?_eq_some_iff.1 NA).1
        have n0 : w5.cell? ⟨wr.heap.size, 0, none⟩ = some (.int .i64 y.ses) := by simp [World.cell?, NA]
        have n1 : w5.cell? ⟨wr.heap.size, 1, none⟩ = some (.int .i64 y.no) := by simp [World.cell?, NA]
        have n2 : w5.cell? ⟨wr.heap.size, 2, none⟩ = some (.string y.path) := by simp [World.cell?, NA]
        have n3 : w5.cell? ⟨wr.heap.size, 3, none⟩ = some (.int .i64 y.what) := by simp [World.cell?, NA]
        have n4 : w5.cell? ⟨wr.heap.size, 4, none⟩ = some (.int .i64 y.when) := by simp [World.cell?, NA]
        have R5 := HM.out.below bA
        have G5 := grownBy_trans HGr.out (below_grownBy bA _)
        have hcall := HP.out w5 y G5
        unfold evV at hcall
        have HR5 := Lib.hid R5
        have HG5 := Lib.hid G5
        have HN5 := Lib.hid NA
        clear hw5 R5 G5 NA bA x0 x1 x2 x3 x4
        cases hq : p y with
        | true =>
          have HQ := Lib.hid hq
          rw [hq] at hcall
          clear hq
          go_wp2_with (go_at_fn fn; refine hcall.mono ?_; rintro e w6 ⟨rfl, b6⟩)
          go_roundw
          case rel => exact ⟨i, j + 1, M, rfl, by go_num, Lib.hid (HD.out.skip HY.out (by rw [HQ.out]; rfl)), Lib.hid (HR5.out.below b6), Lib.hid (grownBy_trans HG5.out (below_grownBy b6 _))⟩
          case measure => have := HIJ.out; simp [intOf]; omega
        | false =>
          have HQ := Lib.hid hq
          rw [hq] at hcall
          clear hq
          obtain ⟨z, hz⟩ : ∃ z, M[i]? = some z := ⟨M[i]'(by have := HLEN.out; omega), by simp⟩
          have HZ := Lib.hid hz
          clear hz
          have hi0 : (0 : Int) ≤ (i : Int) := by omega
          have hil : (i : Int) < (L.length : Int) := by omega
          go_wp2_with (
            go_at_fn fn
            refine hcall.mono ?_
            rintro e w6 ⟨rfl, b6⟩
            have R6 := HR5.out.below b6
            have N6 := (b6.block wr.heap.size hlt5).trans HN5.out
            have m0 : w6.cell? ⟨wr.heap.size, 0, none⟩ = some (.int .i64 y.ses) := by simp [World.cell?, N6]
            have m1 : w6.cell? ⟨wr.heap.size, 1, none⟩ = some (.int .i64 y.no) := by simp [World.cell?, N6]
            have m2 : w6.cell? ⟨wr.heap.size, 2, none⟩ = some (.string y.path) := by simp [World.cell?, N6]
            have m3 : w6.cell? ⟨wr.heap.size, 3, none⟩ = some (.int .i64 y.what) := by simp [World.cell?, N6]
            have m4 : w6.cell? ⟨wr.heap.size, 4, none⟩ = some (.int .i64 y.when) := by simp [World.cell?, N6]
            have z0 := evC0 R6 HZ.out (by rw [HLEN.out])
            have z1 := evC1 R6 HZ.out (by rw [HLEN.out])
            have z2 := evC2 R6 HZ.out (by rw [HLEN.out])
            have z3 := evC3 R6 HZ.out (by rw [HLEN.out])
            have z4 := evC4 R6 HZ.out (by rw [HLEN.out])
            have hfz : ∀ q, w6.frozen? ⟨g, q, none⟩ = false := fun q => by
              have R7 := R6
              unfold ERow at R7
              rw [← HLEN.out] at R7
              exact World.ownsRow.frozenAt R7 q
            have f0 := hfz (i * 5)
            have f1 := hfz (i * 5 + 1)
            have f2 := hfz (i * 5 + 2)
            have f3 := hfz (i * 5 + 3)
            have f4 := hfz (i * 5 + 4)
            have hne6 : ¬ wr.heap.size = g := by omega
            have hne7 : ¬ g = wr.heap.size := by omega
            have HR6 := Lib.hid R6
            have HG6 := Lib.hid (grownBy_trans HG5.out (below_grownBy b6 (some g)))
            clear R6 N6 hfz b6 hcall)
          go_roundw
          case rel => exact ⟨i + 1, j + 1, M.set i y, by go_num, by go_num, Lib.hid (HD.out.keep HY.out (by rw [HQ.out]; rfl)), Lib.hid (ev_put HR6.out HLEN.out HZ.out).1, Lib.hid (grownBy_trans HG6.out (ev_put HR6.out HLEN.out HZ.out).2)⟩
          case measure => have := HIJ.out; simp [intOf]; omega
      · obtain rfl : j = L.length := by omega
        have hlt2 : decide ((L.length : Int) < (L.length : Int)) = false := by simp
        have R5 := HM.out
        unfold ERow at R5
        rw [hlen] at R5
        obtain ⟨hl5, ⟨_, h0⟩ | ⟨g', c', cur, hv, hbg', hg', hnc, hcm, hcs, htk⟩⟩ := R5
        · omega
        · injection hv with hv1 _ hv2
          injection hv1 with hv1
          injection hv1 with hv1 _ _
          subst hv1 hv2
          have hsz : ∀ m, (Builtin.zeroCells (Value.agg #[.int .i64 0, .int .i64 0, .string ⟨#[]⟩, .int .i64 0, .int .i64 0]).cells m).toList.length = m * 5 := fun m => by simp [Builtin.zeroCells, Value.cells]
          obtain ⟨C, hC⟩ : ∃ C : Array Value, C = (cur.toList.take (i * 5) ++ (Builtin.zeroCells (Value.agg #[.int .i64 0, .int .i64 0, .string ⟨#[]⟩, .int .i64 0, .int .i64 0]).cells (L.length - i)).toList ++ cur.toList.drop (i * 5 + (Builtin.zeroCells (Value.agg #[.int .i64 0, .int .i64 0, .string ⟨#[]⟩, .int .i64 0, .int .i64 0]).cells (L.length - i)).toList.length)).toArray := ⟨_, rfl⟩
          have hcl : ∀ ty, (Builtin.clear_ #[29] ty #[.slice (some ⟨g, i * 5, none⟩) (L.length - i) (c - i)]).run Tryz.prog wr = .ok (.tuple #[]) (wr.setRow g C) := fun ty => by
            rw [hC]
            exact clearK wr 29 ty 54 (Value.agg #[.int .i64 0, .int .i64 0, .string ⟨#[]⟩, .int .i64 0, .int .i64 0]) g (i * 5) (L.length - i) (c - i) cur 54 und_evs (fun w => by kernel_rfl) hg' (by omega) (by rw [hcs]; show i * 5 + (L.length - i) * 5 ≤ c * 5; omega) (fun u hu => by
              simp [Builtin.zeroCells, Value.cells] at hu
              obtain ⟨q, hq, rfl⟩ := hu
              have : q % 5 < 5 := Nat.mod_lt _ (by decide)
              generalize q % 5 = r at this
              match r, this with
              | 0, _ => rfl
              | 1, _ => rfl
              | 2, _ => rfl
              | 3, _ => rfl
              | 4, _ => rfl)
          have hCs : C.size = c * 5 := by
            have := hsz (L.length - i)
            rw [hC, List.size_toArray, List.length_append, List.length_append, List.length_take, List.length_drop, this, Array.length_toList, hcs]; omega
          have hcnt := HD.out.cnt
          rw [List.take_length] at hcnt
          have hCt : C.toList.take (i * 5) = cellsK evOne (L.filter fun y => !p y) := by
            have h1 : M.take i = L.filter (fun y => !p y) := by have := HD.out.head; rwa [List.take_length] at this
            rw [← h1, ← cellsK_take evOne_len, ← htk, List.take_take, Nat.min_eq_left (by omega), hC, List.append_assoc, List.take_append_of_le_length (by rw [List.length_take, Array.length_toList, hcs]; omega), List.take_take, Nat.min_eq_left (by omega)]
          have HFIN : Hid (ERow (wr.setRow g C) base (.slice (some ⟨g, 0, none⟩) i c) (L.filter fun y => !p y) ∧ w.grownBy (wr.setRow g C) (some g)) := Lib.hid ⟨by
            unfold ERow
            rw [hcnt]
            exact ⟨by rw [cellsK_len evOne_len, hcnt], .inr ⟨g, c, C, rfl, hbg', setRow_heap _ _ _ _ _ _ hg', by omega, hcm, hCs, hCt⟩⟩, grownBy_trans HGr.out ⟨rfl, rfl, rfl, by simp [World.setRow], fun q hq hne => setRow_other _ _ _ _ (fun e => hne (by rw [e]))⟩⟩
          have hi0 : (0 : Int) ≤ (i : Int) := by omega
          have hil : (i : Int) ≤ (L.length : Int) := by omega
          have hci : ¬ (c = i) := by omega
          have hic : (i : Int) ≤ (c : Int) := by omega
          clear hC hCs hCt hcnt hsz hl5 hg' hcs htk hlen hij hjl
          go_wp2_with fail
          go_ret
          exact ⟨_, rfl, HFIN.out.1, rfl, HFIN.out.2⟩
end Go.Proofs.YtbbdokfankgllaaGreatDoor
