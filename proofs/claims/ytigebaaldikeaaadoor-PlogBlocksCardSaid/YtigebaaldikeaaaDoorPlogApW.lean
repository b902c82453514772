/- Append in a later world than that which the log is known in; Cut, Drop that are refused; an entry that came in. No conditions beyond those in each statement. -/
import Derived.Test.YtigebaaldikeaaaDoorPlogShow
import Derived.Test.YtigebaaldikeaaaDoorPlogArg
import Derived.Test.YtigebaaldikeaaaDoorSlotArgs
namespace Go.Proofs.YtigebaaldikeaaaDoor
open Go.ChangeShapes Go.WideShapes Go.ChangeAt Go.RowKit
open Go.ChangeMaps (open_string shut_string)
set_option linter.unusedVariables false
set_option maxRecDepth 100000

section
variable {n : Nat} {E : Nat → Prop} {w : World} {b B bt bd M k : Nat} {base size first : Int} {xs : List En} {D : Dv}
theorem ens_made {W : World} {v : Value} {ys : List En} (h : Lw n E w b B bt bd M base size first xs k D) (hv : EnS (Made E b bt bd w W) W v ys) : EnS (But (fun j => E j ∨ (w.heap.size ≤ j ∧ j < W.heap.size)) b bt bd) W v ys := by
  obtain ⟨_, l1, l2, l3⟩ := h.own
  refine hv.wide ?_
  rintro j (⟨h1, h2⟩ | h1)
  · exact ⟨.inl h1, h2⟩
  · exact ⟨.inr h1, by omega, by omega, by omega⟩
theorem made_but {W : World} (h : Lw n E w b B bt bd M base size first xs k D) : ∀ j, Made E b bt bd w W j → But (fun j => E j ∨ (w.heap.size ≤ j ∧ j < W.heap.size)) b bt bd j := by
  obtain ⟨_, l1, l2, l3⟩ := h.own
  rintro j (⟨h1, h2⟩ | h1)
  · exact ⟨.inl h1, h2⟩
  · exact ⟨.inr h1, by omega, by omega, by omega⟩
theorem Lw.growAll {W : World} (h : Lw n E w b B bt bd M base size first xs k D) (hb : Below w.heap.size w W) : Lw n (fun j => E j ∨ (w.heap.size ≤ j ∧ j < W.heap.size)) W b B bt bd M base size first xs k D := by
  obtain ⟨T, h1, h2, h3⟩ := h; exact ⟨T, h1.growAll hb, h2, h3⟩
theorem lw_appW (h : Lw n E w b B bt bd M base size first xs k D) (hM : M ≤ 4096) (W : World) (hb : Below w.heap.size w W) (v : Value) (ys : List En) (hv : EnS (Made E b bt bd w W) W v ys) (hy : ∀ (j : Nat) (y : En), ys[j]? = some y → y.index = first + (xs.length : Int) + (j : Int) ∧ y.ok = true)
    (hr : (xs.length : Int) + (ys.length : Int) ≤ size) (hn : n ≤ w.heap.size) (ht : ∀ x, Below n w x → Tabs x) (hk : k < 900000000) :
    Calls Tryd.prog 37 #[.pointer (some ⟨b, 0, none⟩), v] W fun e w' => e = .returned (.int .i64 0) ∧ (∃ D', Lw n (fun j => E j ∨ (w.heap.size ≤ j ∧ j < W.heap.size)) w' b B bt bd M base size first (xs ++ ys) (k + ys.length) D' ∧ (Unsp D → Unsp D')) ∧ Below n W w' ∧ Kept (Made E b bt bd w W) W w' := by
  refine (lw_append (h.growAll hb) hM v ys (ens_made h hv) hy hr (Nat.le_trans hn hb.size) (fun x hx => ht x ((hb.mono hn).trans hx)) hk).mono ?_
  rintro e w' ⟨rfl, hD, hbl, hk'⟩
  exact ⟨rfl, hD, hbl, hk'.mono (made_but h)⟩
theorem lw_appX (h : Lw n E w b B bt bd M base size first xs k D) (hM : M ≤ 4096) (W : World) (hb : Below w.heap.size w W) (v : Value) (ys : List En) (hv : EnS (Made E b bt bd w W) W v ys) (hf : ∀ y ∈ ys, y.Fits) (c : Int) (hc : c ≠ 0) (hV : D.app ⟨base, size, first, xs.length⟩ ys = (c, D))
    (hn : n ≤ w.heap.size) (ht : ∀ x, Below n w x → Tabs x) (hk : k < 900000000) :
    Calls Tryd.prog 37 #[.pointer (some ⟨b, 0, none⟩), v] W fun e w' => e = .returned (.int .i64 c) ∧ Lw n (fun j => E j ∨ (w.heap.size ≤ j ∧ j < W.heap.size)) w' b B bt bd M base size first xs (k + ys.length) D ∧ Below n W w' ∧ Kept (Made E b bt bd w W) W w' := by
  obtain ⟨T, h1, h2, h3⟩ := id h
  refine (pappend_any v ys (h1.growAll hb) (ens_made h hv) hf (Nat.le_trans hn hb.size) (fun x hx => ht x ((hb.mono hn).trans hx)) (by rw [h2.calm.writes]; decide) (lg_fit h2 hM) hk (c, D) hV.symm _ _ (by rw [if_neg hc]) (by rw [if_neg hc])).mono ?_
  rintro e w' ⟨rfl, W', hbl, hk'⟩
  exact ⟨rfl, ⟨T, W', h2, h3⟩, hbl, hk'.mono (made_but h)⟩
theorem lw_cutX (h : Lw n E w b B bt bd M base size first xs k D) (hM : M ≤ 4096) (f : Int) (hf : InR f) (hx : f < first ∨ first + (xs.length : Int) < f) (hn : n ≤ w.heap.size) (ht : ∀ x, Below n w x → Tabs x) :
    Calls Tryd.prog 39 #[.pointer (some ⟨b, 0, none⟩), .int .i64 f] w fun e w' => e = .returned (.int .i64 1) ∧ Lw n E w' b B bt bd M base size first xs k D ∧ Below n w w' ∧ Kept (But E b bt bd) w w' := by
  obtain ⟨T, h1, h2, h3⟩ := h
  have hh : (⟨base, size, first, xs.length⟩ : Lg).hasNext f = false := by simp [Lg.hasNext]; omega
  refine (pcut_any f h1 hn ht (by rw [h2.calm.writes]; decide) (lg_fit h2 hM) hf (1, D) (by rw [hh]; rfl) _ _ _ (by rw [if_neg (show ¬ (1 : Int) = 0 by decide)]) (by rw [if_neg (show ¬ (1 : Int) = 0 by decide)]) (by rw [if_neg (show ¬ (1 : Int) = 0 by decide)])).mono ?_
  rintro e w' ⟨rfl, W', hbl, hk'⟩
  exact ⟨rfl, ⟨T, W', h2, h3⟩, hbl, hk'⟩
theorem lw_dropX (h : Lw n E w b B bt bd M base size first xs k D) (hM : M ≤ 4096) (f : Int) (hf : InR f) (hx : f < first ∨ first + (xs.length : Int) < f) (hn : n ≤ w.heap.size) :
    Calls Tryd.prog 40 #[.pointer (some ⟨b, 0, none⟩), .int .i64 f] w fun e w' => e = .returned (.int .i64 1) ∧ Lw n E w' b B bt bd M base size first xs k D ∧ Below n w w' ∧ Kept (But E b bt bd) w w' := by
  obtain ⟨T, h1, h2, h3⟩ := h
  have hh : (⟨base, size, first, xs.length⟩ : Lg).hasNext f = false := by simp [Lg.hasNext]; omega
  refine (pdrop_any f h1 hn (lg_fit h2 hM) hf).mono ?_
  rintro e w' ⟨rfl, W', hbl, hk'⟩
  rw [hh] at W' ⊢
  exact ⟨rfl, ⟨T, W', h2, h3⟩, hbl, hk'⟩
end
section
variable {H : Type} {enc : TypeId × Value → H} {W : World} {base b0 : Nat} {spare : Nat → Bool} {held : Bool} {v : Value} {d : DataW H} {p : List MemPlace}
theorem en_of (hv : Value.okWide Tryd.prog W .any b0 60 v) (h : DataW.Trod enc Tryd.prog W base spare held 60 v d p) : ∃ x : En, v = enV x ∧ x.Fits := by
  obtain ⟨v0, v1, v2, y0, y1, y2, n, rfl, rfl, rfl, h0, h1, h2⟩ := Joins.open_agg3 Tryd.underlying60 (by kernel_rfl) (by kernel_rfl) hv h
  obtain ⟨k, hk, _, wk⟩ := DataW.trod_int Tryd.underlying3 h0
  obtain ⟨i, hi, _, wi⟩ := DataW.trod_int Tryd.underlying3 h1
  obtain ⟨s, hs, _, ws⟩ := DataW.trod_string Tryd.underlying9 h2
  obtain rfl := List.head_eq_of_cons_eq hk
  obtain rfl := List.head_eq_of_cons_eq hi
  obtain rfl := List.head_eq_of_cons_eq hs
  exact ⟨⟨k, i, s⟩, rfl, ⟨i64_wf wk, i64_wf wi, ws⟩⟩
end
end Go.Proofs.YtigebaaldikeaaaDoor
