/- A slice of bools that came in; a tree of numbered nodes of which some went. No conditions beyond those in each statement. -/
import Derived.Test.YtnobblfjhhngiaaDoorTreeDelete
import Derived.Test.YtnobblfjhhngiaaDoorPathArgs
import Derived.Deep.Grids
namespace Go.Proofs.YtnobblfjhhngiaaDoor
open Go.ChangeShapes Go.WideShapes Go.ChangeAt Go.RowKit Go.Maps
set_option linter.unusedVariables false
set_option maxRecDepth 100000

theorem und_bool9 : Tryd.prog.underlying 4 = some .bool := by kernel_rfl
theorem und_bools9 : Tryd.prog.underlying 35 = some (.slice 4) := by kernel_rfl
/-- A slice of bools that can be read. -/
def BoolsR (w : World) (v : Value) (z : Nat × (Nat → Bool)) : Prop :=
  ∃ a cap, v = .slice a z.1 cap ∧ z.1 ≤ cap ∧ cap ≤ maxLen ∧ (z.1 = 0 ∨ ∃ g off, a = some ⟨g, off, none⟩ ∧ g < w.heap.size ∧ ∀ j, j < z.1 → w.cell? ⟨g, off + j, none⟩ = some (.bool (z.2 j)))
theorem BoolsR.below {w x : World} {v : Value} {z : Nat × (Nat → Bool)} (h : BoolsR w v z) (hb : Below w.heap.size w x) : BoolsR x v z := by
  obtain ⟨a, cap, hv, hm, hc', h⟩ := h
  refine ⟨a, cap, hv, hm, hc', h.imp id ?_⟩
  rintro ⟨g, off, ha, hg, hc⟩
  exact ⟨g, off, ha, Nat.lt_of_lt_of_le hg hb.size, fun j hj => (hb.cell (p := ⟨g, off + j, none⟩) hg).trans (hc j hj)⟩
section
variable {H : Type} {enc : TypeId × Value → H} {W : World} {base b0 : Nat} {held : Bool} {v : Value} {d : DataW H} {p : List MemPlace}
theorem bools_of (hv : Value.okWide Tryd.prog W .any b0 35 v) (h : DataW.Trod enc Tryd.prog W base (fun _ => true) held 35 v d p) : ∃ z, BoolsR W v z := by
  obtain ⟨a, len, cap, rfl⟩ := okWide_slice und_bools9 hv
  obtain ⟨fuel, hf⟩ := h
  rcases Go.Deep.open_bools und_bools9 und_bool9 (by kernel_rfl) hf with ⟨hcs, _⟩ | ⟨x, l, c, B, hcs, _, hl, hm, _, hcell⟩
  · simp [Value.cells] at hcs
    obtain ⟨rfl, rfl, rfl⟩ := hcs
    exact ⟨(0, fun _ => false), none, 0, rfl, Nat.le_refl _, by decide, .inl rfl⟩
  · simp [Value.cells] at hcs
    obtain ⟨rfl, rfl, rfl⟩ := hcs
    refine ⟨(len, B), some x, cap, rfl, hl, hm, ?_⟩
    by_cases h0 : len = 0
    · exact .inl h0
    · obtain ⟨b, off, spot⟩ := x
      have hc0 := hcell 0 (by omega)
      have hspot : spot = none := by simpa [Addr.add] using World.cell?_spot hc0
      subst hspot
      have hadd : ∀ j : Nat, (Addr.add ⟨b, off, none⟩ j : Addr) = ⟨b, off + j, none⟩ := fun j => by simp [Addr.add]
      refine .inr ⟨b, off, rfl, ?_, fun j hj => ?_⟩
      · rw [hadd] at hc0
        exact World.block_lt_of_cell? W _ hc0
      · have := hcell j (by simp at hj; omega)
        rw [hadd] at this
        exact this
end
/-- The root behind k creations. -/
def rootB (k : Nat) (b : Int) : Nd := ⟨⟨#[]⟩, 0, b, 0, 0, 0, (k : Int)⟩
structure SInv (k : Nat) (b : Int) (T : List UInt8 → Option Nd) : Prop where
  root : T [47] = some (rootB k b)
  keys : ∀ x n, T x = some n → x = [47] ∨ ∃ i, i < k ∧ x = nP i
  small : SmallT T
theorem SInv.new : SInv 0 0 rootT := by
  refine ⟨rfl, fun x n h => ?_, small_root⟩
  by_cases e : x = [47]
  · exact .inl e
  · rw [rootT, updN_other e] at h; cases h
theorem SInv.noneAt {k : Nat} {b : Int} {T : List UInt8 → Option Nd} (h : SInv k b T) (hk : k ≤ 100) : T (nP k) = Option.none := by
  cases e : T (nP k) with
  | none => rfl
  | some n =>
    rcases h.keys _ _ e with h1 | ⟨i, hi, h1⟩
    · exact absurd h1 (nP_ne k)
    · have := nP_inj (i := k) (j := i) (by omega) (by omega) h1; omega
/-- The nodes behind a creation. -/
def oneS (T : List UInt8 → Option Nd) (k : Nat) (b : Int) (o : Int) : List UInt8 → Option Nd := updN (updN T [47] (some (rootB (k + 1) (b + 1)))) (nP k) (some (newC ⟨#[]⟩ o ((k : Int) + 1)))
theorem SInv.one {k : Nat} {b : Int} {T : List UInt8 → Option Nd} (h : SInv k b T) (hb : 0 ≤ b ∧ b ≤ 1000) (hk : k ≤ 90) (o : Int) : SInv (k + 1) (b + 1) (oneS T k b o) := by
  refine ⟨?_, fun x n hx => ?_, ?_⟩
  · unfold oneS; rw [updN_other (fun e => nP_ne k e.symm), updN_same]
  · unfold oneS at hx
    by_cases e : x = nP k
    · exact .inr ⟨k, by omega, e⟩
    · rw [updN_other e] at hx
      by_cases e2 : x = [47]
      · exact .inl e2
      · rw [updN_other e2] at hx
        rcases h.keys _ _ hx with h1 | ⟨i, hi, h1⟩
        · exact .inl h1
        · exact .inr ⟨i, by omega, h1⟩
  · exact SmallT.upd (SmallT.upd h.small _ _ (by unfold rootB; simp; omega)) _ _ (by unfold newC; simp)
theorem SInv.ok {k : Nat} {b : Int} {T : List UInt8 → Option Nd} (h : SInv k b T) : KeysOk T := fun x n hx => by
  rcases h.keys _ _ hx with h1 | ⟨i, _, h1⟩
  · rw [h1]; exact root_check
  · rw [h1]; exact nP_check i
theorem SInv.up {k : Nat} {b : Int} {T : List UInt8 → Option Nd} (h : SInv k b T) (j : Nat) : ∀ x n, T x = some n → upP x ≠ nP j := fun x n hx => by
  rcases h.keys _ _ hx with h1 | ⟨i, _, h1⟩
  · rw [h1]; intro e; have := congrArg List.length e; rw [nP_len] at this; exact absurd this (by decide)
  · rw [h1, nP_up]; exact fun e => nP_ne j e.symm
theorem SInv.create {k : Nat} {b : Int} {T : List UInt8 → Option Nd} (h : SInv k b T) (hk : k ≤ 90) (c : Nat) (hc : c < 60) (o : Int) : createN T c [47, 110] ⟨#[]⟩ o ((k : Int) + 1) true = ⟨nP k, 0, oneS T k b o, c + 1⟩ := by
  have hp := place_n T (rootB k b) h.root rfl
  have hpath : pathC [47, 110] (rootB k b) true = nP k := by unfold pathC rootB nP; simp
  have hg : getN T (nP k) = (Nd.zero, 11) := by unfold getN; rw [nP_check, h.noneAt (by omega)]; rfl
  unfold createN
  rw [hp]
  simp only [hpath, hg]
  rw [if_neg (by decide), if_neg (by decide), if_neg (by decide), if_neg (by omega)]
  rfl
/-- The nodes behind that one's going. -/
theorem SInv.less {k : Nat} {b : Int} {T : List UInt8 → Option Nd} (h : SInv (k + 1) (b + 1) T) (hb : 0 ≤ b ∧ b ≤ 1000) (hk : k ≤ 90) : SInv (k + 1) (b + 1 + 1) (lessN T (nP k) (rootB (k + 1) (b + 1))) := by
  unfold lessN
  rw [nP_up]
  refine ⟨?_, fun x n hx => ?_, ?_⟩
  · rw [updN_same]; rfl
  · by_cases e2 : x = [47]
    · exact .inl e2
    · rw [updN_other e2] at hx
      by_cases e : x = nP k
      · exact .inr ⟨k, by omega, e⟩
      · rw [updN_other e] at hx
        exact h.keys _ _ hx
  · intro x n hx
    by_cases e2 : x = [47]
    · rw [e2, updN_same] at hx
      cases hx
      unfold upC rootB; simp; omega
    · rw [updN_other e2] at hx
      by_cases e : x = nP k
      · rw [e, updN_same] at hx; cases hx
      · rw [updN_other e] at hx; exact h.small x n hx
theorem ser_n (j : Nat) (hj : j < 100) (W : World) : Calls Tryd.prog 11 #[.string (bs [47, 110]), .int .i64 (j : Int)] W fun e w' => e = .returned (.string (bs (nP j))) ∧ Below W.heap.size W w' := by
  have := serial_small (bs [47, 110]) j W (by decide) (by omega)
  rw [bs_list, serialL_dig _ _ (by omega)] at this
  exact this
end Go.Proofs.YtnobblfjhhngiaaDoor
