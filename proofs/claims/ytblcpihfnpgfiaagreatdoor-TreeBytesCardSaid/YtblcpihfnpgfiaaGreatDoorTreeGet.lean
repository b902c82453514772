/- New, Get, Len and Check of a tree. No conditions beyond those in each statement. -/
import Derived.Test.YtblcpihfnpgfiaaGreatDoorTreeMap
import Derived.Deep.RegionHeld3
import Derived.Outline
namespace Go.Proofs.YtblcpihfnpgfiaaGreatDoor
open Go.RowKit Go.Maps
set_option linter.unusedVariables false
set_option linter.unusedSimpArgs false
set_option maxRecDepth 100000

/-- A tree in memory: its block, its map's block. -/
structure TrW (w : World) (tb mb k c : Nat) (T : List UInt8 → Option Nd) : Prop where
  tree : w.heap[tb]? = some (.cells #[.map (some mb)] 70 (0, 0))
  map : MapN w mb k c T
section
variable {w w' : World} {tb mb k c : Nat} {T : List UInt8 → Option Nd}
theorem TrW.ne (h : TrW w tb mb k c T) : tb ≠ mb := by
  rintro rfl
  obtain ⟨D, ⟨es, clock, hb, _⟩, _⟩ := h.map
  have := h.tree.symm.trans hb
  cases this
theorem TrW.lt (h : TrW w tb mb k c T) : tb < w.heap.size := (Array.getElem?_eq_some_iff.1 h.tree).1
theorem TrW.below (h : TrW w tb mb k c T) (kp : Below w.heap.size w w') : TrW w' tb mb k c T := ⟨(kp.block tb h.lt).trans h.tree, h.map.below kp⟩
theorem TrW.cell (h : TrW w tb mb k c T) : w.cell? ⟨tb, 0, none⟩ = some (.map (some mb)) := by simp [World.cell?, h.tree]
theorem TrW.mono (h : TrW w tb mb k c T) {k' : Nat} (hk : k ≤ k') : TrW w tb mb k' c T := ⟨h.tree, h.map.mono hk⟩
/-- A store into the map. -/
theorem TrW.stored (h : TrW w tb mb k c T) {k' c' : Nat} {T' : List UInt8 → Option Nd} (hg : w.grownBy w' (some mb)) (hm : MapN w' mb k' c' T') : TrW w' tb mb k' c' T' :=
  ⟨(hg.block tb h.lt (fun e => h.ne (Option.some.inj e))).trans h.tree, hm⟩
end
theorem all_any (tb mb : Nat) (w : World) (h : w.cell? ⟨tb, 0, none⟩ = some (.map (some mb))) : Calls Tryz.prog 39 #[.pointer (some ⟨tb, 0, none⟩)] w fun e w' => e = .returned (.map (some mb)) ∧ w' = w := by
  go_enter Tryz.func39, Tryz.ntmps39
  go_wp2_with fail
  go_ret
  exact ⟨rfl, rfl⟩
theorem len_any (tb mb k c : Nat) (T : List UInt8 → Option Nd) (w : World) (h : TrW w tb mb k c T) : Calls Tryz.prog 17 #[.pointer (some ⟨tb, 0, none⟩)] w fun e w' => e = .returned (.int .i64 (c : Int)) ∧ w' = w := by
  have hc := h.cell
  have hl := h.map.len
  have HA := Lib.hid (all_any tb mb w hc)
  clear h
  go_enter Tryz.func17, Tryz.ntmps17
  go_wp2_with fail
  refine HA.out.mono ?_
  rintro e w' ⟨rfl, rfl⟩
  go_wp2_with fail
  go_ret
  exact ⟨rfl, rfl⟩
/-- A node in a block of its own. -/
def ndC (n : Nd) : Array Value := #[.string n.data, .int .i64 n.ver, .int .i64 n.below, .int .i64 n.owner, .int .i64 n.made, .int .i64 n.put, .int .i64 n.serial]
def NdB (w : World) (b : Nat) (n : Nd) : Prop := w.heap[b]? = some (.cells (ndC n) 40 (0, 0))
theorem NdB.lt {w : World} {b : Nat} {n : Nd} (h : NdB w b n) : b < w.heap.size := (Array.getElem?_eq_some_iff.1 h).1
theorem NdB.below {w w' : World} {b : Nat} {n : Nd} (h : NdB w b n) (hb : Below w.heap.size w w') : NdB w' b n := (hb.block b (NdB.lt h)).trans h
theorem NdB.cells {w : World} {b : Nat} {n : Nd} (h : NdB w b n) : (w.cell? ⟨b, 0, none⟩ = some (.string n.data) ∧ w.cell? ⟨b, 1, none⟩ = some (.int .i64 n.ver) ∧ w.cell? ⟨b, 2, none⟩ = some (.int .i64 n.below) ∧ w.cell? ⟨b, 3, none⟩ = some (.int .i64 n.owner) ∧ w.cell? ⟨b, 4, none⟩ = some (.int .i64 n.made) ∧ w.cell? ⟨b, 5, none⟩ = some (.int .i64 n.put) ∧ w.cell? ⟨b, 6, none⟩ = some (.int .i64 n.serial)) ∧
    (w.frozen? ⟨b, 0, none⟩ = false ∧ w.frozen? ⟨b, 1, none⟩ = false ∧ w.frozen? ⟨b, 2, none⟩ = false ∧ w.frozen? ⟨b, 3, none⟩ = false ∧ w.frozen? ⟨b, 4, none⟩ = false ∧ w.frozen? ⟨b, 5, none⟩ = false ∧ w.frozen? ⟨b, 6, none⟩ = false) := by
  unfold NdB ndC at h
  simp [World.cell?, World.frozen?, h]
theorem NdB.new (w : World) (n : Nd) : NdB (w.alloc (.cells (ndC n) 40)) w.heap.size n := World.alloc_heap_new w _
/-- What Get answers. -/
def getN (T : List UInt8 → Option Nd) (z : List UInt8) : Nd × Int := if checkL z then (match T z with
  | some n => (n, 0)
  | none => (Nd.zero, 11)) else (Nd.zero, 10)
theorem below7 {m b : Nat} {w x : World} (h : Below m w x) (hb : m ≤ b) (v0 v1 v2 v3 v4 v5 v6 : Value) : Below m w (((((((x.setCell ⟨b, 0, none⟩ v0).setCell ⟨b, 1, none⟩ v1).setCell ⟨b, 2, none⟩ v2).setCell ⟨b, 3, none⟩ v3).setCell ⟨b, 4, none⟩ v4).setCell ⟨b, 5, none⟩ v5).setCell ⟨b, 6, none⟩ v6) :=
  ((((((h.setCell hb _).setCell hb _).setCell hb _).setCell hb _).setCell hb _).setCell hb _).setCell hb _
theorem NdB.set7 {x : World} {b : Nat} {m : Nd} (h : NdB x b m) (n : Nd) : NdB (((((((x.setCell ⟨b, 0, none⟩ (.string n.data)).setCell ⟨b, 1, none⟩ (.int .i64 n.ver)).setCell ⟨b, 2, none⟩ (.int .i64 n.below)).setCell ⟨b, 3, none⟩ (.int .i64 n.owner)).setCell ⟨b, 4, none⟩ (.int .i64 n.made)).setCell ⟨b, 5, none⟩ (.int .i64 n.put)).setCell ⟨b, 6, none⟩ (.int .i64 n.serial)) b n := by
  unfold NdB ndC at h ⊢
  have h0 := bset (i := 0) (u := .string n.data) h
  have h1 := bset (i := 1) (u := .int .i64 n.ver) h0
  have h2 := bset (i := 2) (u := .int .i64 n.below) h1
  have h3 := bset (i := 3) (u := .int .i64 n.owner) h2
  have h4 := bset (i := 4) (u := .int .i64 n.made) h3
  have h5 := bset (i := 5) (u := .int .i64 n.put) h4
  have h6 := bset (i := 6) (u := .int .i64 n.serial) h5
  simp only [List.setIfInBounds_toArray, List.set_cons_zero, List.set_cons_succ] at h6
  exact h6
theorem NdB.alloc {x : World} {b : Nat} {m : Nd} (h : NdB x b m) (o : Obj) : NdB (x.alloc o) b m := NdB.below h ((Below.refl _ x).alloc (Nat.le_refl _) o)
theorem get_results (W : World) (tmps : Array Value) (b : Nat) (n : Nd) (e : Int) (h4 : tmps.getD 4 undef = .pointer (some ⟨b, 0, none⟩)) (h5 : tmps.getD 5 undef = .int .i64 e) (hN : NdB W b n) :
    (results Tryz.f14 tmps).run Tryz.prog W = .ok (.tuple #[ndV n, .int .i64 e]) W := by
  obtain ⟨⟨c0, c1, c2, c3, c4, c5, c6⟩, _⟩ := NdB.cells hN
  simp at h4 h5
  simp [results, Tryz.results14, go_sem, h4, h5, c0, c1, c2, c3, c4, c5, c6, ndV]
set_option maxHeartbeats 4000000 in
theorem get_any (tb mb k c : Nat) (T : List UInt8 → Option Nd) (z : List UInt8) (w : World) (h : TrW w tb mb k c T) (hz : z.length ≤ 1000000) : Calls Tryz.prog 14 #[.pointer (some ⟨tb, 0, none⟩), .string (bs z)] w fun e w' => e = .returned (.tuple #[ndV (getN T z).1, .int .i64 (getN T z).2]) ∧ Below w.heap.size w w' := by
  have HC := Lib.hid (fun W : World => check_any (bs z) W)
  have b0 := (Below.refl _ w).alloc (Nat.le_refl _) (.cells #[.string ⟨#[]⟩, .int .i64 0, .int .i64 0, .int .i64 0, .int .i64 0, .int .i64 0, .int .i64 0] 40)
  have H0 := h.below b0
  have N0 := NdB.new w Nd.zero
  cases hck : checkL z
  · have hE : checkE z = 10 := by unfold checkE; rw [hck]; rfl
    have hG : getN T z = (Nd.zero, 10) := by unfold getN; rw [hck]; rfl
    rw [hG]
    have HE := Lib.hid hE
    clear hck hE hG
    go_enter Tryz.func14, Tryz.ntmps14
    go_wp2_with fail
    refine (HC.out _).mono ?_
    rintro e w1 ⟨rfl, b1⟩
    rw [bs_list, HE.out]
    have N1 := N0.below b1
    obtain ⟨⟨c0, c1, c2, c3, c4, c5, c6⟩, f0, f1, f2, f3, f4, f5, f6⟩ := N1.cells
    clear H0
    go_wp2_with fail
    have NN := NdB.set7 N1 Nd.zero
    exact bodyPost_ret (get_results _ _ w.heap.size Nd.zero 10 rfl rfl NN) rfl ⟨rfl, below7 (b0.trans (b1.mono b0.size)) (Nat.le_refl _) _ _ _ _ _ _ _⟩
  · have hE : checkE z = 0 := by unfold checkE; rw [hck]; rfl
    have HE := Lib.hid hE
    cases hT : T z with
    | none =>
      have hG : getN T z = (Nd.zero, 11) := by unfold getN; rw [hck, hT]; rfl
      rw [hG]
      clear hck hE hG
      go_enter Tryz.func14, Tryz.ntmps14
      go_wp2_with fail
      refine (HC.out _).mono ?_
      rintro e w1 ⟨rfl, b1⟩
      rw [bs_list, HE.out]
      have H1 := H0.below b1
      have hl := H1.map.look_ok z (by unfold maxLen; omega)
      rw [hT] at hl
      simp only [Option.getD_none, Option.isSome_none, ndV] at hl
      have HA := Lib.hid (all_any tb mb w1 H1.cell)
      have N1 := N0.below b1
      obtain ⟨⟨c0, c1, c2, c3, c4, c5, c6⟩, f0, f1, f2, f3, f4, f5, f6⟩ := N1.cells
      have B1 := b0.trans (b1.mono b0.size)
      have hne : ¬ w1.heap.size = w.heap.size := by have := b0.size; have := b1.size; simp at this; omega
      have hne2 : ¬ w.heap.size = w1.heap.size := fun e => hne e.symm
      have hlt : w.heap.size < w1.heap.size := by have := b0.size; have := b1.size; simp at this; omega
      clear N0 H0 H1 hT h b0 b1
      go_wp2_with fail
      refine HA.out.mono ?_
      rintro e w2 ⟨rfl, rfl⟩
      go_wp2_with fail
      have NN := NdB.alloc (NdB.set7 N1 Nd.zero) (.cells (ndC Nd.zero) 40)
      exact bodyPost_ret (get_results _ _ w.heap.size Nd.zero 11 rfl rfl NN) rfl ⟨rfl, (below7 B1 (Nat.le_refl _) _ _ _ _ _ _ _).alloc (by simp; omega) _⟩
    | some nd =>
      have hG : getN T z = (nd, 0) := by unfold getN; rw [hck, hT]; rfl
      rw [hG]
      clear hck hE hG
      go_enter Tryz.func14, Tryz.ntmps14
      go_wp2_with fail
      refine (HC.out _).mono ?_
      rintro e w1 ⟨rfl, b1⟩
      rw [bs_list, HE.out]
      have H1 := H0.below b1
      have hl := H1.map.look_ok z (by unfold maxLen; omega)
      rw [hT] at hl
      simp only [Option.getD_some, Option.isSome_some, ndV] at hl
      have HA := Lib.hid (all_any tb mb w1 H1.cell)
      have N1 := N0.below b1
      obtain ⟨⟨c0, c1, c2, c3, c4, c5, c6⟩, f0, f1, f2, f3, f4, f5, f6⟩ := N1.cells
      have B1 := b0.trans (b1.mono b0.size)
      have hne : ¬ w1.heap.size = w.heap.size := by have := b0.size; have := b1.size; simp at this; omega
      have hne2 : ¬ w.heap.size = w1.heap.size := fun e => hne e.symm
      have hlt : w.heap.size < w1.heap.size := by have := b0.size; have := b1.size; simp at this; omega
      clear N0 H0 H1 hT h b0 b1
      go_wp2_with fail
      refine HA.out.mono ?_
      rintro e w2 ⟨rfl, rfl⟩
      go_wp2_with fail
      have NN := NdB.alloc (NdB.set7 N1 nd) (.cells (ndC nd) 40)
      exact bodyPost_ret (get_results _ _ w.heap.size nd 0 rfl rfl NN) rfl ⟨rfl, (below7 B1 (Nat.le_refl _) _ _ _ _ _ _ _).alloc (by simp; omega) _⟩
end Go.Proofs.YtblcpihfnpgfiaaGreatDoor
