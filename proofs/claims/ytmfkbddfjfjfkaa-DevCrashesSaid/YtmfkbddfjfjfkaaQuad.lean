/- A device, the model, an act and a row of two slices side by side in memory. No conditions beyond those in each statement. -/
import Derived.Test.YtmfkbddfjfjfkaaCrashMath
namespace Go.Proofs.Ytmfkbddfjfjfkaa
open Go.ChangeShapes Go.WideShapes Go.RowKit
set_option linter.unusedVariables false

/-- A device and the model apart from each other in blocks from n on, and apart from the row of two at L. -/
def Duol (n : Nat) (w : World) (B : Nat) (D : Dv) (C : Nat) (M : Md) (L : Nat) (vs : Array Value) : Prop :=
  ∃ S T, DevAt S w B D ∧ MdAt T w C M ∧ (∀ k, S k → ¬ T k) ∧ (∀ k, S k → n ≤ k ∧ k ≠ L) ∧ (∀ k, T k → n ≤ k ∧ k ≠ L) ∧ Whole w L 22 vs
/-- .. and from an act's box at X. -/
def Quad (n : Nat) (w : World) (B : Nat) (D : Dv) (C : Nat) (M : Md) (L : Nat) (vs : Array Value) (X : Nat) (a : Ac) : Prop :=
  ∃ S T, DevAt S w B D ∧ MdAt T w C M ∧ (∀ k, S k → ¬ T k) ∧ (∀ k, S k → (n ≤ k ∧ k ≠ L) ∧ k ≠ X) ∧ (∀ k, T k → (n ≤ k ∧ k ≠ L) ∧ k ≠ X) ∧ Whole w L 22 vs ∧ Whole w X 30 #[.int .i64 a.k, .int .i64 a.block, .int .i64 a.n, .string a.data, .int .u8 a.bits]
section
variable {n : Nat} {w x : World} {B C X L : Nat} {D : Dv} {M : Md} {a : Ac} {vs : Array Value}
theorem Quad.below (h : Quad n w B D C M L vs X a) (hb : Below w.heap.size w x) : Quad n x B D C M L vs X a := by
  obtain ⟨S, T, h1, h2, h3, h4, h5, h6, h7⟩ := h
  exact ⟨S, T, h1.below hb, h2.below hb, h3, h4, h5, h6.below hb, h7.below hb⟩
theorem Duol.below (h : Duol n w B D C M L vs) (hb : Below w.heap.size w x) : Duol n x B D C M L vs := by
  obtain ⟨S, T, h1, h2, h3, h4, h5, h6⟩ := h
  exact ⟨S, T, h1.below hb, h2.below hb, h3, h4, h5, h6.below hb⟩
theorem Quad.duol (h : Quad n w B D C M L vs X a) : Duol n w B D C M L vs := by
  obtain ⟨S, T, h1, h2, h3, h4, h5, h6, h7⟩ := h
  exact ⟨S, T, h1, h2, h3, fun k hk => (h4 k hk).1, fun k hk => (h5 k hk).1, h6⟩
theorem Duol.duo (h : Duol n w B D C M L vs) : Duo n w B D C M := by
  obtain ⟨S, T, h1, h2, h3, h4, h5, h6⟩ := h
  exact ⟨S, T, h1, h2, h3, fun k hk => (h4 k hk).1, fun k hk => (h5 k hk).1⟩
theorem Duol.row (h : Duol n w B D C M L vs) : Whole w L 22 vs := by
  obtain ⟨S, T, h1, h2, h3, h4, h5, h6⟩ := h
  exact h6
theorem Duol.quad (h : Duol n w B D C M L vs) (a : Ac) : Quad n (w.alloc (.cells #[.int .i64 a.k, .int .i64 a.block, .int .i64 a.n, .string a.data, .int .u8 a.bits] 30)) B D C M L vs w.heap.size a := by
  obtain ⟨S, T, h1, h2, h3, h4, h5, h6⟩ := h
  have hb : Below w.heap.size w (w.alloc (.cells #[.int .i64 a.k, .int .i64 a.block, .int .i64 a.n, .string a.data, .int .u8 a.bits] 30)) := (Below.refl _ _).alloc (Nat.le_refl _) _
  exact ⟨S, T, h1.below hb, h2.below hb, h3, fun k hk => ⟨h4 k hk, by have := h1.lt k hk; omega⟩, fun k hk => ⟨h5 k hk, by have := h2.lt k hk; omega⟩, h6.below hb, Whole.new w _ _⟩
theorem Duo.row (h : Duo n w B D C M) (vs : Array Value) : Duol n (w.alloc (.cells vs 22)) B D C M w.heap.size vs := by
  obtain ⟨S, T, h1, h2, h3, h4, h5⟩ := h
  have hb : Below w.heap.size w (w.alloc (.cells vs 22)) := (Below.refl _ _).alloc (Nat.le_refl _) _
  exact ⟨S, T, h1.below hb, h2.below hb, h3, fun k hk => ⟨h4 k hk, by have := h1.lt k hk; omega⟩, fun k hk => ⟨h5 k hk, by have := h2.lt k hk; omega⟩, Whole.new w _ _⟩
theorem Quad.box (h : Quad n w B D C M L vs X a) : w.cell? ⟨X, 0, none⟩ = some (.int .i64 a.k) ∧ w.cell? ⟨X, 1, none⟩ = some (.int .i64 a.block) ∧ w.cell? ⟨X, 2, none⟩ = some (.int .i64 a.n) ∧ w.cell? ⟨X, 3, none⟩ = some (.string a.data) ∧ w.cell? ⟨X, 4, none⟩ = some (.int .u8 a.bits) := by
  obtain ⟨S, T, _, _, _, _, _, _, h6⟩ := h
  exact ⟨h6.cell rfl, h6.cell rfl, h6.cell rfl, h6.cell rfl, h6.cell rfl⟩
theorem Quad.play (h : Quad n w B D C M L vs X a) (hn : n ≤ w.heap.size) (b : Ac) (hb : b.Ok) (hw : D.writes ≤ 1073741824) :
    Calls Try.prog 12 #[.pointer (some ⟨B, 0, none⟩), acV b] w fun e w' => e = .returned (.int .i64 (D.play b).1) ∧ Quad n w' B (D.play b).2 C M L vs X a ∧ Below n w w' := by
  obtain ⟨S, T, h1, h2, h3, h4, h5, h6, h7⟩ := h
  refine (play_any b hb hw h1).mono ?_
  rintro e w' ⟨rfl, S', k1, k2, k3⟩
  have hL := h6.lt
  have hX := h7.lt
  refine ⟨rfl, ⟨S', T, k1, h2.keep k3 (fun k hk hs => h3 k hs hk), fun k hk ht => ?_, fun k hk => ?_, h5, ?_, ?_⟩, k3.toBelow (fun k hk => (h4 k hk).1.1) hn⟩
  · rcases k2 k hk with hs | hs
    · exact h3 k hs ht
    · have := h2.lt k ht; omega
  · rcases k2 k hk with hs | hs
    · exact h4 k hs
    · exact ⟨⟨Nat.le_trans hn hs, by omega⟩, by omega⟩
  · exact (k3.block L hL (fun hs => (h4 L hs).1.2 rfl)).trans h6
  · exact (k3.block X hX (fun hs => (h4 X hs).2 rfl)).trans h7
theorem Quad.do (h : Quad n w B D C M L vs X a) (hn : n ≤ w.heap.size) (b : Ac) (hb : b.Ok) (hw : M.since.length < 1073741824) :
    Calls Try.prog 13 #[.pointer (some ⟨C, 0, none⟩), acV b] w fun e w' => e = .returned (.int .i64 (M.do b).1) ∧ Quad n w' B D C (M.do b).2 L vs X a ∧ Below n w w' := by
  obtain ⟨S, T, h1, h2, h3, h4, h5, h6, h7⟩ := h
  refine (do_any b hb hw h2).mono ?_
  rintro e w' ⟨rfl, T', k1, k2, k3⟩
  have hL := h6.lt
  have hX := h7.lt
  refine ⟨rfl, ⟨S, T', h1.keep k3 h3, k1, fun k hk ht => ?_, h4, fun k hk => ?_, ?_, ?_⟩, k3.toBelow (fun k hk => (h5 k hk).1.1) hn⟩
  · rcases k2 k ht with hs | hs
    · exact h3 k hk hs
    · have := h1.lt k hk; omega
  · rcases k2 k hk with hs | hs
    · exact h5 k hs
    · exact ⟨⟨Nat.le_trans hn hs, by omega⟩, by omega⟩
  · exact (k3.block L hL (fun hs => (h5 L hs).1.2 rfl)).trans h6
  · exact (k3.block X hX (fun hs => (h5 X hs).2 rfl)).trans h7
theorem duol_new {w1 w2 w3 : World} (hn : n ≤ w1.heap.size) (hl : Whole w1 L 22 vs) (h1 : DevAt (span w1.heap.size w2.heap.size) w2 B D) (hb1 : Below w1.heap.size w1 w2) (h2 : MdAt (span w2.heap.size w3.heap.size) w3 C M) (hb2 : Below w2.heap.size w2 w3) : Duol n w3 B D C M L vs := by
  have hlt := hl.lt
  have hs := hb1.size
  refine ⟨_, _, h1.below hb2, h2, fun k hk hk' => by have := hk.2; have := hk'.1; omega, fun k hk => ⟨Nat.le_trans hn hk.1, by have := hk.1; omega⟩, fun k hk => ⟨Nat.le_trans hn (Nat.le_trans hs hk.1), by have := hk.1; omega⟩, (hl.below hb1).below hb2⟩
end
end Go.Proofs.Ytmfkbddfjfjfkaa
