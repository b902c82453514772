/- A device, the model and an act side by side in memory; the acts that came in. No conditions beyond those in each statement. -/
import Derived.Test.YtmfkbddfjfjfkaaActsMath
import Derived.Deep.Slices
import Derived.Deep.Fields
import Derived.ChangeSame
import Derived.ProofKit
import Derived.OpenShut
import Derived.ShutString
import Derived.ChangeOld
namespace Go.Proofs.Ytmfkbddfjfjfkaa
open Go.ChangeShapes Go.WideShapes Go.Deep Go.RowKit
set_option linter.unusedVariables false

/-- A device at B and the model at C, apart from each other, in blocks from n on; an act's box at X apart from both. -/
def Trio (n : Nat) (w : World) (B : Nat) (D : Dv) (C : Nat) (M : Md) (X : Nat) (a : Ac) : Prop :=
  ∃ S T, DevAt S w B D ∧ MdAt T w C M ∧ (∀ k, S k → ¬ T k) ∧ (∀ k, S k → n ≤ k ∧ k ≠ X) ∧ (∀ k, T k → n ≤ k ∧ k ≠ X) ∧ Whole w X 30 #[.int .i64 a.k, .int .i64 a.block, .int .i64 a.n, .string a.data, .int .u8 a.bits]
/-- .. without the act. -/
def Duo (n : Nat) (w : World) (B : Nat) (D : Dv) (C : Nat) (M : Md) : Prop := ∃ S T, DevAt S w B D ∧ MdAt T w C M ∧ (∀ k, S k → ¬ T k) ∧ (∀ k, S k → n ≤ k) ∧ (∀ k, T k → n ≤ k)
section
variable {n : Nat} {w x : World} {B C X : Nat} {D : Dv} {M : Md} {a : Ac}
theorem Trio.below (h : Trio n w B D C M X a) (hb : Below w.heap.size w x) : Trio n x B D C M X a := by
  obtain ⟨S, T, h1, h2, h3, h4, h5, h6⟩ := h
  exact ⟨S, T, h1.below hb, h2.below hb, h3, h4, h5, h6.below hb⟩
theorem Duo.below (h : Duo n w B D C M) (hb : Below w.heap.size w x) : Duo n x B D C M := by
  obtain ⟨S, T, h1, h2, h3, h4, h5⟩ := h
  exact ⟨S, T, h1.below hb, h2.below hb, h3, h4, h5⟩
theorem Trio.duo (h : Trio n w B D C M X a) : Duo n w B D C M := by
  obtain ⟨S, T, h1, h2, h3, h4, h5, h6⟩ := h
  exact ⟨S, T, h1, h2, h3, fun k hk => (h4 k hk).1, fun k hk => (h5 k hk).1⟩
theorem Duo.trio (h : Duo n w B D C M) (a : Ac) : Trio n (w.alloc (.cells #[.int .i64 a.k, .int .i64 a.block, .int .i64 a.n, .string a.data, .int .u8 a.bits] 30)) B D C M w.heap.size a := by
  obtain ⟨S, T, h1, h2, h3, h4, h5⟩ := h
  have hb : Below w.heap.size w (w.alloc (.cells #[.int .i64 a.k, .int .i64 a.block, .int .i64 a.n, .string a.data, .int .u8 a.bits] 30)) := (Below.refl _ _).alloc (Nat.le_refl _) _
  exact ⟨S, T, h1.below hb, h2.below hb, h3, fun k hk => ⟨h4 k hk, by have := h1.lt k hk; omega⟩, fun k hk => ⟨h5 k hk, by have := h2.lt k hk; omega⟩, Whole.new w _ _⟩
theorem Duo.fitsM (h : Duo n w B D C M) : M.Fits := by obtain ⟨S, T, h1, h2, _⟩ := h; exact h2.fits
theorem Duo.fitsD (h : Duo n w B D C M) : D.Fits := by obtain ⟨S, T, h1, h2, _⟩ := h; exact h1.fits
theorem Trio.box (h : Trio n w B D C M X a) : w.cell? ⟨X, 0, none⟩ = some (.int .i64 a.k) ∧ w.cell? ⟨X, 1, none⟩ = some (.int .i64 a.block) ∧ w.cell? ⟨X, 2, none⟩ = some (.int .i64 a.n) ∧ w.cell? ⟨X, 3, none⟩ = some (.string a.data) ∧ w.cell? ⟨X, 4, none⟩ = some (.int .u8 a.bits) := by
  obtain ⟨S, T, _, _, _, _, _, h6⟩ := h
  exact ⟨h6.cell rfl, h6.cell rfl, h6.cell rfl, h6.cell rfl, h6.cell rfl⟩
theorem Trio.play (h : Trio n w B D C M X a) (hn : n ≤ w.heap.size) (b : Ac) (hb : b.Ok) (hw : D.writes ≤ 1073741824) :
    Calls Try.prog 12 #[.pointer (some ⟨B, 0, none⟩), acV b] w fun e w' => e = .returned (.int .i64 (D.play b).1) ∧ Trio n w' B (D.play b).2 C M X a ∧ Below n w w' := by
  obtain ⟨S, T, h1, h2, h3, h4, h5, h6⟩ := h
  refine (play_any b hb hw h1).mono ?_
  rintro e w' ⟨rfl, S', k1, k2, k3⟩
  have hX := h6.lt
  refine ⟨rfl, ⟨S', T, k1, h2.keep k3 (fun k hk hs => h3 k hs hk), fun k hk ht => ?_, fun k hk => ?_, h5, ?_⟩, k3.toBelow (fun k hk => (h4 k hk).1) hn⟩
  · rcases k2 k hk with hs | hs
    · exact h3 k hs ht
    · have := h2.lt k ht; omega
  · rcases k2 k hk with hs | hs
    · exact h4 k hs
    · exact ⟨Nat.le_trans hn hs, by omega⟩
  · exact (k3.block X hX (fun hs => (h4 X hs).2 rfl)).trans h6
theorem Trio.do (h : Trio n w B D C M X a) (hn : n ≤ w.heap.size) (b : Ac) (hb : b.Ok) (hw : M.since.length < 1073741824) :
    Calls Try.prog 13 #[.pointer (some ⟨C, 0, none⟩), acV b] w fun e w' => e = .returned (.int .i64 (M.do b).1) ∧ Trio n w' B D C (M.do b).2 X a ∧ Below n w w' := by
  obtain ⟨S, T, h1, h2, h3, h4, h5, h6⟩ := h
  refine (do_any b hb hw h2).mono ?_
  rintro e w' ⟨rfl, T', k1, k2, k3⟩
  have hX := h6.lt
  refine ⟨rfl, ⟨S, T', h1.keep k3 h3, k1, fun k hk ht => ?_, h4, fun k hk => ?_, ?_⟩, k3.toBelow (fun k hk => (h5 k hk).1) hn⟩
  · rcases k2 k ht with hs | hs
    · exact h3 k hk hs
    · have := h1.lt k hk; omega
  · rcases k2 k hk with hs | hs
    · exact h5 k hs
    · exact ⟨Nat.le_trans hn hs, by omega⟩
  · exact (k3.block X hX (fun hs => (h5 X hs).2 rfl)).trans h6
theorem Duo.same (h : Duo n w B D C M) (hA : Agree D M) (hw : D.writes ≤ 1073741824) :
    Calls Try.prog 14 #[.pointer (some ⟨B, 0, none⟩), .pointer (some ⟨C, 0, none⟩)] w fun e w' => e = .returned (.bool true) ∧ Below w.heap.size w w' := by
  obtain ⟨S, T, h1, h2, _⟩ := h
  exact same_any h1 h2 hw hA.len.symm hA.down.symm hA.read
theorem duo_new {w1 w2 w3 : World} (hn : n ≤ w1.heap.size) (h1 : DevAt (span w1.heap.size w2.heap.size) w2 B D) (hb : Below w2.heap.size w2 w3) (h2 : MdAt (span w2.heap.size w3.heap.size) w3 C M) (hs : w1.heap.size ≤ w2.heap.size) : Duo n w3 B D C M :=
  ⟨_, _, h1.below hb, h2, fun k hk hk' => by have := hk.2; have := hk'.1; omega, fun k hk => Nat.le_trans hn hk.1, fun k hk => Nat.le_trans hn (Nat.le_trans hs hk.1)⟩
end

section
variable {H : Type} {enc : TypeId × Value → H} {P : Program} {w : World} {base : Nat} {spare : Nat → Bool} {held : Bool}
theorem open_slice_fields {t e : TypeId} {fs : Array Field} {fuel : Nat} {cs : List Value} {x : DataW H × List MemPlace} (ht : P.underlying t = some (.slice e)) (he : P.underlying e = some (.struct fs))
    (hone : oneCellFields P fs = true) (hC : P.cellsOf e = fs.size) (h : DataW.trod enc P w base spare held fuel t cs = some x) :
    (cs = [.slice none 0 0] ∧ x = (.nil, [])) ∨
    ∃ (a : Addr) (len cap m : Nat) (D : Nat → DataW H), cs = [.slice (some a) len cap] ∧ len ≤ cap ∧ cap ≤ maxLen ∧ m = (if spare a.block then cap else len) ∧
      ∀ i, i < m → ∃ (ys : List (DataW H × List MemPlace)) (n : Nat), ys.length = fs.size ∧
        ∀ (j : Nat) (f : Field), fs[j]? = some f → ∃ (v : Value) (y : DataW H × List MemPlace), w.cell? (a.add (i * fs.size + j)) = some v ∧ ys[j]? = some y ∧ DataW.trod enc P w base spare held n f.type [v] = some y := by
  rcases open_slice ht h with h0 | ⟨a, len, cap, m, n, D, Pl, hcs, hb, hl, hm, hmm, hx, hi⟩
  · exact .inl h0
  · refine .inr ⟨a, len, cap, m, D, hcs, hl, hm, hmm, fun i him => ?_⟩
    obtain ⟨cs', hc, ht'⟩ := hi i him
    rw [hC] at hc
    obtain ⟨ys, n', hn', hy, hlen, hyl, hf⟩ := DataW.trod_struct he ht'
    obtain ⟨_, hcl, hat⟩ := World.cells?_some hc
    refine ⟨ys, n', hyl, fun j f hj => ?_⟩
    obtain ⟨ho, hk⟩ := hone_of hone j f hj
    have hjl : j < fs.size := (Array.getElem?_eq_some_iff.1 hj).1
    have hcell := hat j hjl
    have hv : cs'[j]? = some (cs'[j]'(by omega)) := List.getElem?_eq_getElem (by omega)
    have h1 := hf j f hj
    rw [ho, hk] at h1
    have hone' : (cs'.drop j).take 1 = [cs'[j]'(by omega)] := by
      rw [List.drop_eq_getElem_cons (by omega)]
      rfl
    rw [hone'] at h1
    have hys : ys[j]? = some (ys[j]'(by omega)) := List.getElem?_eq_getElem (by omega)
    refine ⟨_, _, ?_, hys, h1.trans hys⟩
    rw [← Go.Deep.add_add, hcell, hv]
end
theorem und_int' : Try.prog.underlying 3 = some (.int .i64) := by kernel_rfl
theorem und_acts : Try.prog.underlying 22 = some (.slice 30) := by kernel_rfl
theorem act_fields : ∃ fs, Try.prog.underlying 30 = some (.struct fs) ∧ oneCellFields Try.prog fs = true ∧ Try.prog.cellsOf 30 = fs.size ∧ fs.size = 5 ∧
    (∀ f, fs[0]? = some f → f.type = 3) ∧ (∀ f, fs[1]? = some f → f.type = 3) ∧ (∀ f, fs[2]? = some f → f.type = 3) ∧ (∀ f, fs[3]? = some f → f.type = 9) ∧ (∀ f, fs[4]? = some f → f.type = 5) := by
  refine ⟨_, Try.underlying30, by kernel_rfl, by kernel_rfl, rfl, ?_, ?_, ?_, ?_, ?_⟩ <;> (intro f hf; simp at hf; rw [← hf])
theorem bounds_i64 {n : Int} (h : (Lit.int .i64 n).wf = true) : i64in n := by
  have h' : IntKind.i64.min ≤ n ∧ n ≤ IntKind.i64.max := by simpa [Lit.wf] using h
  have h1 : IntKind.i64.min = -9223372036854775808 := by rfl
  have h2 : IntKind.i64.max = 9223372036854775807 := by rfl
  unfold i64in
  omega
theorem bounds_u8 {n : Int} (h : (Lit.int .u8 n).wf = true) : 0 ≤ n ∧ n < 256 := by
  have h' : IntKind.u8.min ≤ n ∧ n ≤ IntKind.u8.max := by simpa [Lit.wf] using h
  have h1 : IntKind.u8.min = 0 := by rfl
  have h2 : IntKind.u8.max = 255 := by rfl
  omega
theorem acts_of {H : Type} {enc : TypeId × Value → H} {W : World} {base b0 : Nat} {spare : Nat → Bool} {held : Bool} {v : Value} {d : DataW H} {p : List MemPlace}
    (hv : Value.okWide Try.prog W .any b0 22 v) (h : DataW.Trod enc Try.prog W base spare held 22 v d p) : ∃ qs, Acts W v qs := by
  obtain ⟨a, len, cap, rfl⟩ := okWide_slice und_acts hv
  obtain ⟨fuel, hf⟩ := h
  obtain ⟨fs, g1, g2, g3, g4, f0, f1, f2, f3, f4⟩ := act_fields
  rcases open_slice_fields und_acts g1 g2 g3 hf with ⟨hcs, _⟩ | ⟨x, l, c, m, D, hcs, hl, hm, hmm, hi⟩
  · simp [Value.cells] at hcs
    obtain ⟨rfl, rfl, rfl⟩ := hcs
    exact ⟨[], _, _, rfl, Nat.zero_le _, (fun x hx => by cases hx), .inl rfl⟩
  · simp [Value.cells] at hcs
    obtain ⟨rfl, rfl, rfl⟩ := hcs
    have hml : len ≤ m := by rw [hmm]; split <;> omega
    have hx : ∀ i, i < len → ∃ q : Ac, q.Ok ∧ (W.cell? (x.add (i * 5)) = some (.int .i64 q.k) ∧ W.cell? (x.add (i * 5 + 1)) = some (.int .i64 q.block) ∧ W.cell? (x.add (i * 5 + 2)) = some (.int .i64 q.n) ∧ W.cell? (x.add (i * 5 + 3)) = some (.string q.data) ∧ W.cell? (x.add (i * 5 + 4)) = some (.int .u8 q.bits)) := by
      intro i hil
      obtain ⟨ys, n, hys, hfs⟩ := hi i (by omega)
      have s0 : fs[0]? = some (fs[0]'(by omega)) := Array.getElem?_eq_getElem (by omega)
      have s1 : fs[1]? = some (fs[1]'(by omega)) := Array.getElem?_eq_getElem (by omega)
      have s2 : fs[2]? = some (fs[2]'(by omega)) := Array.getElem?_eq_getElem (by omega)
      have s3 : fs[3]? = some (fs[3]'(by omega)) := Array.getElem?_eq_getElem (by omega)
      have s4 : fs[4]? = some (fs[4]'(by omega)) := Array.getElem?_eq_getElem (by omega)
      obtain ⟨v0, y0, c0, _, t0⟩ := hfs 0 _ s0
      obtain ⟨v1, y1, c1, _, t1⟩ := hfs 1 _ s1
      obtain ⟨v2, y2, c2, _, t2⟩ := hfs 2 _ s2
      obtain ⟨v3, y3, c3, _, t3⟩ := hfs 3 _ s3
      obtain ⟨v4, y4, c4, _, t4⟩ := hfs 4 _ s4
      rw [f0 _ s0] at t0
      rw [f1 _ s1] at t1
      rw [f2 _ s2] at t2
      rw [f3 _ s3] at t3
      rw [f4 _ s4] at t4
      rw [g4] at c0 c1 c2 c3 c4
      obtain ⟨n0, e0, _, w0⟩ := DataW.trod_int und_int' t0
      obtain ⟨n1, e1, _, w1⟩ := DataW.trod_int und_int' t1
      obtain ⟨n2, e2, _, w2⟩ := DataW.trod_int und_int' t2
      obtain ⟨s, e3, _, w3⟩ := DataW.trod_string und_string' t3
      obtain ⟨n4, e4, _, w4⟩ := DataW.trod_int und_u8' t4
      simp at e0 e1 e2 e3 e4
      subst e0 e1 e2 e3 e4
      have hb4 := bounds_u8 w4
      refine ⟨⟨n0, n1, n2, s, n4.toNat⟩, ⟨bounds_i64 w0, bounds_i64 w1, bounds_i64 w2, w3, by simp; omega⟩, c0, c1, c2, c3, ?_⟩
      rw [show ((n4.toNat : Nat) : Int) = n4 by omega]
      exact c4
    by_cases hz : len = 0
    · exact ⟨[], some x, cap, by rw [hz]; rfl, Nat.zero_le _, (fun x hx => by cases hx), .inl rfl⟩
    · obtain ⟨q0, _, h0, _⟩ := hx 0 (by omega)
      obtain ⟨b, off, spot⟩ := x
      have hspot : spot = none := by simpa [Addr.add] using World.cell?_spot h0
      subst hspot
      have hadd : ∀ j : Nat, (Addr.add ⟨b, off, none⟩ j : Addr) = ⟨b, off + j, none⟩ := fun j => by simp [Addr.add]
      have hget : ∀ j, j < len → ((List.range len).map fun i => if hil : i < len then Classical.choose (hx i hil) else ac0).getD j ac0 = if hil : j < len then Classical.choose (hx j hil) else ac0 := fun j hj => by
        simp [hj]
      refine ⟨(List.range len).map fun i => if hil : i < len then Classical.choose (hx i hil) else ac0, some ⟨b, off, none⟩, cap, by simp, by simp; omega, ?_, .inr ⟨b, off, rfl, ?_, ?_⟩⟩
      · intro q hq
        obtain ⟨i, hi', rfl⟩ := List.mem_map.1 hq
        rw [dif_pos (List.mem_range.1 hi')]
        exact (Classical.choose_spec (hx i (List.mem_range.1 hi'))).1
      · have := World.block_lt_of_cell? W _ h0
        rwa [hadd] at this
      · intro j hj
        simp only [List.length_map, List.length_range] at hj
        have hspec := (Classical.choose_spec (hx j hj)).2
        rw [hget j hj, dif_pos hj]
        simp only [hadd, Nat.add_assoc] at hspec ⊢
        exact hspec
end Go.Proofs.Ytmfkbddfjfjfkaa
