/- The law's arguments that came in: texts, acts. -/
import Derived.Test.YtckengglamkaaaaSessFns
import Derived.Deep.Slices
import Derived.Deep.Fields
import Derived.SliceStrings
namespace Go.Proofs.Ytckengglamkaaaa
open Go.ChangeShapes Go.WideShapes Go.ChangeAt Go.Deep Go.RowKit
open Go.ChangeMaps (open_string shut_string)
set_option linter.unusedVariables false
set_option maxRecDepth 100000

section
variable {H : Type} {enc : TypeId × Value → H} {P : Program} {w : World} {base : Nat} {spare : Nat → Bool} {held : Bool}
theorem open_slice_fields {t e : TypeId} {fs : Array Field} {fuel : Nat} {cs : List Value} {x : DataW H × List MemPlace} (ht : P.underlying t = some (.slice e)) (he : P.underlying e = some (.struct fs))
    (hone : oneCellFields P fs = true) (hC : P.cellsOf e = fs.size) (h : DataW.trod enc P w base spare held fuel t cs = some x) :
    (cs = [.slice none 0 0] ∧ x = (.nil, [])) ∨
    ∃ (a : Addr) (len cap m : Nat) (D : Nat → DataW H), cs = [.slice (some a) len cap] ∧ len ≤ cap ∧ cap ≤ maxLen ∧ m = (if spare a.block then cap else len) ∧
      ∀ i, i < m → ∃ (ys : List (DataW H × List MemPlace)) (n : Nat), ys.length = fs.size ∧
        ∀ (j : Nat) (f : Field), fs[j]? = some f → ∃ (v : Value) (y : DataW H × List MemPlace), w.cell? (a.add (i * fs.size + j)) = some v ∧ ys[j]? = some y ∧ DataW.trod enc P w base spare held n f.type [v] = some y := by
  rcases open_slice ht h with h0 | ⟨a, len, cap, m, n, D, Pl, hcs, hb, hl, hm, hmm, hx, hi⟩
  · exact .inl h0
  · refine .inr ⟨a, len, cap, m, D, hcs, hl, hm, hmm, fun i him => ?_⟩
    obtain ⟨cs', hc, ht'⟩ := hi i him
    rw [hC] at hc
    obtain ⟨ys, n', hn', hy, hlen, hyl, hf⟩ := DataW.trod_struct he ht'
    obtain ⟨_, hcl, hat⟩ := World.cells?_some hc
    refine ⟨ys, n', hyl, fun j f hj => ?_⟩
    obtain ⟨ho, hk⟩ := hone_of hone j f hj
    have hjl : j < fs.size := (Array.getElem?_eq_some_iff.1 hj).1
    have hcell := hat j hjl
    have hv : cs'[j]? = some (cs'[j]'(by omega)) := List.getElem?_eq_getElem (by omega)
    have h1 := hf j f hj
    rw [ho, hk] at h1
    have hone' : (cs'.drop j).take 1 = [cs'[j]'(by omega)] := by
      rw [List.drop_eq_getElem_cons (by omega)]
      rfl
    rw [hone'] at h1
    have hys : ys[j]? = some (ys[j]'(by omega)) := List.getElem?_eq_getElem (by omega)
    refine ⟨_, _, ?_, hys, h1.trans hys⟩
    rw [← Go.Deep.add_add, hcell, hv]
end
/-- A slice of strings that can be read: ss. -/
def Strs (w : World) (v : Value) (ss : List ByteArray) : Prop :=
  ∃ a cap, v = .slice a ss.length cap ∧ ss.length ≤ maxLen ∧ (ss.length = 0 ∨ ∃ g off, a = some ⟨g, off, none⟩ ∧ g < w.heap.size ∧ ∀ j, j < ss.length → w.cell? ⟨g, off + j, none⟩ = some (.string (ss.getD j ByteArray.empty))) ∧ ∀ s ∈ ss, s.size ≤ maxLen
theorem Strs.below {w x : World} {v : Value} {ss : List ByteArray} (h : Strs w v ss) (hb : Below w.heap.size w x) : Strs x v ss := by
  obtain ⟨a, cap, hv, hm, h, hs⟩ := h
  refine ⟨a, cap, hv, hm, h.imp id ?_, hs⟩
  rintro ⟨g, off, ha, hg, hc⟩
  exact ⟨g, off, ha, Nat.lt_of_lt_of_le hg hb.size, fun j hj => (hb.cell (p := ⟨g, off + j, none⟩) hg).trans (hc j hj)⟩

section
variable {H : Type} {enc : TypeId × Value → H} {W : World} {base b0 : Nat} {spare : Nat → Bool} {held : Bool} {v : Value} {d : DataW H} {p : List MemPlace}
theorem und_str : Try.prog.underlying 9 = some .string := by kernel_rfl
theorem und_strs : Try.prog.underlying 56 = some (.slice 9) := by kernel_rfl
theorem strs_of (hv : Value.okWide Try.prog W .any b0 56 v) (h : DataW.Trod enc Try.prog W base spare held 56 v d p) : ∃ ss, Strs W v ss := by
  obtain ⟨a, len, cap, rfl⟩ := okWide_slice und_strs hv
  obtain ⟨fuel, hf⟩ := h
  rcases open_strings und_strs und_str (by kernel_rfl) hf with ⟨hcs, _⟩ | ⟨x, l, c, ss, hcs, _, hl, hm, hz, _, hcell, hws⟩
  · simp [Value.cells] at hcs
    obtain ⟨rfl, rfl, rfl⟩ := hcs
    exact ⟨[], _, _, rfl, Nat.zero_le _, .inl rfl, fun s hs => by cases hs⟩
  · simp [Value.cells] at hcs
    obtain ⟨rfl, rfl, rfl⟩ := hcs
    have hlz : len ≤ ss.length := by rw [hz]; split <;> omega
    refine ⟨ss.take len, some x, cap, by rw [List.length_take, Nat.min_eq_left hlz], by rw [List.length_take]; omega, ?_, fun s hs => hws s (List.mem_of_mem_take hs)⟩
    by_cases h0 : len = 0
    · exact .inl (by rw [List.length_take]; omega)
    · obtain ⟨b, off, spot⟩ := x
      have hc0 := hcell 0 (by omega)
      have hspot : spot = none := by simpa [Addr.add] using World.cell?_spot hc0
      subst hspot
      have hadd : ∀ j : Nat, (Addr.add ⟨b, off, none⟩ j : Addr) = ⟨b, off + j, none⟩ := fun j => by simp [Addr.add]
      refine .inr ⟨b, off, rfl, ?_, fun j hj => ?_⟩
      · rw [hadd] at hc0
        exact World.block_lt_of_cell? W _ hc0
      · have hj' : j < len := by rw [List.length_take] at hj; omega
        have := hcell j (by omega)
        rw [hadd] at this
        rw [this]
        simp [List.getD_eq_getElem?_getD, hj']
end
/-- An act that came in. -/
structure Sa where
  k : Int
  id : Int
  req : Int
  ans : ByteArray
def sa0 : Sa := ⟨0, 0, 0, ByteArray.empty⟩
structure Sa.Ok (a : Sa) : Prop where
  k : (Lit.int .i64 a.k).wf = true
  id : (Lit.int .i64 a.id).wf = true
  req : (Lit.int .i64 a.req).wf = true
  ans : a.ans.size ≤ maxLen
def SaC (w : World) (g o : Nat) (q : Sa) : Prop :=
  w.cell? ⟨g, o, none⟩ = some (.int .i64 q.k) ∧ w.cell? ⟨g, o + 1, none⟩ = some (.int .i64 q.id) ∧ w.cell? ⟨g, o + 2, none⟩ = some (.int .i64 q.req) ∧ w.cell? ⟨g, o + 3, none⟩ = some (.string q.ans)
/-- A slice of acts that can be read. -/
def Acts10 (w : World) (v : Value) (qs : List Sa) : Prop :=
  ∃ a cap, v = .slice a qs.length cap ∧ qs.length ≤ maxLen ∧ (∀ x ∈ qs, x.Ok) ∧ (qs.length = 0 ∨ ∃ g off, a = some ⟨g, off, none⟩ ∧ g < w.heap.size ∧ ∀ j, j < qs.length → SaC w g (off + j * 4) (qs.getD j sa0))
theorem SaC.below {w x : World} {g o : Nat} {q : Sa} (h : SaC w g o q) (hb : Below w.heap.size w x) (hg : g < w.heap.size) : SaC x g o q := by
  obtain ⟨h0, h1, h2, h3⟩ := h
  exact ⟨(hb.cell (p := ⟨g, _, none⟩) hg).trans h0, (hb.cell (p := ⟨g, _, none⟩) hg).trans h1, (hb.cell (p := ⟨g, _, none⟩) hg).trans h2, (hb.cell (p := ⟨g, _, none⟩) hg).trans h3⟩
theorem Acts10.below {w x : World} {v : Value} {qs : List Sa} (h : Acts10 w v qs) (hb : Below w.heap.size w x) : Acts10 x v qs := by
  obtain ⟨a, cap, hv, hm, ho, h⟩ := h
  refine ⟨a, cap, hv, hm, ho, h.imp id ?_⟩
  rintro ⟨g, off, ha, hg, hc⟩
  exact ⟨g, off, ha, Nat.lt_of_lt_of_le hg hb.size, fun j hj => (hc j hj).below hb hg⟩
/-- The cells of an act, in a world that has grown. -/
theorem act10_at {w x : World} {a : Option Addr} {cap k : Nat} {qs : List Sa} (h : Acts10 w (.slice a qs.length cap) qs) (hb : Below w.heap.size w x) (hk : k < qs.length) : (qs.getD k sa0).Ok ∧ ∃ g off, a = some ⟨g, off, none⟩ ∧ SaC x g (off + k * 4) (qs.getD k sa0) := by
  obtain ⟨_, _, e0, _, ho, h⟩ := h.below hb
  obtain ⟨rfl, rfl⟩ : a = _ ∧ cap = _ := by simpa using e0
  have hm : qs.getD k sa0 ∈ qs := by
    rw [List.getD_eq_getElem?_getD, List.getElem?_eq_getElem hk]
    exact List.getElem_mem hk
  refine ⟨ho _ hm, ?_⟩
  rcases h with h | ⟨g, off, rfl, hg, hc⟩
  · omega
  · exact ⟨g, off, rfl, hc k hk⟩
section
variable {H : Type} {enc : TypeId × Value → H} {W : World} {base b0 : Nat} {spare : Nat → Bool} {held : Bool} {v : Value} {d : DataW H} {p : List MemPlace}
theorem und_acts10 : Try.prog.underlying 22 = some (.slice 32) := by kernel_rfl
theorem act10_fields : ∃ fs, Try.prog.underlying 32 = some (.struct fs) ∧ oneCellFields Try.prog fs = true ∧ Try.prog.cellsOf 32 = fs.size ∧ fs.size = 4 ∧
    (∀ f, fs[0]? = some f → f.type = 3) ∧ (∀ f, fs[1]? = some f → f.type = 3) ∧ (∀ f, fs[2]? = some f → f.type = 3) ∧ (∀ f, fs[3]? = some f → f.type = 9) := by
  refine ⟨_, Try.underlying32, by kernel_rfl, by kernel_rfl, rfl, ?_, ?_, ?_, ?_⟩ <;> (intro f hf; simp at hf; rw [← hf])
theorem acts10_of (hv : Value.okWide Try.prog W .any b0 22 v) (h : DataW.Trod enc Try.prog W base spare held 22 v d p) : ∃ qs, Acts10 W v qs := by
  obtain ⟨a, len, cap, rfl⟩ := okWide_slice und_acts10 hv
  obtain ⟨fuel, hf⟩ := h
  obtain ⟨fs, g1, g2, g3, g4, f0, f1, f2, f3⟩ := act10_fields
  rcases open_slice_fields und_acts10 g1 g2 g3 hf with ⟨hcs, _⟩ | ⟨x, l, c, m, D, hcs, hl, hm, hmm, hi⟩
  · simp [Value.cells] at hcs
    obtain ⟨rfl, rfl, rfl⟩ := hcs
    exact ⟨[], _, _, rfl, Nat.zero_le _, (fun x hx => by cases hx), .inl rfl⟩
  · simp [Value.cells] at hcs
    obtain ⟨rfl, rfl, rfl⟩ := hcs
    have hml : len ≤ m := by rw [hmm]; split <;> omega
    have hx : ∀ i, i < len → ∃ q : Sa, q.Ok ∧ (W.cell? (x.add (i * 4)) = some (.int .i64 q.k) ∧ W.cell? (x.add (i * 4 + 1)) = some (.int .i64 q.id) ∧ W.cell? (x.add (i * 4 + 2)) = some (.int .i64 q.req) ∧ W.cell? (x.add (i * 4 + 3)) = some (.string q.ans)) := by
      intro i hil
      obtain ⟨ys, n, hys, hfs⟩ := hi i (by omega)
      have s0 : fs[0]? = some (fs[0]'(by omega)) := Array.getElem?_eq_getElem (by omega)
      have s1 : fs[1]? = some (fs[1]'(by omega)) := Array.getElem?_eq_getElem (by omega)
      have s2 : fs[2]? = some (fs[2]'(by omega)) := Array.getElem?_eq_getElem (by omega)
      have s3 : fs[3]? = some (fs[3]'(by omega)) := Array.getElem?_eq_getElem (by omega)
      obtain ⟨v0, y0, c0, _, t0⟩ := hfs 0 _ s0
      obtain ⟨v1, y1, c1, _, t1⟩ := hfs 1 _ s1
      obtain ⟨v2, y2, c2, _, t2⟩ := hfs 2 _ s2
      obtain ⟨v3, y3, c3, _, t3⟩ := hfs 3 _ s3
      rw [f0 _ s0] at t0
      rw [f1 _ s1] at t1
      rw [f2 _ s2] at t2
      rw [f3 _ s3] at t3
      rw [g4] at c0 c1 c2 c3
      obtain ⟨n0, e0, _, w0⟩ := DataW.trod_int und_int8 t0
      obtain ⟨n1, e1, _, w1⟩ := DataW.trod_int und_int8 t1
      obtain ⟨n2, e2, _, w2⟩ := DataW.trod_int und_int8 t2
      obtain ⟨s, e3, _, w3⟩ := DataW.trod_string und_str t3
      simp at e0 e1 e2 e3
      subst e0 e1 e2 e3
      exact ⟨⟨n0, n1, n2, s⟩, ⟨w0, w1, w2, w3⟩, c0, c1, c2, c3⟩
    by_cases hz : len = 0
    · exact ⟨[], some x, cap, by rw [hz]; rfl, Nat.zero_le _, (fun x hx => by cases hx), .inl rfl⟩
    · obtain ⟨q0, _, h0, _⟩ := hx 0 (by omega)
      obtain ⟨b, off, spot⟩ := x
      have hspot : spot = none := by simpa [Addr.add] using World.cell?_spot h0
      subst hspot
      have hadd : ∀ j : Nat, (Addr.add ⟨b, off, none⟩ j : Addr) = ⟨b, off + j, none⟩ := fun j => by simp [Addr.add]
      have hget : ∀ j, j < len → ((List.range len).map fun i => if hil : i < len then Classical.choose (hx i hil) else sa0).getD j sa0 = if hil : j < len then Classical.choose (hx j hil) else sa0 := fun j hj => by
        simp [hj]
      refine ⟨(List.range len).map fun i => if hil : i < len then Classical.choose (hx i hil) else sa0, some ⟨b, off, none⟩, cap, by simp, by simp; omega, ?_, .inr ⟨b, off, rfl, ?_, ?_⟩⟩
      · intro q hq
        obtain ⟨i, hi', rfl⟩ := List.mem_map.1 hq
        rw [dif_pos (List.mem_range.1 hi')]
        exact (Classical.choose_spec (hx i (List.mem_range.1 hi'))).1
      · have := World.block_lt_of_cell? W _ h0
        rwa [hadd] at this
      · intro j hj
        simp only [List.length_map, List.length_range] at hj
        have hspec := (Classical.choose_spec (hx j hj)).2
        rw [hget j hj, dif_pos hj]
        unfold SaC
        simp only [hadd, Nat.add_assoc] at hspec ⊢
        exact hspec
end
/-- Few acts? -/
def fewS (q : Sa) : Bool := decide (q.ans.size ≤ 500)
def few10 (qs : List Sa) : Bool := qs.all fewS && decide (qs.length ≤ 60)
theorem few10_at {qs : List Sa} (h : few10 qs = true) {k : Nat} (hk : k < qs.length) : (qs.getD k sa0).ans.size ≤ 500 ∧ qs.length ≤ 60 := by
  unfold few10 at h
  rw [Bool.and_eq_true] at h
  have hm : qs.getD k sa0 ∈ qs := by
    rw [List.getD_eq_getElem?_getD, List.getElem?_eq_getElem hk]
    exact List.getElem_mem hk
  have := List.all_eq_true.1 h.1 _ hm
  simp [fewS] at this
  exact ⟨this, by simpa using h.2⟩
set_option maxHeartbeats 4000000 in
theorem few10_any (a : Option Addr) (cap : Nat) (qs : List Sa) (w : World) (h : Acts10 w (.slice a qs.length cap) qs) :
    Calls Try.prog 10 #[.slice a qs.length cap] w fun e w' => e = .returned (.bool (few10 qs)) ∧ Below w.heap.size w w' := by
  have hlen : qs.length ≤ 9223372036854775807 := by obtain ⟨_, _, _, hm, _⟩ := h; unfold maxLen at hm; omega
  have HA := Lib.hid h
  clear h
  go_enter Try.func10, Try.ntmps10
  go_wp2_with fail
  go_loopw [7] (fun i wr => ∃ k : Nat, k ≤ qs.length ∧ i = .int .i64 k ∧ Hid (∀ x ∈ qs.take k, fewS x = true) ∧ Below w.heap.size w wr) (fun i _ => qs.length - (intOf i).toNat)
  case atStart => exact ⟨0, Nat.zero_le _, rfl, Lib.hid (by simp), Below.refl _ _⟩
  case round =>
    obtain ⟨k, hk, rfl, HALL, hb⟩ := hrel
    by_cases hlt : k < qs.length
    · obtain ⟨hok, g, off, rfl, h0, h1, h2, h3⟩ := act10_at HA.out hb hlt
      have hsz := hok.ans
      unfold maxLen at hsz
      have HT := Lib.hid (show qs.take (k + 1) = qs.take k ++ [qs.getD k sa0] by rw [List.take_succ_eq_append_getElem hlt, List.getD_eq_getElem?_getD, List.getElem?_eq_getElem hlt]; rfl)
      have HMEM := Lib.hid (show qs.getD k sa0 ∈ qs by rw [List.getD_eq_getElem?_getD, List.getElem?_eq_getElem hlt]; exact List.getElem_mem hlt)
      have t2 : IntKind.i64.wrap ((k : Int) + 1) = (k : Int) + 1 := by
        have := hlen
        exact IntWalk.i64_in _ (by omega)
      clear hok
      generalize qs.getD k sa0 = x at *
      obtain ⟨ak, ai, ar, ad⟩ := x
      simp only at *
      have hk0 : (0 : Int) ≤ (k : Int) := by omega
      have hki : (k : Int) < (qs.length : Int) := by omega
      have bA := hb.alloc hb.size (.cells #[.int .i64 ak, .int .i64 ai, .int .i64 ar, .string ad] 32)
      by_cases hs : ad.size ≤ 500
      · have HX := Lib.hid (show fewS ⟨ak, ai, ar, ad⟩ = true by simpa [fewS] using hs)
        have d2 : decide ((500 : Int) < (ad.size : Int)) = false := by simp; omega
        clear hs
        go_wp2_with fail
        go_roundw
        case rel => exact ⟨k + 1, by omega, by go_num, Lib.hid (by rw [HT.out]; intro y hy; rcases List.mem_append.1 hy with hy | hy; exact HALL.out y hy; rw [List.mem_singleton.1 hy]; exact HX.out), bA⟩
        case measure => simp [intOf]; omega
      · have HF := Lib.hid (show few10 qs = false by
          unfold few10
          rw [List.all_eq_false.2 ⟨_, HMEM.out, by simpa [fewS] using hs⟩]; rfl)
        have d2 : decide ((500 : Int) < (ad.size : Int)) = true := by simp; omega
        clear hs
        go_wp2_with fail
        go_ret
        exact ⟨by rw [HF.out]; rfl, bA⟩
    · obtain rfl : k = qs.length := by omega
      have HF := Lib.hid (show few10 qs = decide (qs.length ≤ 60) by
        have := HALL.out
        rw [List.take_length] at this
        unfold few10
        rw [List.all_eq_true.2 this]; rfl)
      clear hlt
      by_cases h60 : qs.length ≤ 60
      · have HF2 := Lib.hid (show few10 qs = true by rw [HF.out]; simpa using h60)
        have hd : decide ((qs.length : Int) ≤ 60) = true := by simp; omega
        go_wp2_with fail
        go_ret
        exact ⟨(by rw [HF2.out]; rfl), hb⟩
      · have HF2 := Lib.hid (show few10 qs = false by rw [HF.out]; simpa using h60)
        have hd : decide ((qs.length : Int) ≤ 60) = false := by simp; omega
        go_wp2_with fail
        go_ret
        exact ⟨(by rw [HF2.out]; rfl), hb⟩
end Go.Proofs.Ytckengglamkaaaa
