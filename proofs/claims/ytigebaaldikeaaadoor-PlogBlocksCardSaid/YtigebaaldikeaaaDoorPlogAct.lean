/- Law 6's acts that came in; are they few? No conditions beyond those in each statement. -/
import Derived.Test.YtigebaaldikeaaaDoorPlogEnt
import Derived.Test.YtigebaaldikeaaaDoorDevArgs
import Derived.Deep.Slices
import Derived.Deep.Fields
import Derived.SliceStrings
import Derived.ProofKit
import Derived.OpenShut
namespace Go.Proofs.YtigebaaldikeaaaDoor
open Go.ChangeShapes Go.WideShapes Go.ChangeAt Go.Deep Go.RowKit
open Go.ChangeMaps (open_string shut_string)
set_option linter.unusedVariables false
set_option maxRecDepth 100000

section
variable {H : Type} {enc : TypeId × Value → H} {P : Program} {w : World} {base : Nat} {spare : Nat → Bool} {held : Bool}
theorem open_slice_fields {t e : TypeId} {fs : Array Field} {fuel : Nat} {cs : List Value} {x : DataW H × List MemPlace} (ht : P.underlying t = some (.slice e)) (he : P.underlying e = some (.struct fs))
    (hone : oneCellFields P fs = true) (hC : P.cellsOf e = fs.size) (h : DataW.trod enc P w base spare held fuel t cs = some x) :
    (cs = [.slice none 0 0] ∧ x = (.nil, [])) ∨
    ∃ (a : Addr) (len cap m : Nat) (D : Nat → DataW H), cs = [.slice (some a) len cap] ∧ len ≤ cap ∧ cap ≤ maxLen ∧ m = (if spare a.block then cap else len) ∧
      ∀ i, i < m → ∃ (ys : List (DataW H × List MemPlace)) (n : Nat), ys.length = fs.size ∧
        ∀ (j : Nat) (f : Field), fs[j]? = some f → ∃ (v : Value) (y : DataW H × List MemPlace), w.cell? (a.add (i * fs.size + j)) = some v ∧ ys[j]? = some y ∧ DataW.trod enc P w base spare held n f.type [v] = some y := by
  rcases open_slice ht h with h0 | ⟨a, len, cap, m, n, D, Pl, hcs, hb, hl, hm, hmm, hx, hi⟩
  · exact .inl h0
  · refine .inr ⟨a, len, cap, m, D, hcs, hl, hm, hmm, fun i him => ?_⟩
    obtain ⟨cs', hc, ht'⟩ := hi i him
    rw [hC] at hc
    obtain ⟨ys, n', hn', hy, hlen, hyl, hf⟩ := DataW.trod_struct he ht'
    obtain ⟨_, hcl, hat⟩ := World.cells?_some hc
    refine ⟨ys, n', hyl, fun j f hj => ?_⟩
    obtain ⟨ho, hk⟩ := hone_of hone j f hj
    have hjl : j < fs.size := (Array.getElem?_eq_some_iff.1 hj).1
    have hcell := hat j hjl
    have hv : cs'[j]? = some (cs'[j]'(by omega)) := List.getElem?_eq_getElem (by omega)
    have h1 := hf j f hj
    rw [ho, hk] at h1
    have hone' : (cs'.drop j).take 1 = [cs'[j]'(by omega)] := by
      rw [List.drop_eq_getElem_cons (by omega)]
      rfl
    rw [hone'] at h1
    have hys : ys[j]? = some (ys[j]'(by omega)) := List.getElem?_eq_getElem (by omega)
    refine ⟨_, _, ?_, hys, h1.trans hys⟩
    rw [← Go.Deep.add_add, hcell, hv]
theorem fts_trod {n : Nat} {v : Value} {y : DataW H × List MemPlace} (hf : DataW.trod enc Tryd.prog w base spare held n 44 [v] = some y) : ∃ zs, Fts w v zs := by
  rcases open_ints und_fates' und_fate (by kernel_rfl) hf with ⟨hcs, _⟩ | ⟨x, l, c, zs, hcs, _, hl, hm, hz, _, hcell, hwz⟩
  · obtain rfl : v = .slice none 0 0 := by simpa using hcs
    exact ⟨[], Fts.nil w⟩
  · obtain rfl : v = .slice (some x) l c := by simpa using hcs
    have hlz : l ≤ zs.length := by rw [hz]; split <;> omega
    refine ⟨zs.take l, some x, c, by rw [List.length_take, Nat.min_eq_left hlz], by rw [List.length_take]; omega, ?_⟩
    by_cases h0 : l = 0
    · exact .inl (by rw [List.length_take]; omega)
    · obtain ⟨b, off, spot⟩ := x
      have hc0 := hcell 0 (by omega)
      have hspot : spot = none := by simpa [Addr.add] using World.cell?_spot hc0
      subst hspot
      have hadd : ∀ j : Nat, (Addr.add ⟨b, off, none⟩ j : Addr) = ⟨b, off + j, none⟩ := fun j => by simp [Addr.add]
      refine .inr ⟨b, off, rfl, ?_, fun j hj => ?_⟩
      · rw [hadd] at hc0
        exact World.block_lt_of_cell? w _ hc0
      · have hj' : j < l := by rw [List.length_take] at hj; omega
        have := hcell j (by omega)
        rw [hadd] at this
        rw [this]
        simp [List.getD_eq_getElem?_getD, hj']
end
/-- An act with its fates. -/
structure Aq6 where
  a : Ac6
  fv : Value
  zs : List Int
def aq0 : Aq6 := ⟨⟨0, 0, 0, 0, 0, ByteArray.empty⟩, .slice none 0 0, []⟩
def in64 (n : Int) : Prop := -9223372036854775808 ≤ n ∧ n ≤ 9223372036854775807
structure Ac6.Ok (a : Ac6) : Prop where
  k : in64 a.k
  n : in64 a.n
  term : in64 a.term
  back : in64 a.back
  fall : in64 a.fall
  data : a.data.size ≤ maxLen
/-- A slice of acts that can be read. -/
def Acts6 (w : World) (v : Value) (qs : List Aq6) : Prop :=
  ∃ a cap, v = .slice a qs.length cap ∧ qs.length ≤ maxLen ∧ (∀ x ∈ qs, x.a.Ok ∧ Fts w x.fv x.zs) ∧ (qs.length = 0 ∨ ∃ g off, a = some ⟨g, off, none⟩ ∧ g < w.heap.size ∧ ∀ j, j < qs.length →
    w.cell? ⟨g, off + j * 7, none⟩ = some (.int .i64 (qs.getD j aq0).a.k) ∧ w.cell? ⟨g, off + j * 7 + 1, none⟩ = some (.int .i64 (qs.getD j aq0).a.n) ∧ w.cell? ⟨g, off + j * 7 + 2, none⟩ = some (.int .i64 (qs.getD j aq0).a.term) ∧
    w.cell? ⟨g, off + j * 7 + 3, none⟩ = some (.int .i64 (qs.getD j aq0).a.back) ∧ w.cell? ⟨g, off + j * 7 + 4, none⟩ = some (.int .i64 (qs.getD j aq0).a.fall) ∧ w.cell? ⟨g, off + j * 7 + 5, none⟩ = some (.string (qs.getD j aq0).a.data) ∧ w.cell? ⟨g, off + j * 7 + 6, none⟩ = some (qs.getD j aq0).fv)
theorem Acts6.below {w x : World} {v : Value} {qs : List Aq6} (h : Acts6 w v qs) (hb : Below w.heap.size w x) : Acts6 x v qs := by
  obtain ⟨a, cap, hv, hm, ho, h⟩ := h
  refine ⟨a, cap, hv, hm, fun q hq => ⟨(ho q hq).1, (ho q hq).2.below hb⟩, h.imp id ?_⟩
  rintro ⟨g, off, ha, hg, hc⟩
  refine ⟨g, off, ha, Nat.lt_of_lt_of_le hg hb.size, fun j hj => ?_⟩
  obtain ⟨h0, h1, h2, h3, h4, h5, h6⟩ := hc j hj
  exact ⟨(hb.cell (p := ⟨g, _, none⟩) hg).trans h0, (hb.cell (p := ⟨g, _, none⟩) hg).trans h1, (hb.cell (p := ⟨g, _, none⟩) hg).trans h2, (hb.cell (p := ⟨g, _, none⟩) hg).trans h3, (hb.cell (p := ⟨g, _, none⟩) hg).trans h4, (hb.cell (p := ⟨g, _, none⟩) hg).trans h5, (hb.cell (p := ⟨g, _, none⟩) hg).trans h6⟩
/-- The cells of an act, in a world that has grown. -/
theorem act6_at {w x : World} {a : Option Addr} {cap k : Nat} {qs : List Aq6} (h : Acts6 w (.slice a qs.length cap) qs) (hb : Below w.heap.size w x) (hk : k < qs.length) : (qs.getD k aq0).a.Ok ∧ Fts x (qs.getD k aq0).fv (qs.getD k aq0).zs ∧
    ∃ g off, a = some ⟨g, off, none⟩ ∧ x.cell? ⟨g, off + k * 7, none⟩ = some (.int .i64 (qs.getD k aq0).a.k) ∧ x.cell? ⟨g, off + k * 7 + 1, none⟩ = some (.int .i64 (qs.getD k aq0).a.n) ∧ x.cell? ⟨g, off + k * 7 + 2, none⟩ = some (.int .i64 (qs.getD k aq0).a.term) ∧
    x.cell? ⟨g, off + k * 7 + 3, none⟩ = some (.int .i64 (qs.getD k aq0).a.back) ∧ x.cell? ⟨g, off + k * 7 + 4, none⟩ = some (.int .i64 (qs.getD k aq0).a.fall) ∧ x.cell? ⟨g, off + k * 7 + 5, none⟩ = some (.string (qs.getD k aq0).a.data) ∧ x.cell? ⟨g, off + k * 7 + 6, none⟩ = some (qs.getD k aq0).fv := by
  obtain ⟨_, _, e0, _, ho, h⟩ := h.below hb
  obtain ⟨rfl, rfl⟩ : a = _ ∧ cap = _ := by simpa using e0
  have hm : qs.getD k aq0 ∈ qs := by
    rw [List.getD_eq_getElem?_getD, List.getElem?_eq_getElem hk]
    exact List.getElem_mem hk
  refine ⟨(ho _ hm).1, (ho _ hm).2, ?_⟩
  rcases h with h | ⟨g, off, rfl, hg, hc⟩
  · omega
  · exact ⟨g, off, rfl, hc k hk⟩
/-- Few acts? -/
def few6 (qs : List Aq6) : Bool := qs.all (fun q => decide (q.a.data.size ≤ 200 ∧ q.zs.length ≤ 40)) && decide (qs.length ≤ 30)
theorem few6_at {qs : List Aq6} (h : few6 qs = true) {k : Nat} (hk : k < qs.length) : (qs.getD k aq0).a.data.size ≤ 200 ∧ (qs.getD k aq0).zs.length ≤ 40 ∧ qs.length ≤ 30 := by
  unfold few6 at h
  rw [Bool.and_eq_true] at h
  have hm : qs.getD k aq0 ∈ qs := by
    rw [List.getD_eq_getElem?_getD, List.getElem?_eq_getElem hk]
    exact List.getElem_mem hk
  have := List.all_eq_true.1 h.1 _ hm
  simp at this
  exact ⟨this.1, this.2, by simpa using h.2⟩
set_option maxHeartbeats 4000000 in
theorem few6_any (a : Option Addr) (cap : Nat) (qs : List Aq6) (w : World) (h : Acts6 w (.slice a qs.length cap) qs) :
    Calls Tryd.prog 19 #[.slice a qs.length cap] w fun e w' => e = .returned (.bool (few6 qs)) ∧ Below w.heap.size w w' := by
  have hlen : qs.length ≤ 9223372036854775807 := by obtain ⟨_, _, _, hm, _⟩ := h; unfold maxLen at hm; omega
  have HA := Lib.hid h
  clear h
  go_enter Tryd.func19, Tryd.ntmps19
  go_wp2
  go_loopw [7] (fun i wr => ∃ k : Nat, k ≤ qs.length ∧ i = .int .i64 k ∧ (∀ x ∈ qs.take k, x.a.data.size ≤ 200 ∧ x.zs.length ≤ 40) ∧ Below w.heap.size w wr) (fun i _ => qs.length - (intOf i).toNat)
  case atStart => exact ⟨0, Nat.zero_le _, rfl, by simp, Below.refl _ _⟩
  case round =>
    obtain ⟨k, hk, rfl, hall, hb⟩ := hrel
    have HALL := Lib.hid hall
    clear hall
    by_cases hlt : k < qs.length
    · obtain ⟨hok, hfz, g, off, rfl, h0, h1, h2, h3, h4, h5, h6⟩ := act6_at HA.out hb hlt
      have hsz := hok.data
      unfold maxLen at hsz
      have HT := Lib.hid (show qs.take (k + 1) = qs.take k ++ [qs.getD k aq0] by rw [List.take_succ_eq_append_getElem hlt, List.getD_eq_getElem?_getD, List.getElem?_eq_getElem hlt]; rfl)
      have HMEM := Lib.hid (show qs.getD k aq0 ∈ qs by rw [List.getD_eq_getElem?_getD, List.getElem?_eq_getElem hlt]; exact List.getElem_mem hlt)
      clear hok
      generalize qs.getD k aq0 = x at *
      obtain ⟨fa, fcap, hfv, hfm, _⟩ := hfz
      obtain ⟨⟨ak, an, at', ab, af, ad⟩, xfv, xzs⟩ := x
      simp only at *
      subst hfv
      unfold maxLen at hfm
      by_cases hs : 200 < ad.size
      · have hd : decide ((200 : Int) < (ad.size : Int)) = true := by simp; omega
        have HF := Lib.hid (show few6 qs = false by
          unfold few6
          rw [List.all_eq_false.2 ⟨_, HMEM.out, by simp; omega⟩]
          rfl)
        clear hs
        go_wp2
        go_ret
        exact ⟨(by rw [HF.out]; rfl), hb.alloc hb.size _⟩
      · have hd : decide ((200 : Int) < (ad.size : Int)) = false := by simp; omega
        by_cases hz : 40 < xzs.length
        · have hd2 : decide ((40 : Int) < (xzs.length : Int)) = true := by simp; omega
          have HF := Lib.hid (show few6 qs = false by
            unfold few6
            rw [List.all_eq_false.2 ⟨_, HMEM.out, by simp; omega⟩]
            rfl)
          clear hs hz
          go_wp2
          go_ret
          exact ⟨(by rw [HF.out]; rfl), hb.alloc hb.size _⟩
        · have hd2 : decide ((40 : Int) < (xzs.length : Int)) = false := by simp; omega
          have HX := Lib.hid (show ad.size ≤ 200 ∧ xzs.length ≤ 40 by omega)
          clear hs hz
          go_wp2
          go_roundw
          case rel => exact ⟨k + 1, by omega, by go_num, (by rw [HT.out]; intro y hy; rcases List.mem_append.1 hy with hy | hy; exact HALL.out y hy; rw [List.mem_singleton.1 hy]; exact HX.out), hb.alloc hb.size _⟩
          case measure => simp [intOf]; omega
    · obtain rfl : k = qs.length := by omega
      have HF := Lib.hid (show few6 qs = decide (qs.length ≤ 30) by
        have := HALL.out
        rw [List.take_length] at this
        unfold few6
        rw [List.all_eq_true.2 (fun x hx => by simpa using this x hx)]
        rfl)
      clear hlt
      by_cases h60 : qs.length ≤ 30
      · have HF2 := Lib.hid (show few6 qs = true by rw [HF.out]; simpa using h60)
        have hd : decide ((qs.length : Int) ≤ 30) = true := by simp; omega
        go_wp2
        go_ret
        exact ⟨(by rw [HF2.out]; rfl), hb⟩
      · have HF2 := Lib.hid (show few6 qs = false by rw [HF.out]; simpa using h60)
        have hd : decide ((qs.length : Int) ≤ 30) = false := by simp; omega
        go_wp2
        go_ret
        exact ⟨(by rw [HF2.out]; rfl), hb⟩
section
variable {H : Type} {enc : TypeId × Value → H} {W : World} {base b0 : Nat} {spare : Nat → Bool} {held : Bool} {v : Value} {d : DataW H} {p : List MemPlace}
theorem und_int6 : Tryd.prog.underlying 3 = some (.int .i64) := by kernel_rfl
theorem und_acts6 : Tryd.prog.underlying 39 = some (.slice 46) := by kernel_rfl
theorem act6_fields : ∃ fs, Tryd.prog.underlying 46 = some (.struct fs) ∧ oneCellFields Tryd.prog fs = true ∧ Tryd.prog.cellsOf 46 = fs.size ∧ fs.size = 7 ∧
    (∀ f, fs[0]? = some f → f.type = 3) ∧ (∀ f, fs[1]? = some f → f.type = 3) ∧ (∀ f, fs[2]? = some f → f.type = 3) ∧ (∀ f, fs[3]? = some f → f.type = 3) ∧ (∀ f, fs[4]? = some f → f.type = 3) ∧ (∀ f, fs[5]? = some f → f.type = 9) ∧ (∀ f, fs[6]? = some f → f.type = 44) := by
  refine ⟨_, Tryd.underlying46, by kernel_rfl, by kernel_rfl, rfl, ?_, ?_, ?_, ?_, ?_, ?_, ?_⟩ <;> (intro f hf; simp at hf; rw [← hf])
theorem wf_i64 {n : Int} (h : (Lit.int .i64 n).wf = true) : in64 n := by
  have h' : IntKind.i64.min ≤ n ∧ n ≤ IntKind.i64.max := by simpa [Lit.wf] using h
  have h1 : IntKind.i64.min = -9223372036854775808 := by rfl
  have h2 : IntKind.i64.max = 9223372036854775807 := by rfl
  unfold in64
  omega
theorem acts6_of (hv : Value.okWide Tryd.prog W .any b0 39 v) (h : DataW.Trod enc Tryd.prog W base spare held 39 v d p) : ∃ qs, Acts6 W v qs := by
  obtain ⟨a, len, cap, rfl⟩ := okWide_slice und_acts6 hv
  obtain ⟨fuel, hf⟩ := h
  obtain ⟨fs, g1, g2, g3, g4, f0, f1, f2, f3, f4, f5, f6⟩ := act6_fields
  rcases open_slice_fields und_acts6 g1 g2 g3 hf with ⟨hcs, _⟩ | ⟨x, l, c, m, D, hcs, hl, hm, hmm, hi⟩
  · simp [Value.cells] at hcs
    obtain ⟨rfl, rfl, rfl⟩ := hcs
    exact ⟨[], _, _, rfl, Nat.zero_le _, (fun x hx => by cases hx), .inl rfl⟩
  · simp [Value.cells] at hcs
    obtain ⟨rfl, rfl, rfl⟩ := hcs
    have hml : len ≤ m := by rw [hmm]; split <;> omega
    have hx : ∀ i, i < len → ∃ q : Aq6, (q.a.Ok ∧ Fts W q.fv q.zs) ∧ (W.cell? (x.add (i * 7)) = some (.int .i64 q.a.k) ∧ W.cell? (x.add (i * 7 + 1)) = some (.int .i64 q.a.n) ∧ W.cell? (x.add (i * 7 + 2)) = some (.int .i64 q.a.term) ∧ W.cell? (x.add (i * 7 + 3)) = some (.int .i64 q.a.back) ∧ W.cell? (x.add (i * 7 + 4)) = some (.int .i64 q.a.fall) ∧ W.cell? (x.add (i * 7 + 5)) = some (.string q.a.data) ∧ W.cell? (x.add (i * 7 + 6)) = some q.fv) := by
      intro i hil
      obtain ⟨ys, n, hys, hfs⟩ := hi i (by omega)
      have s0 : fs[0]? = some (fs[0]'(by omega)) := Array.getElem?_eq_getElem (by omega)
      have s1 : fs[1]? = some (fs[1]'(by omega)) := Array.getElem?_eq_getElem (by omega)
      have s2 : fs[2]? = some (fs[2]'(by omega)) := Array.getElem?_eq_getElem (by omega)
      have s3 : fs[3]? = some (fs[3]'(by omega)) := Array.getElem?_eq_getElem (by omega)
      have s4 : fs[4]? = some (fs[4]'(by omega)) := Array.getElem?_eq_getElem (by omega)
      have s5 : fs[5]? = some (fs[5]'(by omega)) := Array.getElem?_eq_getElem (by omega)
      have s6 : fs[6]? = some (fs[6]'(by omega)) := Array.getElem?_eq_getElem (by omega)
      obtain ⟨v0, y0, c0, _, t0⟩ := hfs 0 _ s0
      obtain ⟨v1, y1, c1, _, t1⟩ := hfs 1 _ s1
      obtain ⟨v2, y2, c2, _, t2⟩ := hfs 2 _ s2
      obtain ⟨v3, y3, c3, _, t3⟩ := hfs 3 _ s3
      obtain ⟨v4, y4, c4, _, t4⟩ := hfs 4 _ s4
      obtain ⟨v5, y5, c5, _, t5⟩ := hfs 5 _ s5
      obtain ⟨v6, y6, c6, _, t6⟩ := hfs 6 _ s6
      rw [f0 _ s0] at t0
      rw [f1 _ s1] at t1
      rw [f2 _ s2] at t2
      rw [f3 _ s3] at t3
      rw [f4 _ s4] at t4
      rw [f5 _ s5] at t5
      rw [f6 _ s6] at t6
      rw [g4] at c0 c1 c2 c3 c4 c5 c6
      obtain ⟨n0, e0, _, w0⟩ := DataW.trod_int und_int6 t0
      obtain ⟨n1, e1, _, w1⟩ := DataW.trod_int und_int6 t1
      obtain ⟨n2, e2, _, w2⟩ := DataW.trod_int und_int6 t2
      obtain ⟨n3, e3, _, w3⟩ := DataW.trod_int und_int6 t3
      obtain ⟨n4, e4, _, w4⟩ := DataW.trod_int und_int6 t4
      obtain ⟨s, e5, _, w5⟩ := DataW.trod_string und_str t5
      obtain ⟨zs, hz⟩ := fts_trod t6
      simp at e0 e1 e2 e3 e4 e5
      subst e0 e1 e2 e3 e4 e5
      exact ⟨⟨⟨n0, n1, n2, n3, n4, s⟩, v6, zs⟩, ⟨⟨wf_i64 w0, wf_i64 w1, wf_i64 w2, wf_i64 w3, wf_i64 w4, w5⟩, hz⟩, c0, c1, c2, c3, c4, c5, c6⟩
    by_cases hz : len = 0
    · exact ⟨[], some x, cap, by rw [hz]; rfl, Nat.zero_le _, (fun x hx => by cases hx), .inl rfl⟩
    · obtain ⟨q0, _, h0, _⟩ := hx 0 (by omega)
      obtain ⟨b, off, spot⟩ := x
      have hspot : spot = none := by simpa [Addr.add] using World.cell?_spot h0
      subst hspot
      have hadd : ∀ j : Nat, (Addr.add ⟨b, off, none⟩ j : Addr) = ⟨b, off + j, none⟩ := fun j => by simp [Addr.add]
      have hget : ∀ j, j < len → ((List.range len).map fun i => if hil : i < len then Classical.choose (hx i hil) else aq0).getD j aq0 = if hil : j < len then Classical.choose (hx j hil) else aq0 := fun j hj => by
        simp [hj]
      refine ⟨(List.range len).map fun i => if hil : i < len then Classical.choose (hx i hil) else aq0, some ⟨b, off, none⟩, cap, by simp, by simp; omega, ?_, .inr ⟨b, off, rfl, ?_, ?_⟩⟩
      · intro q hq
        obtain ⟨i, hi', rfl⟩ := List.mem_map.1 hq
        rw [dif_pos (List.mem_range.1 hi')]
        exact (Classical.choose_spec (hx i (List.mem_range.1 hi'))).1
      · have := World.block_lt_of_cell? W _ h0
        rwa [hadd] at this
      · intro j hj
        simp only [List.length_map, List.length_range] at hj
        have hspec := (Classical.choose_spec (hx j hj)).2
        rw [hget j hj, dif_pos hj]
        simp only [hadd, Nat.add_assoc] at hspec ⊢
        exact hspec
end
end Go.Proofs.YtigebaaldikeaaaDoor
