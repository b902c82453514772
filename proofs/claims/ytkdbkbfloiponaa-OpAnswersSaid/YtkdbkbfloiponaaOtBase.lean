/- Results as values: outs, rows of them, blocks; Same. No conditions beyond those in each statement. -/
import Derived.Test.YtkdbkbfloiponaaOpArgs
namespace Go.Proofs.Ytkdbkbfloiponaa
open Go.RowKit
set_option linter.unusedVariables false
set_option linter.unusedSimpArgs false
set_option maxRecDepth 100000

/-- What an operation came to. -/
structure Ot where
  path : ByteArray
  ver : Int
def Ot.zero : Ot := ⟨⟨#[]⟩, 0⟩
structure Ot.Ok (o : Ot) : Prop where
  path : o.path.size ≤ maxLen
  ver : InR o.ver
def otOne (o : Ot) : List Value := [.string o.path, .int .i64 o.ver]
def otV (o : Ot) : Value := .agg #[.string o.path, .int .i64 o.ver]
def otA (o : Ot) : Array Value := #[.string o.path, .int .i64 o.ver]
theorem otOne_len (x : Ot) : (otOne x).length = 2 := rfl
theorem otOne_one (x : Ot) : ∀ v ∈ otOne x, v.oneCell' = true := by
  intro v hv
  simp only [otOne, List.mem_cons, List.not_mem_nil, or_false] at hv
  rcases hv with rfl | rfl <;> rfl
def OtC (w : World) (g o : Nat) (x : Ot) : Prop := w.cell? ⟨g, o, none⟩ = some (.string x.path) ∧ w.cell? ⟨g, o + 1, none⟩ = some (.int .i64 x.ver)
theorem OtC.below {w x : World} {g o : Nat} {q : Ot} (h : OtC w g o q) (hb : Below w.heap.size w x) (hg : g < w.heap.size) : OtC x g o q := by
  obtain ⟨h0, h1⟩ := h
  exact ⟨(hb.cell (p := ⟨g, _, none⟩) hg).trans h0, (hb.cell (p := ⟨g, _, none⟩) hg).trans h1⟩
/-- A slice of outs that can be read. -/
def OtsR (w : World) (v : Value) (L : List Ot) : Prop :=
  ∃ p cap, v = .slice p L.length cap ∧ L.length ≤ maxLen ∧ (∀ x ∈ L, x.Ok) ∧ (L.length = 0 ∨ ∃ g off, p = some ⟨g, off, none⟩ ∧ g < w.heap.size ∧ ∀ j, j < L.length → OtC w g (off + j * 2) (L.getD j Ot.zero))
theorem OtsR.below {w x : World} {v : Value} {L : List Ot} (h : OtsR w v L) (hb : Below w.heap.size w x) : OtsR x v L := by
  obtain ⟨a, cap, hv, hm, ho, h⟩ := h
  refine ⟨a, cap, hv, hm, ho, h.imp id ?_⟩
  rintro ⟨g, off, ha, hg, hc⟩
  exact ⟨g, off, ha, Nat.lt_of_lt_of_le hg hb.size, fun j hj => (hc j hj).below hb hg⟩
theorem OtsR.at {w x : World} {a : Option Addr} {cap k : Nat} {L : List Ot} (h : OtsR w (.slice a L.length cap) L) (hb : Below w.heap.size w x) (hk : k < L.length) : (L.getD k Ot.zero).Ok ∧ ∃ g off, a = some ⟨g, off, none⟩ ∧ OtC x g (off + k * 2) (L.getD k Ot.zero) := by
  obtain ⟨_, _, e0, _, ho, h⟩ := h.below hb
  obtain ⟨rfl, rfl⟩ : a = _ ∧ cap = _ := by simpa using e0
  refine ⟨ho _ (getD_mem hk), ?_⟩
  rcases h with h | ⟨g, off, rfl, hg, hc⟩
  · omega
  · exact ⟨g, off, rfl, hc k hk⟩
/-- An out in a block of its own. -/
def OtB (w : World) (b : Nat) (o : Ot) : Prop := w.heap[b]? = some (.cells (otA o) 40 (0, 0))
theorem OtB.lt {w : World} {b : Nat} {o : Ot} (h : OtB w b o) : b < w.heap.size := (Array.getElem?_eq_some_iff.1 h).1
theorem OtB.below {w w' : World} {b : Nat} {o : Ot} (h : OtB w b o) (hb : Below w.heap.size w w') : OtB w' b o := (hb.block b h.lt).trans h
theorem OtB.cells {w : World} {b : Nat} {n : Ot} (h : OtB w b n) : w.cell? ⟨b, 0, none⟩ = some (.string n.path) ∧ w.cell? ⟨b, 1, none⟩ = some (.int .i64 n.ver) := by
  unfold OtB otA at h
  simp [World.cell?, h]
theorem OtB.new (w : World) (n : Ot) : OtB (w.alloc (.cells (otA n) 40)) w.heap.size n := heap_alloc_new w _
theorem und_ots : Try.prog.underlying 34 = some (.slice 40) := by kernel_rfl
theorem info_ot : (Try.prog.info? 40).map (fun i => (i.zero, i.size, i.bytes)) = some (some (otV Ot.zero), 2, 24) := by kernel_rfl
/-- A row of outs of one's own. -/
def TRow (w : World) (base : Nat) (v : Value) (L : List Ot) : Prop := w.ownsRow base 40 2 v L.length (cellsK otOne L)
theorem TRow.below {w w' : World} {base : Nat} {v : Value} {L : List Ot} (h : TRow w base v L) (hb : Below w.heap.size w w') : TRow w' base v L := by
  refine ⟨h.1, h.2.imp id ?_⟩
  rintro ⟨g, c, cur, h1, h3, h4, h5⟩
  exact ⟨g, c, cur, h1, h3, (hb.block g (Array.getElem?_eq_some_iff.1 h4).1).trans h4, h5⟩
theorem TRow.kept {w w' : World} {base : Nat} {v : Value} {r : Nat} {L : List Ot} (h : TRow w base v L) (hg : w.grownBy w' (some r)) (hr : r < base) : TRow w' base v L := by
  refine ⟨h.1, h.2.imp id ?_⟩
  rintro ⟨g, cc, cur, h1, h3, h4, h5⟩
  exact ⟨g, cc, cur, h1, h3, (hg.block g (Array.getElem?_eq_some_iff.1 h4).1 (fun e => by have := Option.some.inj e; omega)).trans h4, h5⟩
theorem TRow.set {w : World} {base : Nat} {v : Value} {b i : Nat} {u : Value} {L : List Ot} (h : TRow w base v L) (hr : b < base) : TRow (w.setCell ⟨b, i, none⟩ u) base v L := by
  refine ⟨h.1, h.2.imp id ?_⟩
  rintro ⟨g, cc, cur, h1, h3, h4, h5⟩
  exact ⟨g, cc, cur, h1, h3, kept_set h4 (by omega), h5⟩
theorem TRow.nil (w : World) (base : Nat) : TRow w base (.slice none 0 0) [] := World.ownsRow_nil _ _ _ _
theorem TRow.form {w : World} {base : Nat} {v : Value} {L : List Ot} (h : TRow w base v L) : ∃ a c, v = .slice a L.length c ∧ (0 < L.length → ∃ g, a = some ⟨g, 0, none⟩ ∧ g < w.heap.size) := by
  rcases h.2 with ⟨h1, h2⟩ | ⟨g, c, cur, h1, _, h4, _⟩
  · exact ⟨none, 0, by rw [h1, h2], fun h => by omega⟩
  · exact ⟨_, _, h1, fun _ => ⟨g, rfl, (Array.getElem?_eq_some_iff.1 h4).1⟩⟩
theorem TRow.own {w : World} {base : Nat} {v : Value} {L : List Ot} (h : TRow w base v L) {g : Nat} (hg : v.ownBlock = some g) : base ≤ g ∧ g < w.heap.size := by
  rcases h.2 with ⟨h1, _⟩ | ⟨g', c, cur, h1, h3, h4, _⟩
  · rw [h1] at hg; simp [Value.ownBlock] at hg
  · rw [h1] at hg; simp [Value.ownBlock] at hg; subst hg; exact ⟨h3, (Array.getElem?_eq_some_iff.1 h4).1⟩
theorem TRow.less {w : World} {base base' : Nat} {v : Value} {L : List Ot} (h : TRow w base v L) (hb : base' ≤ base) : TRow w base' v L := by
  refine ⟨h.1, h.2.imp id ?_⟩
  rintro ⟨g, c, cur, h1, h3, h4⟩
  exact ⟨g, c, cur, h1, by omega, h4⟩
theorem TRow.otC {w : World} {base g c : Nat} {L : List Ot} (h : TRow w base (.slice (some ⟨g, 0, none⟩) L.length c) L) {j : Nat} (hj : j < L.length) : OtC w g (j * 2) (L.getD j Ot.zero) := by
  have hx : L[j]? = some (L.getD j Ot.zero) := by rw [List.getD_eq_getElem?_getD, List.getElem?_eq_getElem hj]; rfl
  have h1 : ∀ i, i < 2 → w.cell? ⟨g, j * 2 + i, none⟩ = (otOne (L.getD j Ot.zero))[i]? := fun i hi => by
    have := World.ownsRow.cellAt h (j * 2 + i) (by omega)
    rw [this, cellsK_at otOne_len L j i _ hx hi]
  exact ⟨h1 0 (by decide), h1 1 (by decide)⟩
theorem TRow.otsR {w : World} {base : Nat} {v : Value} {L : List Ot} (h : TRow w base v L) (hL : L.length ≤ maxLen) (ho : ∀ x ∈ L, x.Ok) : OtsR w v L := by
  obtain ⟨a, c, rfl, hg⟩ := h.form
  refine ⟨a, c, rfl, hL, ho, ?_⟩
  by_cases h0 : L.length = 0
  · exact .inl h0
  · obtain ⟨g, rfl, hgw⟩ := hg (by omega)
    exact .inr ⟨g, 0, rfl, hgw, fun j hj => by rw [Nat.zero_add]; exact h.otC hj⟩
/-- A result. -/
structure Rt where
  e : Int
  at_ : Int
  outs : List Ot
  when_ : Int
def Rt.zero : Rt := ⟨0, 0, [], 0⟩
structure Rt.Ok (c : Rt) : Prop where
  e : InR c.e
  at_ : InR c.at_
  when_ : InR c.when_
def rtV (v : Value) (c : Rt) : Value := .agg #[.int .i64 c.e, .int .i64 c.at_, v, .int .i64 c.when_]
def rtA (v : Value) (c : Rt) : Array Value := #[.int .i64 c.e, .int .i64 c.at_, v, .int .i64 c.when_]
def RtB (w : World) (b : Nat) (v : Value) (c : Rt) : Prop := w.heap[b]? = some (.cells (rtA v c) 36 (0, 0))
theorem RtB.lt {w : World} {b : Nat} {v : Value} {o : Rt} (h : RtB w b v o) : b < w.heap.size := (Array.getElem?_eq_some_iff.1 h).1
theorem RtB.below {w w' : World} {b : Nat} {v : Value} {o : Rt} (h : RtB w b v o) (hb : Below w.heap.size w w') : RtB w' b v o := (hb.block b h.lt).trans h
theorem RtB.kept {w w' : World} {b : Nat} {v : Value} {o : Rt} {r : Option Nat} (h : RtB w b v o) (hg : w.grownBy w' r) (hr : some b ≠ r) : RtB w' b v o := (hg.block b h.lt hr).trans h
theorem RtB.cells {w : World} {b : Nat} {v : Value} {n : Rt} (h : RtB w b v n) : (w.cell? ⟨b, 0, none⟩ = some (.int .i64 n.e) ∧ w.cell? ⟨b, 1, none⟩ = some (.int .i64 n.at_) ∧ w.cell? ⟨b, 2, none⟩ = some v ∧ w.cell? ⟨b, 3, none⟩ = some (.int .i64 n.when_)) ∧
    (w.frozen? ⟨b, 0, none⟩ = false ∧ w.frozen? ⟨b, 1, none⟩ = false ∧ w.frozen? ⟨b, 2, none⟩ = false ∧ w.frozen? ⟨b, 3, none⟩ = false) := by
  unfold RtB rtA at h
  simp [World.cell?, World.frozen?, h]
theorem RtB.new (w : World) (v : Value) (n : Rt) : RtB (w.alloc (.cells (rtA v n) 36)) w.heap.size v n := heap_alloc_new w _
theorem RtB.set {w : World} {b c i : Nat} {u v : Value} {o : Rt} (h : RtB w c v o) (hne : c ≠ b) : RtB (w.setCell ⟨b, i, none⟩ u) c v o := kept_set h hne
theorem RtB.put2 {x : World} {b : Nat} {u v : Value} {m : Rt} (h : RtB x b u m) (L : List Ot) : RtB (x.setCell ⟨b, 2, none⟩ v) b v { m with outs := L } := by
  unfold RtB rtA at h ⊢
  have h0 := block_setCell (i := 2) (u := v) h
  simp only [List.setIfInBounds_toArray, List.set_cons_zero, List.set_cons_succ] at h0
  exact h0
theorem RtB.set4 {x : World} {b : Nat} {u v : Value} {m : Rt} (h : RtB x b u m) (n : Rt) : RtB ((((x.setCell ⟨b, 0, none⟩ (.int .i64 n.e)).setCell ⟨b, 1, none⟩ (.int .i64 n.at_)).setCell ⟨b, 2, none⟩ v).setCell ⟨b, 3, none⟩ (.int .i64 n.when_)) b v n := by
  unfold RtB rtA at h ⊢
  have h0 := block_setCell (i := 0) (u := .int .i64 n.e) h
  have h1 := block_setCell (i := 1) (u := .int .i64 n.at_) h0
  have h2 := block_setCell (i := 2) (u := v) h1
  have h3 := block_setCell (i := 3) (u := .int .i64 n.when_) h2
  simp only [List.setIfInBounds_toArray, List.set_cons_zero, List.set_cons_succ] at h3
  exact h3
theorem below4 {m b : Nat} {w x : World} (h : Below m w x) (hb : m ≤ b) (v0 v1 v2 v3 : Value) : Below m w ((((x.setCell ⟨b, 0, none⟩ v0).setCell ⟨b, 1, none⟩ v1).setCell ⟨b, 2, none⟩ v2).setCell ⟨b, 3, none⟩ v3) :=
  (((h.setCell hb _).setCell hb _).setCell hb _).setCell hb _
theorem ne_ot (a b : Ot) (h : ¬ a = b) (W : World) : (binOp .neq 40 (otV a) (otV b)).run Try.prog W = .ok (.bool true) W := by
  obtain ⟨p, v⟩ := a
  obtain ⟨p', v'⟩ := b
  unfold otV
  by_cases h2 : p = p'
  · have h4 : ¬ v = v' := fun e => h (by rw [h2, e])
    subst h2
    have h4' : (v == v') = false := by simpa using h4
    simp [go_sem, h4, h4']
  · have h2' := str_ne h2
    simp [go_sem, h2, h2']
theorem eq_ot (a : Ot) (W : World) : (binOp .neq 40 (otV a) (otV a)).run Try.prog W = .ok (.bool false) W := by
  unfold otV
  simp [go_sem]
set_option maxHeartbeats 4000000 in
theorem equal_ot (a1 a2 : Option Addr) (c1 c2 : Nat) (L M : List Ot) (w : World) (h1 : OtsR w (.slice a1 L.length c1) L) (h2 : OtsR w (.slice a2 M.length c2) M) :
    Calls Try.prog 33 #[.slice a1 L.length c1, .slice a2 M.length c2] w fun e w' => e = .returned (.bool (eqB L M)) ∧ Below w.heap.size w w' := by
  have hL : L.length ≤ maxLen := by obtain ⟨_, _, _, h, _⟩ := h1; exact h
  have hM : M.length ≤ maxLen := by obtain ⟨_, _, _, h, _⟩ := h2; exact h
  unfold maxLen at hL hM
  have H1 := Lib.hid h1
  have H2 := Lib.hid h2
  clear h1 h2
  by_cases hlen : L.length = M.length
  · obtain ⟨n, hn⟩ : ∃ n, n = L.length := ⟨_, rfl⟩
    have hn2 : n = M.length := by omega
    have HLN := Lib.hid hn
    have HMN := Lib.hid hn2
    rw [← hn] at H1 hL ⊢
    rw [← hn2] at H2 ⊢
    clear hn hn2 hlen hM
    have HO : ∀ (j : Nat) (W : World), j < n → Below w.heap.size w W → (∃ g off, a1 = some ⟨g, off, none⟩ ∧ OtC W g (off + j * 2) (L.getD j Ot.zero)) ∧ ∃ g off, a2 = some ⟨g, off, none⟩ ∧ OtC W g (off + j * 2) (M.getD j Ot.zero) := fun j W hj hW => by
      have q1 := H1.out
      rw [HLN.out] at q1
      have q2 := H2.out
      rw [HMN.out] at q2
      exact ⟨(q1.at hW (by have := HLN.out; omega)).2, (q2.at hW (by have := HMN.out; omega)).2⟩
    have HO0 := Lib.hid HO
    clear HO
    go_enter Try.func33, Try.ntmps33
    go_wp2_with fail
    go_loopw [13] (fun i wr => ∃ j : Nat, j ≤ n ∧ i = .int .i64 j ∧ Hid (L.take j = M.take j) ∧ Below w.heap.size w wr) (fun i _ => n - (intOf i).toNat)
    case atStart => exact ⟨0, Nat.zero_le _, rfl, Lib.hid (by simp), Below.refl _ _⟩
    case round =>
      obtain ⟨j, hj, rfl, HT, hb⟩ := hrel
      by_cases hlt : j < n
      · obtain ⟨⟨g, off, rfl, x0, x1⟩, g', off', rfl, y0, y1⟩ := HO0.out j wr hlt hb
        have HTK := Lib.hid (fun h => take_eq (L := L) (M := M) (d := Ot.zero) (k := j) (by have := HLN.out; omega) (by have := HMN.out; omega) HT.out h)
        have HNE : Hid (¬ L.getD j Ot.zero = M.getD j Ot.zero → eqB L M = false) := Lib.hid (fun h => eqB_ne (fun e => h (by rw [e])))
        have t2 : IntKind.i64.wrap ((j : Int) + 1) = (j : Int) + 1 := IntWalk.i64_in _ (by omega)
        have hj0 : (0 : Int) ≤ (j : Int) := by omega
        have hji : (j : Int) < (n : Int) := by omega
        generalize L.getD j Ot.zero = A at *
        generalize M.getD j Ot.zero = B at *
        by_cases hab : A = B
        · subst hab
          have q := fun W => eq_ot A W
          unfold otV at q
          have HT2 := Lib.hid (HTK.out rfl)
          clear HTK HNE
          go_upto_region 6 with fail
          go_quiet (fail)
          go_wp2_with fail
          go_roundw
          case rel => exact ⟨j + 1, by omega, by go_num, HT2, by first | exact hb | exact (hb.trans ((drewN_below _ _).mono hb.size))⟩
          case measure => simp [intOf]; omega
        · have q := fun W => ne_ot A B hab W
          unfold otV at q
          have HF := Lib.hid (HNE.out hab)
          clear HTK HNE hab
          go_upto_region 6 with fail
          go_quiet (fail)
          go_wp2_with fail
          go_ret
          exact ⟨by rw [HF.out]; rfl, by first | exact hb | exact (hb.trans ((drewN_below _ _).mono hb.size))⟩
      · obtain rfl : j = n := by omega
        have HF : Hid (eqB L M = true) := Lib.hid (eqB_true.2 (by
          have h := HT.out
          rwa [List.take_of_length_le (by have := HLN.out; omega), List.take_of_length_le (by have := HMN.out; omega)] at h))
        have hlt2 : decide ((j : Int) < (j : Int)) = false := by simp
        go_wp2_with fail
        go_ret
        exact ⟨by rw [HF.out]; rfl, hb⟩
  · have HF := Lib.hid (show eqB L M = false from eqB_ne (fun e => hlen (by rw [e])))
    have hle : (((L.length : Nat) : Int) == ((M.length : Nat) : Int)) = false := by simp; omega
    go_enter Try.func33, Try.ntmps33
    go_wp2_with fail
    go_ret
    exact ⟨by rw [HF.out]; rfl, Below.refl _ _⟩
set_option maxHeartbeats 8000000 in
theorem rsame_any (u1 u2 : Value) (c d : Rt) (w : World) (h1 : OtsR w u1 c.outs) (h2 : OtsR w u2 d.outs) :
    Calls Try.prog 17 #[rtV u1 c, rtV u2 d] w fun e w' => e = .returned (.bool (eqB c d)) ∧ Below w.heap.size w w' := by
  obtain ⟨k, s, L, q⟩ := c
  obtain ⟨k', s', L', q'⟩ := d
  simp only at h1 h2
  obtain ⟨a1, cap1, rfl⟩ := (show ∃ a cap, u1 = .slice a L.length cap by obtain ⟨a, cap, h, _⟩ := h1; exact ⟨a, cap, h⟩)
  obtain ⟨a2, cap2, rfl⟩ := (show ∃ a cap, u2 = .slice a L'.length cap by obtain ⟨a, cap, h, _⟩ := h2; exact ⟨a, cap, h⟩)
  have H1 := Lib.hid h1
  have H2 := Lib.hid h2
  clear h1 h2
  show Calls _ _ #[.agg #[.int .i64 k, .int .i64 s, .slice a1 L.length cap1, .int .i64 q], .agg #[.int .i64 k', .int .i64 s', .slice a2 L'.length cap2, .int .i64 q']] w _
  have bA := (Below.refl w.heap.size w).alloc (Nat.le_refl _) (.cells #[.int .i64 k, .int .i64 s, .slice a1 L.length cap1, .int .i64 q] 36)
  have bB := bA.alloc bA.size (.cells #[.int .i64 k', .int .i64 s', .slice a2 L'.length cap2, .int .i64 q'] 36)
  have N1 : RtB _ w.heap.size (.slice a1 L.length cap1) ⟨k, s, L, q⟩ := RtB.new w _ _
  have N2 : RtB _ _ (.slice a2 L'.length cap2) ⟨k', s', L', q'⟩ := RtB.new (w.alloc (.cells #[.int .i64 k, .int .i64 s, .slice a1 L.length cap1, .int .i64 q] 36)) _ _
  have N1' : RtB _ w.heap.size (.slice a1 L.length cap1) ⟨k, s, L, q⟩ := N1.below ((Below.refl _ (w.alloc (.cells #[.int .i64 k, .int .i64 s, .slice a1 L.length cap1, .int .i64 q] 36))).alloc (Nat.le_refl _) (.cells #[.int .i64 k', .int .i64 s', .slice a2 L'.length cap2, .int .i64 q'] 36))
  unfold rtA at N2
  simp only at N2
  go_enter Try.func17, Try.ntmps17
  go_upto_region 1 with fail
  obtain ⟨w2, hw2⟩ : ∃ w2, w2 = ((w.alloc (.cells #[.int .i64 k, .int .i64 s, .slice a1 L.length cap1, .int .i64 q] 36)).alloc (.cells #[.int .i64 k', .int .i64 s', .slice a2 L'.length cap2, .int .i64 q'] 36)) := ⟨_, rfl⟩
  rw [← hw2] at N1' N2 bB ⊢
  rw [show (w.alloc (.cells #[.int .i64 k, .int .i64 s, .slice a1 L.length cap1, .int .i64 q] 36)).heap.size = w.heap.size + 1 by simp] at N2
  obtain ⟨⟨c0, c1, c2, c3⟩, _⟩ := N1'.cells
  obtain ⟨⟨d0, d1, d2, d3⟩, _⟩ := N2.cells
  have HEQ := Lib.hid (equal_ot a1 a2 cap1 cap2 L L' w2 (H1.out.below bB) (H2.out.below bB))
  clear hw2 bA N1 N1' N2
  by_cases e0 : k = k'
  case neg =>
    have HF := Lib.hid (eqB_ne (fun e : (⟨k, s, L, q⟩ : Rt) = ⟨k', s', L', q'⟩ => e0 (by injection e)))
    have g : (k == k') = false := by simpa using e0
    clear e0
    go_wp2_with fail
    go_ret
    exact ⟨by rw [HF.out]; rfl, bB⟩
  by_cases e1 : s = s'
  case neg =>
    have HF := Lib.hid (eqB_ne (fun e : (⟨k, s, L, q⟩ : Rt) = ⟨k', s', L', q'⟩ => e1 (by injection e)))
    have g : (s == s') = false := by simpa using e1
    subst e0
    clear e1
    go_wp2_with fail
    go_ret
    exact ⟨by rw [HF.out]; rfl, bB⟩
  by_cases e2 : q = q'
  case neg =>
    have HF := Lib.hid (eqB_ne (fun e : (⟨k, s, L, q⟩ : Rt) = ⟨k', s', L', q'⟩ => e2 (by injection e)))
    have g : (q == q') = false := by simpa using e2
    subst e0
    subst e1
    clear e2
    go_wp2_with fail
    go_ret
    exact ⟨by rw [HF.out]; rfl, bB⟩
  subst e0 e1 e2
  have HF : Hid (eqB (⟨k, s, L, q⟩ : Rt) ⟨k, s, L', q⟩ = eqB L L') := Lib.hid (by
    rw [Bool.eq_iff_iff, eqB_true, eqB_true]
    exact ⟨fun e => by injection e, fun e => by rw [e]⟩)
  go_wp2_with fail
  refine HEQ.out.mono ?_
  rintro e w3 ⟨rfl, b3⟩
  go_wp2_with fail
  go_ret
  exact ⟨by rw [HF.out]; rfl, bB.trans (b3.mono bB.size)⟩
end Go.Proofs.Ytkdbkbfloiponaa
