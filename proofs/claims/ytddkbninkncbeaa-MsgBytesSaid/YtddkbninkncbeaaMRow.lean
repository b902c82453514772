/- Rows of one's own; the reader's entries and sums. No conditions beyond those in each statement. -/
import Derived.Test.YtddkbninkncbeaaMBytes
namespace Go.Proofs.Ytddkbninkncbeaa
open Go.RowKit
set_option linter.unusedVariables false
set_option linter.unusedSimpArgs false
set_option maxRecDepth 100000

section
variable {α : Type}
/-- A row of one's own, k cells an element. -/
def RowG (e : TypeId) (k : Nat) (one : α → List Value) (w : World) (base : Nat) (v : Value) (L : List α) : Prop := w.ownsRow base e k v L.length (cellsK one L)
variable {e : TypeId} {k : Nat} {one : α → List Value} {w w' : World} {base base' : Nat} {v : Value} {L : List α}
theorem RowG.below (h : RowG e k one w base v L) (hb : Below w.heap.size w w') : RowG e k one w' base v L := by
  refine ⟨h.1, h.2.imp id ?_⟩
  rintro ⟨g, c, cur, h1, h3, h4, h5⟩
  exact ⟨g, c, cur, h1, h3, (hb.block g (Array.getElem?_eq_some_iff.1 h4).1).trans h4, h5⟩
theorem RowG.kept {r : Nat} (h : RowG e k one w base v L) (hg : w.grownBy w' (some r)) (hr : r < base) : RowG e k one w' base v L := by
  refine ⟨h.1, h.2.imp id ?_⟩
  rintro ⟨g, cc, cur, h1, h3, h4, h5⟩
  exact ⟨g, cc, cur, h1, h3, (hg.block g (Array.getElem?_eq_some_iff.1 h4).1 (fun e => by have := Option.some.inj e; omega)).trans h4, h5⟩
theorem RowG.set {b i : Nat} {u : Value} (h : RowG e k one w base v L) (hr : b < base) : RowG e k one (w.setCell ⟨b, i, none⟩ u) base v L := by
  refine ⟨h.1, h.2.imp id ?_⟩
  rintro ⟨g, cc, cur, h1, h3, h4, h5⟩
  exact ⟨g, cc, cur, h1, h3, kept_set h4 (by omega), h5⟩
theorem RowG.nil (w : World) (base : Nat) : RowG e k one w base (.slice none 0 0) [] := World.ownsRow_nil _ _ _ _
theorem RowG.form (h : RowG e k one w base v L) : ∃ a c, v = .slice a L.length c ∧ (0 < L.length → ∃ g, a = some ⟨g, 0, none⟩ ∧ g < w.heap.size) := by
  rcases h.2 with ⟨h1, h2⟩ | ⟨g, c, cur, h1, _, h4, _⟩
  · exact ⟨none, 0, by rw [h1, h2], fun h => by omega⟩
  · exact ⟨_, _, h1, fun _ => ⟨g, rfl, (Array.getElem?_eq_some_iff.1 h4).1⟩⟩
theorem RowG.own (h : RowG e k one w base v L) {g : Nat} (hg : v.ownBlock = some g) : base ≤ g ∧ g < w.heap.size := by
  rcases h.2 with ⟨h1, _⟩ | ⟨g', c, cur, h1, h3, h4, _⟩
  · rw [h1] at hg; simp [Value.ownBlock] at hg
  · rw [h1] at hg; simp [Value.ownBlock] at hg; subst hg; exact ⟨h3, (Array.getElem?_eq_some_iff.1 h4).1⟩
theorem RowG.less (h : RowG e k one w base v L) (hb : base' ≤ base) : RowG e k one w base' v L := by
  refine ⟨h.1, h.2.imp id ?_⟩
  rintro ⟨g, c, cur, h1, h3, h4⟩
  exact ⟨g, c, cur, h1, by omega, h4⟩
end
theorem only_grown {a w x : World} {rb : Nat} {r : Option Nat} (h : a.grownBy w (some rb)) (k : w.grownBy x r) (hr : ∀ q, r = some q → a.heap.size ≤ q) : a.grownBy x (some rb) :=
  ⟨k.os.trans h.os, k.tape.trans h.tape, k.output.trans h.output, Nat.le_trans h.size k.size, fun i hi hne => (k.block i (Nat.lt_of_lt_of_le hi h.size) (fun e => by have := hr i e.symm; omega)).trans (h.block i hi hne)⟩
theorem only_over {a w : World} {rb : Nat} (h : a.grownBy w (some rb)) {p : Addr} (hp : a.heap.size ≤ p.block) (u : Value) : a.grownBy (w.setCell p u) (some rb) := only_setCell h (.inr hp) u
theorem und_ens : Try.prog.underlying 23 = some (.slice 39) := by kernel_rfl
theorem info_en : (Try.prog.info? 39).map (fun i => (i.zero, i.size, i.bytes)) = some (some (entV Ent.zero), 3, 32) := by kernel_rfl
theorem und_sms : Try.prog.underlying 25 = some (.slice 43) := by kernel_rfl
theorem info_sm : (Try.prog.info? 43).map (fun i => (i.zero, i.size, i.bytes)) = some (some (.int .u32 0), 1, 4) := by kernel_rfl
def smOne (z : Int) : List Value := [.int .u32 z]
theorem smOne_len (z : Int) : (smOne z).length = 1 := rfl
abbrev ERow := RowG (α := Ent) 39 3 entOne
abbrev SRow := RowG (α := Int) 43 1 smOne
theorem ERow.enC {w : World} {base g c : Nat} {L : List Ent} (h : ERow w base (.slice (some ⟨g, 0, none⟩) L.length c) L) {j : Nat} (hj : j < L.length) : EnC w g (j * 3) (L.getD j Ent.zero) := by
  have hx : L[j]? = some (L.getD j Ent.zero) := by rw [List.getD_eq_getElem?_getD, List.getElem?_eq_getElem hj]; rfl
  have h1 : ∀ i, i < 3 → w.cell? ⟨g, j * 3 + i, none⟩ = (entOne (L.getD j Ent.zero))[i]? := fun i hi => by
    have := World.ownsRow.cellAt h (j * 3 + i) (by omega)
    rw [this, cellsK_at entOne_len L j i _ hx hi]
  exact ⟨h1 0 (by decide), h1 1 (by decide), h1 2 (by decide)⟩
theorem ERow.ensR {w : World} {base : Nat} {v : Value} {L : List Ent} (h : ERow w base v L) (hL : L.length ≤ maxLen) (ho : ∀ x ∈ L, x.Ok) : EnsR w v L := by
  obtain ⟨a, c, rfl, hg⟩ := RowG.form h
  refine ⟨a, c, rfl, hL, ho, ?_⟩
  by_cases h0 : L.length = 0
  · exact .inl h0
  · obtain ⟨g, rfl, hgw⟩ := hg (by omega)
    exact .inr ⟨g, 0, rfl, hgw, fun j hj => by rw [Nat.zero_add]; exact ERow.enC h hj⟩
theorem SRow.smsR {w : World} {base : Nat} {v : Value} {L : List Int} (h : SRow w base v L) (hL : L.length ≤ maxLen) (ho : ∀ x ∈ L, 0 ≤ x ∧ x ≤ 4294967295) : SmsR w v L := by
  obtain ⟨a, c, rfl, hg⟩ := RowG.form h
  refine ⟨a, c, rfl, hL, ho, ?_⟩
  by_cases h0 : L.length = 0
  · exact .inl h0
  · obtain ⟨g, rfl, hgw⟩ := hg (by omega)
    refine .inr ⟨g, 0, rfl, hgw, fun j hj => ?_⟩
    have hx : L[j]? = some (L.getD j 0) := by rw [List.getD_eq_getElem?_getD, List.getElem?_eq_getElem hj]; rfl
    have := World.ownsRow.cellAt h j (by omega)
    rw [Nat.zero_add, this]
    have h2 := cellsK_at smOne_len L j 0 _ hx (by decide)
    rw [Nat.mul_one, Nat.add_zero] at h2
    rw [h2]; rfl
/-- What an entry's reader reads; several; sums. -/
def rdE (st : RS) : Ent × RS :=
  let a := numF 6 281474976710655 st
  let b := numF 6 281474976710655 a.2
  let c := textF 488 b.2
  (⟨a.1, b.1, ⟨c.1.toArray⟩⟩, c.2)
def rdEs : Nat → RS → List Ent × RS
  | 0, st => ([], st)
  | n + 1, st => ((rdEs n st).1 ++ [(rdE (rdEs n st).2).1], (rdE (rdEs n st).2).2)
def rdSs : Nat → RS → List Int × RS
  | 0, st => ([], st)
  | n + 1, st => ((rdSs n st).1 ++ [(numF 6 4294967295 (rdSs n st).2).1], (numF 6 4294967295 (rdSs n st).2).2)
def rdEnts (st : RS) : List Ent × RS := rdEs (numF 6 4 st).1.toNat (numF 6 4 st).2
theorem rdEs_len (n : Nat) (st : RS) : (rdEs n st).1.length = n := by
  induction n with
  | zero => rfl
  | succ n ih => show ((rdEs n st).1 ++ _).length = _; rw [List.length_append, ih]; rfl
theorem rdSs_len (n : Nat) (st : RS) : (rdSs n st).1.length = n := by
  induction n with
  | zero => rfl
  | succ n ih => show ((rdSs n st).1 ++ _).length = _; rw [List.length_append, ih]; rfl
theorem rdE_ok (st : RS) : (rdE st).1.Ok ∧ (rdE st).1.da.size ≤ 488 := by
  have q1 := numF_most st 281474976710655 (by decide)
  have q2 := numF_most (numF 6 281474976710655 st).2 281474976710655 (by decide)
  have q3 := textF_len 488 (numF 6 281474976710655 (numF 6 281474976710655 st).2).2
  rw [← size_arr] at q3
  have e1 : (rdE st).1.ix = (numF 6 281474976710655 st).1 := rfl
  have e2 : (rdE st).1.tm = (numF 6 281474976710655 (numF 6 281474976710655 st).2).1 := rfl
  have e3 : (rdE st).1.da.size ≤ 488 := q3
  refine ⟨⟨?_, ?_, ?_⟩, e3⟩
  · unfold InR; rw [e1]; omega
  · unfold InR; rw [e2]; omega
  · unfold maxLen; omega
theorem rdEs_ok (n : Nat) (st : RS) : ∀ x ∈ (rdEs n st).1, x.Ok := by
  induction n with
  | zero => intro x hx; cases hx
  | succ n ih =>
    intro x hx
    rcases List.mem_append.1 (show x ∈ (rdEs n st).1 ++ [(rdE (rdEs n st).2).1] from hx) with hx | hx
    · exact ih x hx
    · rw [List.mem_singleton.1 hx]; exact (rdE_ok _).1
theorem rdSs_ok (n : Nat) (st : RS) : ∀ x ∈ (rdSs n st).1, 0 ≤ x ∧ x ≤ 4294967295 := by
  induction n with
  | zero => intro x hx; cases hx
  | succ n ih =>
    intro x hx
    rcases List.mem_append.1 (show x ∈ (rdSs n st).1 ++ [(numF 6 4294967295 (rdSs n st).2).1] from hx) with hx | hx
    · exact ih x hx
    · rw [List.mem_singleton.1 hx]; exact numF_most _ _ (by decide)
set_option maxHeartbeats 4000000 in
theorem readents_any (rb : Nat) (st : RS) (w : World) (h : Rs w rb st) :
    Calls Try.prog 25 #[.pointer (some ⟨rb, 0, none⟩)] w fun e w' => ∃ v, e = .returned v ∧ ERow w' w.heap.size v (rdEnts st).1 ∧ Rs w' rb (rdEnts st).2 ∧ w.grownBy w' (some rb) := by
  have hrb := h.lt
  obtain ⟨i1, hi1, hz1, hz2, hz3⟩ := info_parts info_en
  have q1 := numF_most st 4 (by decide)
  have HC1 := Lib.hid (num_rs rb 4 st w h)
  rw [show max (4 : Int) 0 = 4 by decide] at HC1
  have HRD := Lib.hid (show rdEnts st = rdEs (numF 6 4 st).1.toNat (numF 6 4 st).2 from rfl)
  generalize numF 6 4 st = A at q1 HC1 HRD
  generalize rdEnts st = Y at HRD ⊢
  obtain ⟨vA, sA⟩ := A
  simp only at q1 HC1 HRD
  obtain ⟨N, hN⟩ := Int.eq_ofNat_of_zero_le q1.1
  have hN4 : N ≤ 4 := by omega
  have HNT : Hid (vA.toNat = N) := Lib.hid (by omega)
  rw [HNT.out] at HRD
  rw [hN] at HC1
  clear hN q1 HNT h
  go_enter Try.func25, Try.ntmps25
  go_wp2_with fail
  refine HC1.out.mono ?_
  rintro e w1 ⟨rfl, R1, g1⟩
  clear HC1
  go_wp2_with fail
  go_loopw [3, 6] (fun lv iv wr => ∃ j : Nat, j ≤ N ∧ iv = .int .i64 j ∧ ERow wr w.heap.size lv (rdEs j sA).1 ∧ Rs wr rb (rdEs j sA).2 ∧ w.grownBy wr (some rb)) (fun _ iv _ => N - (intOf iv).toNat)
  case atStart => exact ⟨0, Nat.zero_le _, rfl, RowG.nil _ _, R1, g1⟩
  case round =>
    obtain ⟨j, hj, rfl, hO, hR, hg⟩ := hrel
    clear R1 g1
    by_cases hlt : j < N
    · have t2 : IntKind.i64.wrap ((j : Int) + 1) = (j : Int) + 1 := IntWalk.i64_in _ (by omega)
      have hlt2 : decide ((j : Int) < (N : Int)) = true := by simp; omega
      have HON := Lib.hid (rdEs_len j sA)
      have HSN : Hid ((rdEs (j + 1) sA).1 = (rdEs j sA).1 ++ [(rdE (rdEs j sA).2).1] ∧ (rdEs (j + 1) sA).2 = (rdE (rdEs j sA).2).2) := Lib.hid ⟨rfl, rfl⟩
      obtain ⟨L, hL⟩ : ∃ L, L = (rdEs j sA).1 := ⟨_, rfl⟩
      obtain ⟨st, hst⟩ : ∃ st, st = (rdEs j sA).2 := ⟨_, rfl⟩
      rw [← hL] at hO HON HSN
      rw [← hst] at hR HSN
      clear hL hst
      have HRE := Lib.hid (show rdE st = (⟨(numF 6 281474976710655 st).1, (numF 6 281474976710655 (numF 6 281474976710655 st).2).1, ⟨(textF 488 (numF 6 281474976710655 (numF 6 281474976710655 st).2).2).1.toArray⟩⟩, (textF 488 (numF 6 281474976710655 (numF 6 281474976710655 st).2).2).2) from rfl)
      have HK1 := Lib.hid (num_rs rb 281474976710655 _ wr hR)
      have HK2 := Lib.hid (fun (W : World) (hW : Rs W rb (numF 6 281474976710655 st).2) => num_rs rb 281474976710655 _ W hW)
      rw [show max (281474976710655 : Int) 0 = 281474976710655 by decide] at HK1 HK2
      have HK3 := Lib.hid (fun (W : World) (hW : Rs W rb (numF 6 281474976710655 (numF 6 281474976710655 st).2).2) => text_rs rb 488 _ W hW)
      generalize rdE st = D at HRE HSN
      generalize numF 6 281474976710655 st = B at *
      generalize numF 6 281474976710655 B.2 = C at *
      generalize textF 488 C.2 = T at *
      obtain ⟨vB, sB⟩ := B
      obtain ⟨vC, sC⟩ := C
      obtain ⟨vT, sT⟩ := T
      simp only at HRE HK1 HK2 HK3
      obtain ⟨tp, htp⟩ : ∃ tp : ByteArray, tp = ⟨vT.toArray⟩ := ⟨_, rfl⟩
      rw [← htp] at HRE HK3
      have HOO := Lib.hid hO
      have HGG := Lib.hid hg
      clear htp hR hO hg
      go_wp2_with fail
      refine HK1.out.mono ?_
      rintro e w2 ⟨rfl, R2, g2⟩
      go_wp2_with fail
      refine (HK2.out _ R2).mono ?_
      rintro e w3 ⟨rfl, R3, g3⟩
      go_wp2_with fail
      refine (HK3.out _ R3).mono ?_
      rintro e w4 ⟨rfl, R4, g4⟩
      have gg := only_trans (only_trans g2 g3) g4
      have O4 := HOO.out.kept gg hrb
      have G4 := only_trans HGG.out gg
      have b5 := (Below.refl _ w4).alloc (Nat.le_refl _) (.cells (entA ⟨vB, vC, tp⟩) 39)
      have E5 := EnB.new w4 ⟨vB, vC, tp⟩
      have O5 := O4.below b5
      have R5 := R4.below b5
      have G5 := only_trans G4 (only_of_below b5 (some rb))
      have hws : w.heap.size ≤ (w4.alloc (.cells (entA ⟨vB, vC, tp⟩) 39)).heap.size := Nat.le_trans G4.size b5.size
      have HO5 := Lib.hid O5
      have HR5 := Lib.hid R5
      have HG5 := Lib.hid G5
      have HE5 := Lib.hid E5.cells
      have HLN : Hid (L.length + 1 ≤ maxLen ∧ (L.length + 1) * 32 ≤ 140737488355328) := Lib.hid (by have := HON.out; unfold maxLen; omega)
      clear R2 R3 R4 g2 g3 g4 gg O4 G4 b5 E5 O5 R5 G5 HK1 HK2 HK3
      go_wp2_with (at_builtin; refine wpList_append_own _ rfl _ _ 23 rfl w.heap.size 39 i1 _ 3 32 und_ens hi1 hz1 hz2 hz3 rfl (by decide) _ L.length (cellsK entOne L) rfl HO5.out ⟨w4.heap.size, 0, none⟩ 1 1 (cellsK entOne [⟨vB, vC, tp⟩]) rfl rfl (fun q u hq => by
            obtain ⟨c0, c1, c2⟩ := HE5.out
            match q, hq with
            | 0, hq => cases hq; exact c0
            | 1, hq => cases hq; exact c1
            | 2, hq => cases hq; exact c2) (cellsK_one entOne_one _) HLN.out.1 HLN.out.2 hws ?_; intro v' w6 hown' hgrow _; go_frame)
      have G6 := only_grown HG5.out hgrow (fun q hq => (RowG.own HO5.out hq).1)
      have R6 : Rs w6 rb sT := Rs.kept HR5.out hgrow (fun e => by have := (RowG.own HO5.out e.symm).1; omega)
      have O6 : ERow w6 w.heap.size v' (L ++ [⟨vB, vC, tp⟩]) := by
        unfold ERow RowG
        rw [cellsK_append, List.length_append]; exact hown'
      have HO6 := Lib.hid O6
      have HR6 := Lib.hid R6
      have HG6 := Lib.hid G6
      clear hown' hgrow O6 R6 G6
      try go_wp2_with fail
      go_roundw
      case rel => exact ⟨j + 1, by omega, by go_num, by rw [HSN.out.1, HRE.out]; exact HO6.out, by rw [HSN.out.2, HRE.out]; exact HR6.out, HG6.out⟩
      case measure => simp [intOf]; omega
    · obtain rfl : j = N := by omega
      have hlt2 : decide ((j : Int) < (j : Int)) = false := by simp
      have HO := Lib.hid hO
      have HR := Lib.hid hR
      have HG := Lib.hid hg
      clear hO hR hg
      go_wp2_with fail
      go_ret
      exact ⟨_, rfl, by rw [HRD.out]; exact HO.out, by rw [HRD.out]; exact HR.out, HG.out⟩
end Go.Proofs.Ytddkbninkncbeaa
