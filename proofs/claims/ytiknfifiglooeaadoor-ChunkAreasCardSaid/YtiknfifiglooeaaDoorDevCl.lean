/- (*dev.Device).Clone of a device whose blocks have nothing under way: a device of its own, with the same blocks. No conditions beyond those in each statement. -/
import Derived.Test.YtiknfifiglooeaaDoorDevFlip
import Derived.Laws.AppendOwn
import Derived.Lib.SliceRun
import Derived.Deep.DeepCutAuto
namespace Go.Proofs.YtiknfifiglooeaaDoor
section
open Go Go.RowKit Go.Proofs.Tryd
set_option linter.unusedVariables false
set_option maxRecDepth 100000

theorem und_wrs : Tryd.prog.underlying 131 = some (.slice 167) := by kernel_rfl
theorem wclone_nil (w : World) :
    Calls Tryd.prog 92 #[.slice none 0 0] w fun e w' => e = .returned (.slice none 0 0) ∧ Below w.heap.size w w' := by
  have q22 : ∀ (w : World) (a : Option Addr) (n c n' c' : Nat), (binOp .eql 131 (.slice a n c) (.slice none n' c')).run Tryd.prog w = .ok (.bool a.isNone) w := fun w a n c n' c' => Lib.run_eql_slice_nil w _ _ a n c n' c' und_wrs
  go_enter Tryd.func92, Tryd.ntmps92
  go_wp2_with fail
  go_ret
  exact ⟨rfl, Below.refl _ _⟩

set_option maxHeartbeats 4000000 in
theorem bclone_any (R n cap : Nat) (C : Array Value) (w : World) (hR : w.heap[R]? = some (.cells C 133 (0, 0))) (hn : n * 4 ≤ C.size) (hm : n ≤ 4096) (h1 : ∀ u ∈ C.toList.take (n * 4), u.oneCell' = true) :
    Calls Tryd.prog 91 #[.slice (some ⟨R, 0, none⟩) n cap] w fun e w' => ∃ v', e = .returned v' ∧ w'.ownsRow w.heap.size 133 4 v' n (C.toList.take (n * 4)) ∧ Below w.heap.size w w' := by
  obtain ⟨i1, hi1, hz1, hz2, hz3⟩ := info_parts info_block
  have q22 : ∀ (w : World) (a : Option Addr) (n c n' c' : Nat), (binOp .eql 128 (.slice a n c) (.slice none n' c')).run Tryd.prog w = .ok (.bool a.isNone) w := fun w a n c n' c' => Lib.run_eql_slice_nil w _ _ a n c n' c' und_blocks
  have bA := (Below.refl w.heap.size w).alloc (Nat.le_refl _) (.cells #[] 133)
  have R1 : (w.alloc (.cells #[] 133)).heap[R]? = some (.cells C 133 (0, 0)) := (heap_alloc_old w _ (lt_of_block hR)).trans hR
  obtain ⟨w1, hw1⟩ : ∃ w1, w1 = w.alloc (.cells #[] 133) := ⟨_, rfl⟩
  have O1 : w1.ownsRow w.heap.size 133 4 (.slice (some ⟨w.heap.size, 0, none⟩) 0 0) 0 [] := by
    rw [hw1]; exact World.ownsRow_made (base := w.heap.size) (e := 133) (size := 4) w #[] 0 (Nat.le_refl _) (Nat.zero_le _) rfl
  rw [← hw1] at bA R1
  have HLN : Hid ((C.toList.take (n * 4)).length = n * 4) := by show _ = _; rw [List.length_take, Array.length_toList]; omega
  have HC : Hid (∀ j u, (C.toList.take (n * 4))[j]? = some u → w1.cell? ((⟨R, 0, none⟩ : Addr).add j) = some u) := Lib.hid fun j u hu => by
    rw [show (⟨R, 0, none⟩ : Addr).add j = ⟨R, j, none⟩ by rw [Addr.add_lit, Nat.zero_add]]
    refine cell_of R1 ?_
    rw [List.getElem?_take] at hu
    split at hu
    · simpa using hu
    · cases hu
  have HO := Lib.hid O1
  have HW1 := Lib.hid hw1
  have HB := Lib.hid bA
  have HON := Lib.hid h1
  have hml : n ≤ 1000000 := by omega
  clear O1 bA hw1 h1 hR R1 hn
  generalize C.toList.take (n * 4) = xs at *
  clear C
  go_enter Tryd.func91, Tryd.ntmps91
  go_wp2_with (at_builtin; rw [← HW1.out]; refine wpList_append_own _ rfl _ _ _ rfl w.heap.size 133 i1 _ 4 48 und_blocks hi1 hz1 hz2 hz3 rfl (by decide) (.slice (some ⟨w.heap.size, 0, none⟩) 0 0) 0 [] rfl HO.out ⟨R, 0, none⟩ n cap xs rfl HLN.out HC.out HON.out (by unfold maxLen; omega) (by omega) HB.out.size ?_; intro v8 w8 hown8 hgrow8 hiff8; go_frame)
  go_ret
  rw [Nat.zero_add, List.nil_append] at hown8
  refine ⟨v8, rfl, hown8, HB.out.grown hgrow8 HB.out.size (fun q hq => by simp [Value.ownBlock] at hq; omega)⟩

theorem DevIn.again {S : Nat → Prop} {w : World} {B R : Nat} {sv : Nat → Value} {C : Array Value} {D : Dv} (h : DevIn S w B R sv C D) {i : Nat} {u : Value} (hu : C[i]? = some u) : DevIn S (w.setCell ⟨R, i, none⟩ u) B R sv C D :=
  h.keep (by simp [World.setCell]) (fun k hk => by
    by_cases e : k = R
    · subst e
      rw [block_setCell h.hR, h.hR]
      have : C.setIfInBounds i u = C := by
        obtain ⟨hl, he⟩ := Array.getElem?_eq_some_iff.1 hu
        apply Array.ext (by simp)
        intro j h1 h2
        rw [Array.getElem_setIfInBounds]
        split
        · rename_i e
          subst e
          exact he.symm
        · rfl
      rw [this]
    · exact block_setCell_other e)
/-- A device's box, as it is copied. -/
def DcB (w : World) (b : Nat) (v : Value) (D : Dv) : Prop := w.heap[b]? = some (.cells #[v, .int .i64 D.writes, .bool D.falling, .int .i64 D.turns, .bool D.down] 130 (0, 0))
def setDc (w : World) (b : Nat) (v : Value) (D : Dv) : World := ((((w.setCell ⟨b, 0, none⟩ v).setCell ⟨b, 1, none⟩ (.int .i64 D.writes)).setCell ⟨b, 2, none⟩ (.bool D.falling)).setCell ⟨b, 3, none⟩ (.int .i64 D.turns)).setCell ⟨b, 4, none⟩ (.bool D.down)
theorem DcB.of {w : World} {b : Nat} {x0 x1 x2 x3 x4 : Value} (h : w.heap[b]? = some (.cells #[x0, x1, x2, x3, x4] 130 (0, 0))) (v : Value) (D : Dv) : DcB (setDc w b v D) b v D := by
  have h1 := block_setCell (i := 0) (u := v) h
  have h2 := block_setCell (i := 1) (u := .int .i64 D.writes) h1
  have h3 := block_setCell (i := 2) (u := .bool D.falling) h2
  have h4 := block_setCell (i := 3) (u := .int .i64 D.turns) h3
  exact block_setCell (i := 4) (u := .bool D.down) h4
theorem below_setDc {m : Nat} {a w : World} {b : Nat} (h : Below m a w) (hb : m ≤ b) (v : Value) (D : Dv) : Below m a (setDc w b v D) :=
  ((((h.setCell (p := ⟨b, 0, none⟩) hb _).setCell (p := ⟨b, 1, none⟩) hb _).setCell (p := ⟨b, 2, none⟩) hb _).setCell (p := ⟨b, 3, none⟩) hb _).setCell (p := ⟨b, 4, none⟩) hb _
theorem DcB.c0 {w : World} {b : Nat} {v : Value} {D : Dv} (h : DcB w b v D) : w.cell? ⟨b, 0, none⟩ = some v := cell_of h rfl
theorem DcB.fz {w : World} {b : Nat} {v : Value} {D : Dv} (h : DcB w b v D) (i : Nat) : w.frozen? ⟨b, i, none⟩ = false := free_of h
theorem DcB.set {w : World} {b : Nat} {v : Value} {D : Dv} (h : DcB w b v D) (u : Value) : DcB (w.setCell ⟨b, 0, none⟩ u) b u D := block_setCell (i := 0) h
/-- The copy's row is as the device's. -/
theorem dev_cloned {S : Nat → Prop} {w x : World} {B R N m : Nat} {sv : Nat → Value} {C : Array Value} {D : Dv} {v : Value} (h : DevIn S w B R sv C D) (hp : ∀ b ∈ D.bs, b.pending = []) (hn : 0 < D.bs.length)
    (hc : DcB x N v D) (hN : m ≤ N) (ho : x.ownsRow m 133 4 v D.bs.length (C.toList.take (D.bs.length * 4))) :
    ∃ g cur, v = .slice (some ⟨g, 0, none⟩) D.bs.length (cur.size / 4) ∧ DevIn (span m x.heap.size) x N g (fun _ => .slice none 0 0) cur D := by
  obtain ⟨g, cap, cur, rfl, hg, hh, h1, h2, h3, h4⟩ := ho.2.resolve_left (fun e => by omega)
  have hcap : cur.size / 4 = cap := by omega
  have hcur : ∀ j, j < D.bs.length * 4 → cur[j]? = C[j]? := fun j hj => by
    have e := congrArg (fun l : List Value => l[j]?) h4
    simp only [List.getElem?_take, hj, if_pos] at e
    simpa using e
  have hnil : ∀ i b, D.bs[i]? = some b → sv i = .slice none 0 0 := fun i b hb => h.nils i b hb (hp b (List.mem_of_getElem? hb))
  refine ⟨g, cur, by rw [hcap], ?_⟩
  refine { hB := ?_, hR := hh, hC := by omega, nils := fun _ _ _ _ => rfl, cells := ?_, rows := ?_, sB := ⟨hN, lt_of_block hc⟩, sR := ⟨hg, lt_of_block hh⟩, sP := ?_, lt := fun k hk => hk.2, one := ?_, fits := h.fits }
  · rw [hcap]; exact hc
  · intro i b hb
    have hi := (List.getElem?_eq_some_iff.1 hb).1
    obtain ⟨g0, g1, g2, g3⟩ := h.cells i b hb
    rw [hcur _ (by omega), hcur _ (by omega), hcur _ (by omega), hcur _ (by omega)]
    exact ⟨g0, g1, g2, g3.trans (by rw [hnil i b hb])⟩
  · intro i b hb
    rw [hp b (List.mem_of_getElem? hb)]
    exact World.ownsRow_nil _ _ _ _
  · intro i k _ hk
    simp [Value.ownBlock] at hk
  · intro i j k _ _ hk
    simp [Value.ownBlock] at hk
theorem one_cells {S : Nat → Prop} {w : World} {B R : Nat} {sv : Nat → Value} {C : Array Value} {D : Dv} (h : DevIn S w B R sv C D) (hp : ∀ b ∈ D.bs, b.pending = []) : ∀ u ∈ C.toList.take (D.bs.length * 4), u.oneCell' = true := by
  intro u hu
  obtain ⟨j, hj, rfl⟩ := List.getElem_of_mem hu
  have hl : j < D.bs.length * 4 := by simp only [List.length_take] at hj; omega
  have hjC : j < C.size := by have := h.hC; omega
  have e : C[j]? = some ((C.toList.take (D.bs.length * 4))[j]) := by
    rw [List.getElem_take, Array.getElem_toList]
    exact Array.getElem?_eq_getElem hjC
  obtain ⟨b, hb⟩ : ∃ b, D.bs[j / 4]? = some b := ⟨_, List.getElem?_eq_getElem (by omega)⟩
  obtain ⟨g0, g1, g2, g3⟩ := h.cells (j / 4) b hb
  have hs := h.nils _ b hb (hp b (List.mem_of_getElem? hb))
  rcases (by omega : j = j / 4 * 4 ∨ j = j / 4 * 4 + 1 ∨ j = j / 4 * 4 + 2 ∨ j = j / 4 * 4 + 3) with q | q | q | q
  · rw [← q, e] at g0; rw [Option.some.inj g0]; rfl
  · rw [← q, e] at g1; rw [Option.some.inj g1]; rfl
  · rw [← q, e] at g2; rw [Option.some.inj g2]; rfl
  · rw [← q, e, hs] at g3; rw [Option.some.inj g3]; rfl

set_option maxHeartbeats 4000000 in
theorem devclone_any {S : Nat → Prop} {w : World} {B : Nat} {D : Dv} (h : DevAt S w B D) (hp : ∀ b ∈ D.bs, b.pending = []) (hn : 0 < D.bs.length) :
    Calls Tryd.prog 48 #[.pointer (some ⟨B, 0, none⟩)] w fun e w' => NewDev D w e w' := by
  obtain ⟨R, sv, C, h⟩ := h
  have hmany := h.fits.many
  have c0 := h.c0
  have c1 := h.c1
  have c2 := h.c2
  have c3 := h.c3
  have c4 := h.c4
  have N1 : DcB (w.alloc (.cells #[.slice (some ⟨R, 0, none⟩) D.bs.length (C.size / 4), .int .i64 D.writes, .bool D.falling, .int .i64 D.turns, .bool D.down] 130)) w.heap.size (.slice (some ⟨R, 0, none⟩) D.bs.length (C.size / 4)) D := heap_alloc_new w _
  have B1 := (Below.refl w.heap.size w).alloc (Nat.le_refl _) (.cells #[.slice (some ⟨R, 0, none⟩) D.bs.length (C.size / 4), .int .i64 D.writes, .bool D.falling, .int .i64 D.turns, .bool D.down] 130)
  go_enter Tryd.func48, Tryd.ntmps48
  go_upto_region 4 with fail
  have h1 := h.keep B1.size (fun k hk => B1.block k (h.lt k hk))
  generalize w.alloc (.cells #[.slice (some ⟨R, 0, none⟩) D.bs.length (C.size / 4), .int .i64 D.writes, .bool D.falling, .int .i64 D.turns, .bool D.down] 130) = w1 at N1 B1 h1 ⊢
  have d0 := h1.c0
  have n0 := N1.c0
  have nf := N1.fz 0
  have HBC := bclone_any R D.bs.length (C.size / 4) C w1 h1.hR h1.hC hmany (one_cells h1 hp)
  have HND := Lib.hid (fun (x : World) (v : Value) (ho : x.ownsRow w1.heap.size 133 4 v D.bs.length (C.toList.take (D.bs.length * 4))) (hb : Below w1.heap.size w1 x) =>
    dev_cloned (x := x.setCell ⟨w.heap.size, 0, none⟩ v) (m := w.heap.size) (v := v) h hp hn ((show DcB x w.heap.size _ D from (hb.block _ (lt_of_block N1)).trans N1).set v) (Nat.le_refl _) (by
      have hne : ∀ j, v.ownBlock = some j → j ≠ w.heap.size := fun j hj e => by
        have := ho.2.resolve_left (fun e => by omega)
        obtain ⟨g, cap, cur, rfl, hg, _⟩ := this
        have hl := lt_of_block N1
        simp [Value.ownBlock] at hj
        omega
      have h2 := ownsRow_same (w' := x.setCell ⟨w.heap.size, 0, none⟩ v) ho (fun j hj => block_setCell_other (hne j hj))
      exact ⟨h2.1, h2.2.imp id (fun ⟨g, cp, cur, e1, e2, e3⟩ => ⟨g, cp, cur, e1, Nat.le_trans B1.size e2, e3⟩)⟩))
  have HB1 := Lib.hid B1
  have HBX := Lib.hid (fun (x : World) (hb : Below w1.heap.size w1 x) => show x.cell? ⟨w.heap.size, 0, none⟩ = _ ∧ x.frozen? ⟨w.heap.size, 0, none⟩ = false from
    ⟨(show DcB x w.heap.size _ D from (hb.block _ (lt_of_block N1)).trans N1).c0, (show DcB x w.heap.size _ D from (hb.block _ (lt_of_block N1)).trans N1).fz 0⟩)
  clear c0 c1 c2 c3 c4 h h1 N1 B1
  go_wp2_with fail
  refine HBC.mono ?_
  rintro e w2 ⟨v, rfl, O2, B2⟩
  obtain ⟨g, cur, rfl, hd⟩ := HND.out w2 v O2 B2
  obtain ⟨x0, x1⟩ := HBX.out w2 B2
  have B3 := (HB1.out.trans (B2.mono HB1.out.size)).setCell (p := ⟨w.heap.size, 0, none⟩) (Nat.le_refl _) (.slice (some ⟨g, 0, none⟩) D.bs.length (cur.size / 4))
  clear HBC HND HB1 HBX O2 B2 d0 n0 nf
  go_upto_region 5 with fail
  clear x0 x1
  generalize w2.setCell ⟨w.heap.size, 0, none⟩ (.slice (some ⟨g, 0, none⟩) D.bs.length (cur.size / 4)) = w3 at hd B3 ⊢
  have e0 := hd.c0
  have HQ := Lib.hid B3.size
  go_wp2_with fail
  go_loopw [20] (fun i wr => ∃ k : Nat, k ≤ D.bs.length ∧ i = .int .i64 k ∧ DevIn (span w.heap.size w3.heap.size) wr w.heap.size g (fun _ => .slice none 0 0) cur D ∧ Below w.heap.size w wr) (fun i _ => D.bs.length - (intOf i).toNat)
  case atStart => exact ⟨0, Nat.zero_le _, rfl, hd, B3⟩
  case round =>
    obtain ⟨k, hk, rfl, hdk, hbk⟩ := hrel
    clear hd B3 e0
    by_cases hlt : k < D.bs.length
    · obtain ⟨b, hb⟩ : ∃ b, D.bs[k]? = some b := ⟨_, List.getElem?_eq_getElem hlt⟩
      have d0 := hdk.c0
      have q3 := hdk.r3 hb
      have f3 := hdk.fR (k * 4 + 3)
      have HX := Lib.hid (fun (x : World) (hx : Below wr.heap.size wr x) =>
        have k2 := hdk.keep hx.size (fun j hj => hx.block j (hdk.lt j hj))
        (show x.cell? ⟨g, k * 4 + 3, none⟩ = some (.slice none 0 0) ∧ x.frozen? ⟨g, k * 4 + 3, none⟩ = false ∧ DevIn (span w.heap.size w3.heap.size) (x.setCell ⟨g, k * 4 + 3, none⟩ (.slice none 0 0)) w.heap.size g (fun _ => .slice none 0 0) cur D ∧ Below w.heap.size w (x.setCell ⟨g, k * 4 + 3, none⟩ (.slice none 0 0)) from
          ⟨k2.r3 hb, k2.fR _, k2.again (k2.cells k b hb).2.2.2, (hbk.trans (hx.mono hbk.size)).setCell (p := ⟨g, k * 4 + 3, none⟩) k2.sR.1 _⟩))
      clear hdk hb
      go_wp2_with fail
      refine (wclone_nil _).mono ?_
      rintro e w5 ⟨rfl, hb5⟩
      obtain ⟨p1, p2, p3, p4⟩ := HX.out w5 hb5
      clear HX d0 q3 f3
      go_wp2_with fail
      go_roundw
      case rel => exact ⟨k + 1, by omega, by go_num, p3, p4⟩
      case measure => simp [intOf]; omega
    · obtain rfl : k = D.bs.length := by omega
      have hda : DevAt (span w.heap.size w3.heap.size) wr w.heap.size D := ⟨_, _, _, hdk⟩
      have HDA := Lib.hid hda
      have HBK := Lib.hid hbk
      clear hda hdk hbk
      go_wp2_with fail
      go_ret
      exact ⟨_, rfl, HDA.out.wide (fun j hj => ⟨hj.1, HDA.out.lt j hj⟩) (fun j hj => hj.2), HBK.out⟩
end
end Go.Proofs.YtiknfifiglooeaaDoor
