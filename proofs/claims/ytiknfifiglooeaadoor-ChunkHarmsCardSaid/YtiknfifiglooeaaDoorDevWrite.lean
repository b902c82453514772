/- Write: what a device contains behind it; no conditions beyond those in each statement. -/
import Derived.Test.YtiknfifiglooeaaDoorDevMem
import Derived.Test.YtiknfifiglooeaaDoorDevClone
import Derived.RegionTactic
import Derived.Deep.RegionLaw
import Derived.Deep.AppendLies
namespace Go.Proofs.YtiknfifiglooeaaDoor
open Go.RowKit
set_option linter.unusedVariables false
set_option maxRecDepth 100000

/-- A block that has been written. -/
def Blk.write (b : Blk) (n : Nat) (s : ByteArray) : Blk := ⟨b.durable, b.spoiled, false, b.pending ++ [⟨n, s⟩]⟩
/-- What Write answers, and the device behind it. -/
def Dv.write (D : Dv) (i : Int) (s : ByteArray) : Int × Dv :=
  if D.up then
    match (if D.hasB i then D.bs[i.toNat]? else none) with
    | none => (7, D.op)
    | some b => if 512 < s.size then (3, D.op) else (0, { D.op with bs := D.bs.set i.toNat (b.write D.writes s), writes := D.writes + 1 })
  else (5, D.op)

theorem info_write : (Tryd.prog.info? 167).map (fun i => (i.zero, i.size, i.bytes)) = some (some (.agg #[.int .i64 0, .string ⟨#[]⟩]), 2, 24) := by kernel_rfl
theorem und_writes : Tryd.prog.underlying 131 = some (.slice 167) := by kernel_rfl

section
variable {S : Nat → Prop} {w x : World} {B R : Nat} {sv : Nat → Value} {C : Array Value} {D : Dv}
theorem write_fits {k : Nat} {b : Blk} {s : ByteArray} (h : D.Fits) (hb : D.bs[k]? = some b) (hs : s.size ≤ 512) : Dv.Fits { D with bs := D.bs.set k (b.write D.writes s), writes := D.writes + 1 } := by
  have hm := List.mem_of_getElem? hb
  refine ⟨by simpa using h.many, fun d hd => ?_, fun d hd => ?_, fun d hd => ?_, h.turns⟩
  all_goals rcases List.mem_or_eq_of_mem_set hd with hd | rfl
  · exact h.durable d hd
  · exact h.durable b hm
  · exact fun p hp => ⟨(h.pending d hd p hp).1, Nat.lt_succ_of_lt (h.pending d hd p hp).2⟩
  · intro p hp
    rcases List.mem_append.1 hp with hp | hp
    · exact ⟨(h.pending b hm p hp).1, Nat.lt_succ_of_lt (h.pending b hm p hp).2⟩
    · obtain rfl : p = ⟨D.writes, s⟩ := by simpa using hp
      exact ⟨hs, Nat.lt_succ_self _⟩
  · exact Nat.le_succ_of_le (h.count d hd)
  · have := h.count b hm
    simp only [Blk.write, List.length_append, List.length_cons, List.length_nil]
    omega

theorem write_put (k : Nat) (b : Blk) (s : ByteArray) (v' : Value) (h : DevIn S w B R sv C D) (hb : D.bs[k]? = some b) (hs : s.size ≤ 512) (hsz : w.heap.size ≤ x.heap.size)
    (hk : ∀ j, j < w.heap.size → some j ≠ (sv k).ownBlock → x.heap[j]? = w.heap[j]?) (hown : x.ownsRow 0 167 2 v' (b.pending.length + 1) (wrCells b.pending ++ [.int .i64 D.writes, .string s]))
    (hnew : ∀ j, v'.ownBlock = some j → (sv k).ownBlock = some j ∨ w.heap.size ≤ j) (ho : x.os = w.os) (ht : x.tape = w.tape) (hout : x.output = w.output) :
    DevTo S w B { D with bs := D.bs.set k (b.write D.writes s), writes := D.writes + 1 } (((x.setCell ⟨R, k * 4 + 3, none⟩ v').setCell ⟨R, k * 4 + 2, none⟩ (.bool false)).setCell ⟨B, 1, none⟩ (.int .i64 ((D.writes : Int) + 1))) := by
  have hkl := (List.getElem?_eq_some_iff.1 hb).1
  obtain ⟨c0, c1, c2, c3⟩ := h.cells k b hb
  have hBR := h.BR
  have xB : x.heap[B]? = w.heap[B]? := hk B (h.lt B h.sB) (fun e => h.notB hkl e.symm)
  have xR : x.heap[R]? = w.heap[R]? := hk R (h.lt R h.sR) (fun e => h.notR hkl e.symm)
  have hvB : v'.ownBlock ≠ some B := fun e => by
    rcases hnew B e with h1 | h1
    · exact h.notB hkl h1
    · have := h.lt B h.sB; omega
  have hvR : v'.ownBlock ≠ some R := fun e => by
    rcases hnew R e with h1 | h1
    · exact h.notR hkl h1
    · have := h.lt R h.sR; omega
  have h1 := h.put (x := ((x.setCell ⟨R, k * 4 + 3, none⟩ v').setCell ⟨R, k * 4 + 2, none⟩ (.bool false)).setCell ⟨B, 1, none⟩ (.int .i64 ((D.writes : Int) + 1))) (D' := { D with bs := D.bs.set k (b.write D.writes s), writes := D.writes + 1 }) (b' := b.write D.writes s) (v' := v') hb rfl
    (by rw [block_setCell (block_setCell_other hBR |>.trans ((block_setCell_other hBR).trans (xB.trans h.hB)))]; simp [devCells])
    (by rw [block_setCell_other hBR.symm]; exact block_setCell (block_setCell (xR.trans h.hR))) (by simp)
    (fun j hj => by rw [row_cell (w := w) (b := 0) (by omega), row_cell (w := w) (b := 0) (by omega)])
    (by rw [row_cell (w := w) (b := 0) (by omega), row_cell (w := w) (b := 0) (by omega)]; exact c0)
    (by rw [row_cell (w := w) (b := 0) (by omega), row_cell (w := w) (b := 0) (by omega)]; exact c1)
    (row_cell_same (by rw [row_cell (w := w) (b := 0) (by omega)]; exact c2))
    (by rw [row_cell (w := w) (b := 0) (by omega)]; exact row_cell_same c3)
    (by
      have e1 : (b.write D.writes s).pending.length = b.pending.length + 1 := by simp [Blk.write]
      have e2 : wrCells (b.write D.writes s).pending = wrCells b.pending ++ [.int .i64 D.writes, .string s] := by simp [Blk.write, wrCells_append, wrCells]
      rw [e1, e2]
      exact ownsRow_same hown (fun j ej => by
        have n1 : j ≠ B := fun e => hvB (by rw [← e]; exact ej)
        have n2 : j ≠ R := fun e => hvR (by rw [← e]; exact ej)
        rw [block_setCell_other n1, block_setCell_other n2, block_setCell_other n2]))
    hnew (fun e => absurd e (by simp [Blk.write])) (by simpa [World.setCell] using hsz)
    (fun j hS hB hR hj => by rw [block_setCell_other hB, block_setCell_other hR, block_setCell_other hR]; exact hk j (h.lt j hS) (fun e => hj e.symm))
    (write_fits h.fits hb hs)
  have hm0 : Mod S w x := ⟨ho, ht, hout, hsz, fun j hj hS => hk j hj (fun e => hS (h.sP k j hkl e.symm))⟩
  refine ⟨_, ⟨_, _, _, h1⟩, fun j hj => ?_, ?_⟩
  · rcases hj with hj | hj
    · exact .inl hj
    · rcases hnew j hj with e | e
      · exact .inl (h.sP k j hkl e)
      · exact .inr e
  · exact ((hm0.setCell (p := ⟨R, k * 4 + 3, none⟩) (.inl h.sR) _).setCell (p := ⟨R, k * 4 + 2, none⟩) (.inl h.sR) _).setCell (p := ⟨B, 1, none⟩) (.inl h.sB) _

/-- What a walk wants of a device in a world that has grown. -/
theorem write_facts {v : Value} (k : Nat) (b : Blk) (h : DevIn S w B R sv C D) (hb : D.bs[k]? = some b) (hsv : sv k = v) (hW : x.heap.size ≥ w.heap.size ∧ ∀ j, j < w.heap.size → some j ≠ v.ownBlock → x.heap[j]? = w.heap[j]?) :
    x.cell? ⟨B, 0, none⟩ = some (.slice (some ⟨R, 0, none⟩) D.bs.length (C.size / 4)) ∧ x.cell? ⟨B, 1, none⟩ = some (.int .i64 D.writes) ∧ x.frozen? ⟨B, 1, none⟩ = false ∧
    x.cell? ⟨R, k * 4 + 2, none⟩ = some (.bool b.lost) ∧ x.frozen? ⟨R, k * 4 + 2, none⟩ = false ∧ x.cell? ⟨R, k * 4 + 3, none⟩ = some v ∧ x.frozen? ⟨R, k * 4 + 3, none⟩ = false := by
  subst hsv
  have hkl := (List.getElem?_eq_some_iff.1 hb).1
  have xB : x.heap[B]? = w.heap[B]? := hW.2 B (h.lt B h.sB) (fun e => h.notB hkl e.symm)
  have xR : x.heap[R]? = w.heap[R]? := hW.2 R (h.lt R h.sR) (fun e => h.notR hkl e.symm)
  have c : ∀ i, x.cell? ⟨B, i, none⟩ = w.cell? ⟨B, i, none⟩ := fun i => World.cell?_of_block (a := ⟨B, i, none⟩) xB
  have d : ∀ i, x.cell? ⟨R, i, none⟩ = w.cell? ⟨R, i, none⟩ := fun i => World.cell?_of_block (a := ⟨R, i, none⟩) xR
  have f : ∀ i, x.frozen? ⟨B, i, none⟩ = w.frozen? ⟨B, i, none⟩ := fun i => World.frozen?_of_block (a := ⟨B, i, none⟩) xB
  have g : ∀ i, x.frozen? ⟨R, i, none⟩ = w.frozen? ⟨R, i, none⟩ := fun i => World.frozen?_of_block (a := ⟨R, i, none⟩) xR
  exact ⟨(c 0).trans h.c0, (c 1).trans h.c1, (f 1).trans (h.fB 1), (d _).trans (h.r2 hb), (g _).trans (h.fR _), (d _).trans (h.r3 hb), (g _).trans (h.fR _)⟩

theorem after_append {w1 w2 w3 : World} {o : Obj} {row : Option Nat} (hb2 : Below w1.heap.size w1 w2) (hg3 : (w2.alloc o).grownBy w3 row) :
    w3.heap.size ≥ w1.heap.size ∧ ∀ j, j < w1.heap.size → some j ≠ row → w3.heap[j]? = w1.heap[j]? :=
  ⟨Nat.le_trans hb2.size (Nat.le_trans (by simp) hg3.size), fun j hj hne => (hg3.block j (by have := hb2.size; simp; omega) hne).trans ((Below.heap_alloc w2 o j (by have := hb2.size; omega)).trans (hb2.block j hj))⟩

set_option maxHeartbeats 1000000 in
theorem write_in (k : Nat) (b : Blk) (s : ByteArray) (hw : D.writes ≤ 1073741824) (hup : D.up = true) (hs : s.size ≤ 512) (h : DevAt S w B D) (hb : D.op.bs[k]? = some b) :
    Calls Tryd.prog 99 #[.pointer (some ⟨B, 0, none⟩), .int .i64 k, .string s] w fun e w' => e = .returned (.int .i64 0) ∧ DevTo S w B { D.op with bs := D.op.bs.set k (b.write D.op.writes s), writes := D.op.writes + 1 } w' := by
  have hop := operate_any h
  rw [hup] at hop
  have hwo : D.op.writes ≤ 1073741824 := by rw [D.op_writes]; exact hw
  have hd : decide ((512 : Int) < (s.size : Int)) = false := by simp; omega
  clear hw hup
  generalize D.op = E at *
  have hkl := (List.getElem?_eq_some_iff.1 hb).1
  go_enter Tryd.func99, Tryd.ntmps99
  go_wp2_with fail
  refine hop.mono ?_
  rintro e w1 ⟨rfl, hd1, hm1⟩
  clear hop
  have hhs := has_any (k : Int) hd1
  have hh : E.hasB (k : Int) = true := by simp [Dv.hasB]; omega
  rw [hh] at hhs
  clear hh
  obtain ⟨R, sv, C, k1⟩ := id hd1
  have hmany := k1.fits.many
  have hcnt := k1.fits.count b (List.mem_of_getElem? hb)
  have hrow := k1.rows k b hb
  obtain ⟨sa, scap, hsv⟩ := slice_of hrow
  rw [hsv] at hrow
  have HF := Lib.hid (fun (x : World) hW => write_facts (x := x) k b k1 hb hsv hW)
  have hput := fun (x : World) v' => write_put (x := x) k b s v' k1 hb hs
  rw [hsv] at hput
  have HP := Lib.hid hput
  clear hput
  obtain ⟨c0, c1, f1, c2, f2, c3, f3⟩ := HF.out w1 ⟨Nat.le_refl _, fun _ _ _ => rfl⟩
  obtain ⟨i0, hi, hz0, hz1, hz2⟩ := info_parts info_write
  have HROW := Lib.hid (fun (x : World) (hW : Below w1.heap.size w1 x) => ownsRow_same hrow (w' := x) (fun j e => hW.block j (by obtain ⟨cur, hc⟩ := ownsRow_block hrow e; exact lt_of_block hc)))
  clear hrow hsv k1 h hb
  go_wp2_with (go_at_call 83; refine hhs.mono ?_; rintro e w' ⟨rfl, rfl⟩)
  go_region_law (first
    | (refine step_append_lies _ (by rfl) _ _ _ (by rfl) 0 167 i0 _ 2 24 und_writes hi hz0 hz1 hz2 rfl (by decide) (.slice sa b.pending.length scap) b.pending.length (wrCells b.pending) (by rfl) (HROW.out _ (hb2.alloc hb2.size _))
        ⟨w2.heap.size, 0, none⟩ 1 1 [.int .i64 E.writes, .string s] (by rfl) rfl (World.news_of_block (cs := #[.int .i64 E.writes, .string s]) (t := 167) (fr := (0, 0)) (heap_alloc_new w2 _)) (by simp [Value.oneCell'])
        (by decide) (by unfold maxLen; omega) (by omega) (Nat.zero_le _) (w2.heap.size + 1) (by simp) ?_; intro g9 cap9 w3 ho3 hg3 hat3 hlt3; have ha3 := after_append hb2 hg3; obtain ⟨e0, e1, h1, e2, h2, e3, h3⟩ := HF.out w3 ha3; have HA := Lib.hid ha3; clear ha3)
    | (go_simp; go_at_call 117; refine (clone_any s _ (by omega)).mono ?_; rintro e w2 ⟨rfl, hb2'⟩; have hb2 : Below w1.heap.size w1 w2 := (Below.refl _ _).drew.trans hb2'; clear hb2'; obtain ⟨d0, d1, g1, d2, g2, d3, g3⟩ := HF.out w2 ⟨hb2.size, fun j hj _ => hb2.block j hj⟩; obtain ⟨_, _, _, _, _, d3', _⟩ := HF.out (w2.alloc (.cells #[.int .i64 E.writes, .string s] 167)) ⟨(hb2.alloc hb2.size _).size, fun j hj _ => (hb2.alloc hb2.size _).block j hj⟩))
  all_goals
    clear d0 d1 g1 d2 g2 d3 g3 d3' c0 c1 f1 c2 f2 c3 f3
    go_wp2
    go_ret
    refine ⟨rfl, ?_⟩
    obtain ⟨S', q1, q2, q3⟩ := HP.out w3 _ HA.out.1 HA.out.2 ho3 (fun j hj => by
      rcases hat3 with e | e
      · exact .inl (by rw [← hj]; exact e)
      · refine .inr ?_
        obtain rfl : g9 = j := by simpa [Value.ownBlock] using hj
        have := hb2.size
        omega) (hg3.os.trans hb2.os) (hg3.tape.trans hb2.tape) (hg3.output.trans hb2.output)
    exact ⟨S', q1, fun j hj => (q2 j hj).imp id (fun e => Nat.le_trans hm1.size e), hm1.trans q3 (fun j hj => .inl hj)⟩

theorem write_off (i : Int) (s : ByteArray) (hup : D.up = false) (h : DevAt S w B D) :
    Calls Tryd.prog 99 #[.pointer (some ⟨B, 0, none⟩), .int .i64 i, .string s] w fun e w' => e = .returned (.int .i64 5) ∧ DevAt S w' B D.op ∧ Mod S w w' := by
  have hop := operate_any h
  rw [hup] at hop
  clear hup
  go_enter Tryd.func99, Tryd.ntmps99
  go_wp2_with (go_at_call 113; refine hop.mono ?_; rintro e w1 ⟨rfl, hd1, hm1⟩)
  go_ret
  exact ⟨rfl, hd1, hm1⟩
theorem write_out (i : Int) (s : ByteArray) (hup : D.up = true) (hh : D.op.hasB i = false) (h : DevAt S w B D) :
    Calls Tryd.prog 99 #[.pointer (some ⟨B, 0, none⟩), .int .i64 i, .string s] w fun e w' => e = .returned (.int .i64 7) ∧ DevAt S w' B D.op ∧ Mod S w w' := by
  have hop := operate_any h
  rw [hup] at hop
  clear hup
  have HH := Lib.hid (fun (x : World) (hx : DevAt S x B D.op) => by have := has_any i hx; rwa [hh] at this)
  clear hh
  go_enter Tryd.func99, Tryd.ntmps99
  go_wp2_with (first
    | (go_at_call 113; refine hop.mono ?_; rintro e w1 ⟨rfl, hd1, hm1⟩)
    | (go_at_call 83; refine (HH.out _ hd1).mono ?_; rintro e w' ⟨rfl, rfl⟩))
  go_ret
  exact ⟨rfl, hd1, hm1⟩
theorem write_long (i : Int) (s : ByteArray) (hup : D.up = true) (hh : D.op.hasB i = true) (hs : 512 < s.size) (h : DevAt S w B D) :
    Calls Tryd.prog 99 #[.pointer (some ⟨B, 0, none⟩), .int .i64 i, .string s] w fun e w' => e = .returned (.int .i64 3) ∧ DevAt S w' B D.op ∧ Mod S w w' := by
  have hop := operate_any h
  rw [hup] at hop
  clear hup
  have HH := Lib.hid (fun (x : World) (hx : DevAt S x B D.op) => by have := has_any i hx; rwa [hh] at this)
  clear hh
  have hd : decide ((512 : Int) < (s.size : Int)) = true := by simp; omega
  go_enter Tryd.func99, Tryd.ntmps99
  go_wp2_with (first
    | (go_at_call 113; refine hop.mono ?_; rintro e w1 ⟨rfl, hd1, hm1⟩)
    | (go_at_call 83; refine (HH.out _ hd1).mono ?_; rintro e w' ⟨rfl, rfl⟩))
  go_ret
  exact ⟨rfl, hd1, hm1⟩
theorem DevAt.to {D' : Dv} (h : DevAt S x B D') (hm : Mod S w x) : DevTo S w B D' x := ⟨S, h, fun _ hk => .inl hk, hm⟩
theorem hasB_op (D : Dv) (i : Int) : D.op.hasB i = D.hasB i := by simp [Dv.hasB, D.op_bs]
/-- Write, whatever the block and the data. -/
theorem write_any (i : Int) (s : ByteArray) (hw : D.writes ≤ 1073741824) (h : DevAt S w B D) :
    Calls Tryd.prog 99 #[.pointer (some ⟨B, 0, none⟩), .int .i64 i, .string s] w fun e w' => e = .returned (.int .i64 (D.write i s).1) ∧ DevTo S w B (D.write i s).2 w' := by
  by_cases hup : D.up = true
  · by_cases hh : D.hasB i = true
    · obtain ⟨k, b, rfl, hk, hb⟩ := Dv.has_at hh
      by_cases hs : 512 < s.size
      · have e0 : D.write k s = (3, D.op) := by simp [Dv.write, hup, hh, hb, hs]
        rw [e0]
        exact (write_long k s hup (by rw [hasB_op]; exact hh) hs h).mono fun e w' ⟨he, hd, hm⟩ => ⟨he, hd.to hm⟩
      · have e0 : D.write k s = (0, { D.op with bs := D.bs.set k (b.write D.writes s), writes := D.writes + 1 }) := by simp [Dv.write, hup, hh, hb, hs]
        rw [e0]
        have := write_in k b s hw hup (by omega) h (by rw [D.op_bs]; exact hb)
        rw [D.op_bs, D.op_writes] at this
        exact this
    · have hh' : D.hasB i = false := by simpa using hh
      have e0 : D.write i s = (7, D.op) := by simp [Dv.write, hup, hh']
      rw [e0]
      exact (write_out i s hup (by rw [hasB_op]; exact hh') h).mono fun e w' ⟨he, hd, hm⟩ => ⟨he, hd.to hm⟩
  · have hup' : D.up = false := by simpa using hup
    have e0 : D.write i s = (5, D.op) := by simp [Dv.write, hup']
    rw [e0]
    exact (write_off i s hup' h).mono fun e w' ⟨he, hd, hm⟩ => ⟨he, hd.to hm⟩
end
end Go.Proofs.YtiknfifiglooeaaDoor
