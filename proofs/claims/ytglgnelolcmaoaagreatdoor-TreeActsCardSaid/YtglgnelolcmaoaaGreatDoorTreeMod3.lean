/- The law's model: Set. No conditions beyond those in each statement. -/
import Derived.Test.YtglgnelolcmaoaaGreatDoorTreeMod2
namespace Go.Proofs.YtglgnelolcmaoaaGreatDoor
open Go.RowKit Go.Maps Go.Sort
set_option linter.unusedVariables false
set_option linter.unusedSimpArgs false
set_option maxRecDepth 100000

theorem me_set : ∀ (L : List Me) (i f : Nat) (e e' : Me) (u : Value), L[i]? = some e → f < 8 → (meOne e).set f u = meOne e' → (meCells L).set (i * 8 + f) u = meCells (L.set i e')
  | [], i, f, e, e', u, h, _, _ => by simp at h
  | y :: l, 0, f, e, e', u, h, hf, hu => by
    obtain rfl : y = e := by simpa using h
    show (meOne y ++ meCells l).set (0 * 8 + f) u = meOne e' ++ meCells l
    rw [Nat.zero_mul, Nat.zero_add, List.set_append_left _ _ (by simpa [meOne] using hf), hu]
  | y :: l, i + 1, f, e, e', u, h, hf, hu => by
    have := me_set l i f e e' u (by simpa using h) hf hu
    show (meOne y ++ meCells l).set ((i + 1) * 8 + f) u = meOne y ++ meCells (l.set i e')
    rw [List.set_append_right _ _ (by simp [meOne]; omega), ← this]
    congr 2; simp [meOne]; omega
theorem ModL.ne {w : World} {base mp g cap : Nat} {L : List Me} (h : ModL w base mp g cap L) : mp ≠ g := by
  rintro rfl
  rcases h.row.2 with ⟨h0, _⟩ | ⟨g', cap', cur, hv, hb, hg, h4⟩
  · cases h0
  · injection hv with ha _ _
    injection ha with ha
    injection ha with ha _ _
    subst ha
    have := h.box.symm.trans hg
    injection this with this
    injection this with _ this
    exact absurd this (by decide)
theorem ModL.put {w : World} {base mp g cap : Nat} {L : List Me} (h : ModL w base mp g cap L) (i f : Nat) (e e' : Me) (u : Value) (he : L[i]? = some e) (hf : f < 8) (hu : (meOne e).set f u = meOne e') : ModL (w.setCell ⟨g, i * 8 + f, none⟩ u) base mp g cap (L.set i e') := by
  obtain ⟨h1, h2⟩ := h.row.stored (i * 8 + f) u
  rw [me_set L i f e e' u he hf hu] at h1
  refine ⟨?_, ?_⟩
  · rw [List.length_set]; exact (h2.block mp h.ltm (fun e => h.ne (Option.some.inj e))).trans h.box
  · rw [List.length_set]; exact h1
theorem Rep.at {T : List UInt8 → Option Nd} {L : List Me} (h : Rep T L) {i j : Nat} {a b : Me} (hi : L[i]? = some a) (hj : L[j]? = some b) (e : a.1 = b.1) : i = j := by
  refine (List.getElem?_inj (l := L.map (·.1)) (by rw [List.length_map]; exact (List.getElem?_eq_some_iff.1 hi).1) h.nodup).1 ?_
  rw [List.getElem?_map, List.getElem?_map, hi, hj]; simp [e]
theorem Rep.set {T : List UInt8 → Option Nd} {L : List Me} (h : Rep T L) {i : Nat} {s : List UInt8} {n : Nd} (hi : L[i]? = some (s, n)) (n' : Nd) : Rep (updN T s (some n')) (L.set i (s, n')) := by
  have hil := (List.getElem?_eq_some_iff.1 hi).1
  have e : (L.set i (s, n')).map (·.1) = L.map (·.1) := by
      rw [List.map_set]
      refine List.ext_getElem? fun j => ?_
      by_cases e : i = j
      · subst e; rw [List.getElem?_set_self (by simpa using hil), List.getElem?_map, hi]; rfl
      · rw [List.getElem?_set_ne e]
  refine ⟨?_, fun x m => ?_, by rw [e]; exact h.sorted⟩
  · rw [e]; exact h.nodup
  · have hset : ∀ j, (L.set i (s, n'))[j]? = if i = j then some (s, n') else L[j]? := fun j => by
      by_cases e : i = j
      · subst e; rw [List.getElem?_set_self hil, if_pos rfl]
      · rw [List.getElem?_set_ne e, if_neg e]
    by_cases hx : x = s
    · subst hx
      rw [updN_same]
      constructor
      · intro e
        injection e with e
        rw [← e]
        exact List.mem_of_getElem? (i := i) (by rw [hset, if_pos rfl])
      · intro hm
        obtain ⟨j, hj⟩ := List.getElem?_of_mem hm
        rw [hset] at hj
        by_cases e : i = j
        · rw [if_pos e] at hj; injection hj with hj; injection hj with _ hj; rw [hj]
        · rw [if_neg e] at hj; exact absurd (h.at hi hj rfl) e
    · rw [updN_other hx, h.mem x m]
      constructor
      · intro hm
        obtain ⟨j, hj⟩ := List.getElem?_of_mem hm
        have e : i ≠ j := by rintro rfl; rw [hi] at hj; injection hj with hj; injection hj with hj _; exact hx hj.symm
        exact List.mem_of_getElem? (i := j) (by rw [hset, if_neg e]; exact hj)
      · intro hm
        obtain ⟨j, hj⟩ := List.getElem?_of_mem hm
        rw [hset] at hj
        by_cases e : i = j
        · rw [if_pos e] at hj; injection hj with hj; injection hj with hj _; exact absurd hj.symm hx
        · rw [if_neg e] at hj; exact List.mem_of_getElem? hj
/-- Nothing but two blocks has turned. -/
structure Only (w w' : World) (p q : Nat) : Prop where
  os : w'.os = w.os
  tape : w'.tape = w.tape
  output : w'.output = w.output
  size : w.heap.size ≤ w'.heap.size
  block : ∀ k, k < w.heap.size → k ≠ p → k ≠ q → w'.heap[k]? = w.heap[k]?
theorem Only.of_below {w w' : World} (p q : Nat) (h : Below w.heap.size w w') : Only w w' p q := ⟨h.os, h.tape, h.output, h.size, fun k hk _ _ => h.block k hk⟩
theorem Only.trans {a b c : World} {p q : Nat} (h : Only a b p q) (k : Only b c p q) : Only a c p q :=
  ⟨k.os.trans h.os, k.tape.trans h.tape, k.output.trans h.output, Nat.le_trans h.size k.size, fun j hj h1 h2 => (k.block j (Nat.lt_of_lt_of_le hj h.size) h1 h2).trans (h.block j hj h1 h2)⟩
theorem Only.set {a b : World} {p q : Nat} (h : Only a b p q) (o : Nat) (u : Value) : Only a (b.setCell ⟨q, o, none⟩ u) p q :=
  h.trans ⟨rfl, rfl, rfl, by simp, fun k _ _ h2 => heap_setCell_other b ⟨q, o, none⟩ k u (fun e => h2 (by simp [e]))⟩
set_option maxHeartbeats 4000000 in
theorem mset_any (base mp g cap : Nat) (L : List Me) (T : List UInt8 → Option Nd) (s : List UInt8) (d : ByteArray) (v t : Int) (w : World) (h : ModL w base mp g cap L) (hR : Rep T L) (hS : SmallT T) (hL : L.length ≤ 1000) (hd : d.size ≤ 1000) :
    Calls Tryz.prog 33 #[.pointer (some ⟨mp, 0, none⟩), .string (bs s), .string d, .int .i64 v, .int .i64 t] w fun e w' => e = .returned (.tuple #[.int .i64 (setN T s d v t).ver, .int .i64 (setN T s d v t).err]) ∧ ∃ L', ModL w' base mp g cap L' ∧ Rep (setN T s d v t).T L' ∧ L'.length = L.length ∧ Only w w' mp g := by
  obtain ⟨ce, hce⟩ : ∃ ce, ce = chkN T s v := ⟨_, rfl⟩
  have HC := Lib.hid (mchk_any base mp g cap L T s v w h hR hL)
  rw [← hce] at HC
  have HM := Lib.hid h
  have HR := Lib.hid hR
  obtain ⟨R, hRR⟩ : ∃ R, R = setN T s d v t := ⟨_, rfl⟩
  rw [← hRR]
  by_cases h0 : ce = 0
  · obtain ⟨nd, hnd⟩ := chk_some (hce.symm.trans h0)
    by_cases hd60 : 60 < d.size
    · have HRR : Hid (R = ⟨0, 3, T⟩) := Lib.hid (by rw [hRR]; unfold setN; rw [if_neg (by rw [← hce]; exact fun e => e h0), if_pos hd60])
      have d1 : decide ((60 : Int) < (d.size : Int)) = true := by simp; omega
      subst h0
      clear hRR hce hnd hS h hR
      go_enter Tryz.func33, Tryz.ntmps33
      go_wp2_with fail
      refine HC.out.mono ?_
      rintro e w1 ⟨rfl, b1⟩
      go_wp2_with fail
      go_ret2
      rw [HRR.out]
      exact ⟨rfl, L, HM.out.below b1, HR.out, rfl, Only.of_below _ _ b1⟩
    · have HRR : Hid (R = ⟨nd.ver + 1, 0, updN T s (some (putN nd d t))⟩) := Lib.hid (by rw [hRR]; unfold setN; rw [if_neg (by rw [← hce]; exact fun e => e h0), if_neg hd60, hnd]; rfl)
      have d1 : decide ((60 : Int) < (d.size : Int)) = false := by simp; omega
      obtain ⟨_, _, s0, s1⟩ := hS s nd hnd
      obtain ⟨i, hi, hLi⟩ := hR.find_some hnd
      have hil : i < L.length := (List.getElem?_eq_some_iff.1 hLi).1
      have HI := Lib.hid hi
      have HLI := Lib.hid hLi
      have HF := Lib.hid (fun (W : World) (hb : Below w.heap.size w W) => by
        have := mfind_any base mp g cap L s W (h.below hb) hL
        rw [hi] at this; exact this)
      have HB := Lib.hid (fun (x y : World) (hx : Below w.heap.size w x) (hb : Below x.heap.size x y) => (⟨(h.below (hx.trans (hb.mono hx.size))).cell, hx.trans (hb.mono hx.size)⟩ : y.cell? ⟨mp, 0, none⟩ = some (.slice (some ⟨g, 0, none⟩) L.length cap) ∧ Below w.heap.size w y))
      have i0 : (0 : Int) ≤ (i : Int) := by omega
      have i2 : (i : Int) < (L.length : Int) := by omega
      have HND := Lib.hid hnd
      subst h0
      clear hRR hce hS h hnd hLi hi hR
      go_enter Tryz.func33, Tryz.ntmps33
      go_wp2_with fail
      refine HC.out.mono ?_
      rintro e w1 ⟨rfl, b1⟩
      go_upto_region 6 with fail
      have b2 := b1.drew
      have p1 := (HM.out.below b2).cell
      go_region_held3 (fun w' => w'.cell? ⟨mp, 0, none⟩ = some (.slice (some ⟨g, 0, none⟩) L.length cap) ∧ Below w.heap.size w w') (first | (with_reducible assumption) | (refine ⟨?_, ?_⟩ <;> with_reducible assumption) | go_keep)
        ((go_at_call 58; ((with_reducible refine (HF.out _ ?hb1).mono ?_); (case hb1 => with_reducible assumption); rintro e w6 ⟨rfl, b6⟩; obtain ⟨p3, p4⟩ := HB.out _ _ (by with_reducible assumption) b6)))
      have M6 := HM.out.below p4
      obtain ⟨c0, c1, c2, c3, c4, c5, c6, c7⟩ := M6.cells i _ HLI.out
      have f1 := M6.row.frozenAt (i * 8 + 1)
      have f2 := M6.row.frozenAt (i * 8 + 2)
      have f6 := M6.row.frozenAt (i * 8 + 6)
      have M9 := ((M6.put i 1 _ (s, { nd with data := d }) (.string d) HLI.out (by decide) rfl).put i 2 (s, { nd with data := d }) (s, { nd with data := d, ver := nd.ver + 1 }) (.int .i64 (nd.ver + 1)) (by simp [hil]) (by decide) rfl).put i 6 (s, { nd with data := d, ver := nd.ver + 1 }) (s, putN nd d t) (.int .i64 t) (by simp [hil]) (by decide) rfl
      rw [List.set_set, List.set_set] at M9
      have O9 := (((Only.of_below mp g p4).set (i * 8 + 1) (.string d)).set (i * 8 + 2) (.int .i64 (nd.ver + 1))).set (i * 8 + 6) (.int .i64 t)
      clear p1 p3 b1 b2 M6
      go_wp2_with fail
      go_ret2
      rw [HRR.out]
      exact ⟨rfl, _, M9, HR.out.set HLI.out _, by rw [List.length_set], O9⟩
  · have HRR : Hid (R = ⟨0, ce, T⟩) := Lib.hid (by rw [hRR]; unfold setN; rw [if_pos (by rw [← hce]; exact h0), ← hce])
    have e1 : (ce != 0) = true := by simpa using h0
    have e2 : (ce == 0) = false := by simpa using h0
    clear hRR hce h0 h hR hS
    go_enter Tryz.func33, Tryz.ntmps33
    go_wp2_with fail
    refine HC.out.mono ?_
    rintro e w1 ⟨rfl, b1⟩
    go_wp2_with fail
    go_ret2
    rw [HRR.out]
    exact ⟨rfl, L, HM.out.below b1, HR.out, rfl, Only.of_below _ _ b1⟩
end Go.Proofs.YtglgnelolcmaoaaGreatDoor
