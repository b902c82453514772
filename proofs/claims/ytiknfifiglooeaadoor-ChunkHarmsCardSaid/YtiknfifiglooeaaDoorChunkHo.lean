/- strings.Builder: WriteString and String at a builder of one's own. No conditions beyond those in each statement. Data: the chunks joined, or the first error; on any device. No conditions beyond those in each statement. Data of a whole snapshot, and law 7's 'holds': a store has just a snapshot. No conditions beyond those in each statement. -/
import Derived.Test.YtiknfifiglooeaaDoorChunkSt
import Derived.Shelf.Strings.BuilderK
import Derived.Test.YtiknfifiglooeaaDoorShelf
import Derived.Test.YtiknfifiglooeaaDoorChunkP
namespace Go.Proofs.YtiknfifiglooeaaDoor
section
open Go Go.RowKit Go.Proofs.Tryd
set_option linter.unusedVariables false
set_option maxRecDepth 100000

theorem und_pb : Tryd.prog.underlying 152 = some (.pointer 154) := by kernel_rfl
theorem und_up : Tryd.prog.underlying 198 = some .unsafePointer := by kernel_rfl
theorem size_bu : (Tryd.prog.info? 154).map (·.size) = some 2 := by kernel_rfl
theorem lies_bu : liesAt Tryd.prog Tryd.prog.depth 154 (2 / Tryd.prog.cellsOf 154) 0 154 1 = true := by kernel_rfl
theorem und_by : Tryd.prog.underlying 100 = some (.slice 5) := by kernel_rfl
theorem und_st : Tryd.prog.underlying 9 = some .string := by kernel_rfl
theorem ne_bu : 154 ≠ 5 := by decide
set_option maxHeartbeats 1000000 in
theorem bcheck_used (b : Nat) (w : World) (h0 : w.cell? ⟨b, 0, none⟩ = some (.pointer (some ⟨b, 0, none⟩))) :
    Calls Tryd.prog 116 #[.pointer (some ⟨b, 0, none⟩)] w fun e w' => e = .returned (.tuple #[]) ∧ w' = w := by
  obtain ⟨j, hj, _⟩ := Option.map_eq_some_iff.1 size_bu
  go_enter Tryd.func116, Tryd.ntmps116
  go_wp2
  rw [Lib.run_neq_ptr_same w _ und_pb hj]
  go_wp2
  go_end0
  exact ⟨rfl, rfl⟩
set_option maxHeartbeats 1000000 in
theorem bcheck_fresh (b : Nat) (w : World) (h0 : w.cell? ⟨b, 0, none⟩ = some (.pointer none)) (hsh : w.shape? b = some (154, 2)) (hfz : w.frozen? ⟨b, 0, none⟩ = false) :
    Calls Tryd.prog 116 #[.pointer (some ⟨b, 0, none⟩)] w fun e w' => e = .returned (.tuple #[]) ∧ w' = w.setCell ⟨b, 0, none⟩ (.pointer (some ⟨b, 0, none⟩)) := by
  obtain ⟨j, hj, hjs⟩ := Option.map_eq_some_iff.1 size_bu
  go_enter Tryd.func116, Tryd.ntmps116
  go_wp2
  rw [Lib.run_to_unsafe w ⟨b, 0, none⟩ und_pb und_up hj (by rw [hjs]; decide) hsh (Nat.zero_lt_succ 1)]
  simp only [Result.andThen]
  rw [Oper.upon_value]
  go_wp2
  rw [run_callFunc_extern Tryd.func125 (by kernel_rfl) (by kernel_rfl) (by kernel_rfl) (e := Extern.AbiNoEscape.same) (by kernel_rfl)]
  rw [Lib.run_noEscape]
  simp only [Result.andThen]
  rw [Oper.upon_value]
  go_wp2
  rw [Lib.run_from_unsafe w ⟨b, 0, none⟩ und_up und_pb hj hsh lies_bu]
  simp only [Result.andThen]
  rw [Oper.upon_value]
  go_wp2
  go_end0
  exact ⟨rfl, rfl⟩
theorem bcheck_any (B b : Nat) (bs : List Value) (w : World) (h : Lib.IsBuilderF 154 5 B b bs w) :
    Calls Tryd.prog 116 #[.pointer (some ⟨b, 0, none⟩)] w fun e w' => e = .returned (.tuple #[]) ∧ Lib.BuilderAtF 154 5 B b (.pointer (some ⟨b, 0, none⟩)) bs w' ∧ Below B w w' := by
  rcases h with h | h
  · refine (bcheck_fresh b w h.cell0 h.shape h.frozen0).mono ?_
    rintro e w' ⟨rfl, rfl⟩
    exact ⟨rfl, h.used _, (Below.refl B w).setCell (p := ⟨b, 0, none⟩) h.1 _⟩
  · refine (bcheck_used b w h.cell0).mono ?_
    rintro e w' ⟨rfl, rfl⟩
    exact ⟨rfl, h, Below.refl B _⟩
set_option maxHeartbeats 2000000 in
theorem bwrite_any (B b : Nat) (bs : List Value) (s : ByteArray) (w : World) (h : Lib.IsBuilderF 154 5 B b bs w) (hlen : bs.length + s.size ≤ 140737488355328) (hBw : B ≤ w.heap.size) :
    Calls Tryd.prog 86 #[.pointer (some ⟨b, 0, none⟩), .string s] w fun e w' => e = .returned (.tuple #[.int .i64 s.size, .nilIface]) ∧ Lib.IsBuilderF 154 5 B b (bs ++ Lib.strCells s) w' ∧ Below B w w' := by
  obtain ⟨i0, hi, hz0, hz1, hz2⟩ := info_parts info_u8
  have HC := Lib.hid (bcheck_any B b bs w h)
  clear h
  go_enter Tryd.func86, Tryd.ntmps86
  go_wp2_with fail
  refine HC.out.mono ?_
  rintro e w1 ⟨rfl, ⟨hB, v, hbk, hown, hne⟩, hb1⟩
  clear HC
  have c0 : w1.cell? ⟨b, 0, none⟩ = some (.pointer (some ⟨b, 0, none⟩)) := cell_of hbk rfl
  have c1 : w1.cell? ⟨b, 1, none⟩ = some v := cell_of hbk rfl
  go_wp2_with (at_builtin; refine Lib.wpList_append_own_stringF _ rfl _ _ 100 9 rfl B 5 i0 und_by und_st hi hz0 hz1 hz2 _ _ _ rfl hown s rfl ?c3 ?c4 ?c5 ?_)
  case c3 => unfold maxLen; omega
  case c4 => omega
  case c5 => have := hb1.size; omega
  intro v' w2 hown' hgrow _
  have hb2 : w2.heap[b]? = some (.cells #[.pointer (some ⟨b, 0, none⟩), v] 154 (0, 0)) := (hgrow.block b (lt_of_block hbk) (fun e => hne e.symm)).trans hbk
  have d0 : w2.cell? ⟨b, 0, none⟩ = some (.pointer (some ⟨b, 0, none⟩)) := cell_of hb2 rfl
  have d1 : w2.cell? ⟨b, 1, none⟩ = some v := cell_of hb2 rfl
  have f1 : w2.frozen? ⟨b, 1, none⟩ = false := free_of hb2
  obtain ⟨ao, n', cap, rfl⟩ : ∃ ao n' cap, v' = .slice ao n' cap := by
    rcases hown'.2 with ⟨hv, _⟩ | ⟨g, cap, cur, fz, hv, _⟩
    · exact ⟨_, _, _, hv⟩
    · exact ⟨_, _, _, hv⟩
  go_wp2
  go_ret2
  refine ⟨rfl, .inr ?_, ?_⟩
  · exact Lib.BuilderAtF.put (T := 154) (e := 5) hB hb2 (bs' := bs ++ Lib.strCells s) (by simpa [Lib.strCells_length] using hown') ne_bu
  · exact (hb1.grown hgrow (by have := hb1.size; omega) (fun k hk => (hown.lt k hk).1)).setCell (p := ⟨b, 1, none⟩) hB _
end
section
open Go Go.RowKit Go.Proofs.Tryd
set_option linter.unusedVariables false
set_option maxRecDepth 100000

/-- The first k texts joined. -/
def joinK (F : Nat → ByteArray × Int) : Nat → ByteArray
  | 0 => ⟨#[]⟩
  | k + 1 => joinK F k ++ (F k).1
theorem joinK_size {F : Nat → ByteArray × Int} (h : ∀ k, (F k).1.size ≤ 512) : ∀ k, (joinK F k).size ≤ 512 * k
  | 0 => by show 0 ≤ _; omega
  | k + 1 => by
    have := joinK_size h k
    have := h k
    show (joinK F k ++ (F k).1).size ≤ _
    rw [ByteArray.size_append]
    omega
theorem isb_below {T e : TypeId} {B b : Nat} {bs : List Value} {w x : World} (h : Lib.IsBuilderF T e B b bs w) (hb : Below w.heap.size w x) : Lib.IsBuilderF T e B b bs x := by
  have key : ∀ p, Lib.BuilderAtF T e B b p bs w → Lib.BuilderAtF T e B b p bs x := by
    rintro p ⟨h1, v, h2, h3, h4⟩
    refine ⟨h1, v, (hb.block b (lt_of_block h2)).trans h2, ⟨h3.1, ?_⟩, h4⟩
    rcases h3.2 with hn | ⟨g, cap, cur, fz, rfl, hg, hgg, rest⟩
    · exact .inl hn
    · exact .inr ⟨g, cap, cur, fz, rfl, hg, (hb.block g (lt_of_block hgg)).trans hgg, rest⟩
  exact h.imp (key _) (key _)
theorem chunkF_size {D : Dv} (hf : D.Fits) (base area : Int) (l : Ls) (k : Nat) : (chunkF D base area l k).1.size ≤ 512 := by
  unfold chunkF
  split
  · split
    · exact c_sread_fits hf _
    · show (0 : Nat) ≤ 512; omega
  · show (0 : Nat) ≤ 512; omega
set_option maxHeartbeats 4000000 in
theorem cdata_any {m : Nat} {E : Nat → Prop} {w : World} {b B : Nat} {base : Int} {l : Ls} {sv : Value} {area : Int} {D : Dv} (h : StoW m E w b B base l sv area D) (h0 : l.index ≠ 0) (ht : ∀ x, Below w.heap.size w x → Tabs x) (hw : D.writes ≤ 1073741824) :
    Calls Tryd.prog 44 #[.pointer (some ⟨b, 0, none⟩)] w fun e w' => Below w.heap.size w w' ∧
      ((∃ k, k < l.sums.length ∧ (chunkF D base area l k).2 ≠ 0 ∧ (∀ j, j < k → (chunkF D base area l j).2 = 0) ∧ e = .returned (.tuple #[.string ⟨#[]⟩, .int .i64 (chunkF D base area l k).2])) ∨
      ((∀ j, j < l.sums.length → (chunkF D base area l j).2 = 0) ∧ e = .returned (.tuple #[.string (joinK (chunkF D base area l) l.sums.length), .int .i64 0]))) := by
  obtain ⟨i, t, n, ss⟩ := l
  obtain ⟨a, cap, rfl, hl, _⟩ := id h.sums
  simp only at hl h0
  have HE := Lib.hid (cempty_any h.st)
  rw [show decide (i = 0) = false from decide_eq_false h0] at HE
  obtain ⟨F, hF⟩ : ∃ F, F = chunkF D base area ⟨i, t, n, ss⟩ := ⟨_, rfl⟩
  have hfs : ∀ k, (F k).1.size ≤ 512 := fun k => by rw [hF]; exact chunkF_size h.dev.fits _ _ _ _
  have HFS := Lib.hid hfs
  have HJS := Lib.hid (joinK_size hfs)
  have HCK := Lib.hid (fun (W : World) (hb : Below w.heap.size w W) (k : Nat) (hk : k < ss.length) => cchunk_any k (h.below hb) h0 hk (ht W hb) hw)
  rw [← hF] at HCK ⊢
  obtain ⟨N, hN⟩ : ∃ N, N = ss.length := ⟨_, rfl⟩
  have HSB := Lib.hid (fun (W : World) (hb : Below w.heap.size w W) => (h.below hb).st)
  simp only at HSB ⊢
  rw [← hN] at HSB HCK hl ⊢
  have HL := Lib.hid hl
  clear h ht hF hfs hl hN
  go_enter Tryd.func44, Tryd.ntmps44
  go_wp2_with fail
  refine HE.out.mono ?_
  rintro e w1 ⟨rfl, rfl⟩
  clear HE
  have Q0 : Lib.IsBuilderF 154 5 w.heap.size w.heap.size (Lib.byteCells []) (w.alloc (.cells #[.pointer none, .slice none 0 0] 154)) :=
    .inl (Lib.BuilderAtF.of ⟨Nat.le_refl _, .slice none 0 0, heap_alloc_new w _, World.ownsRow_nil _ _ _ _, by simp [Value.ownBlock]⟩)
  have B0 := (Below.refl w.heap.size w).alloc (Nat.le_refl _) (.cells #[.pointer none, .slice none 0 0] 154)
  go_upto_region 4 with fail
  generalize w.alloc (.cells #[.pointer none, .slice none 0 0] 154) = w1 at Q0 B0 ⊢
  obtain ⟨⟨c0, c1, c2, c3, c4, c5, c6⟩, _⟩ := (HSB.out w1 B0).cells
  have HQ0 := Lib.hid Q0
  have HB0 := Lib.hid B0
  clear Q0 B0
  go_wp2_with fail
  go_loopw [16] (fun z wr => ∃ k : Nat, k ≤ N ∧ z = .int .i64 (k : Int) ∧ (∀ j, j < k → (F j).2 = 0) ∧ Lib.IsBuilderF 154 5 w.heap.size w.heap.size (Lib.byteCells (joinK F k).data.toList) wr ∧ Below w.heap.size w wr) (fun z _ => N - (intOf z).toNat)
  case atStart => exact ⟨0, Nat.zero_le _, rfl, fun j hj => by omega, HQ0.out, HB0.out⟩
  case round =>
    obtain ⟨k, hk, rfl, hz, Qk, Bk⟩ := hrel
    clear HQ0 HB0 c0 c1 c2 c3 c4 c5 c6
    by_cases hlt : k < N
    · have hlt' : (k : Int) < (N : Int) := by omega
      have hk0 : (0 : Int) ≤ (k : Int) := by omega
      have HK := Lib.hid hlt
      have HZ := Lib.hid hz
      have HC := Lib.hid (HCK.out wr Bk k hlt)
      obtain ⟨c, x, hc⟩ : ∃ c x, F k = (c, x) := ⟨_, _, rfl⟩
      rw [hc] at HC
      have HFK := Lib.hid hc
      have HQK := Lib.hid Qk
      have HBK := Lib.hid Bk
      clear hc hz Qk Bk hlt hk
      go_wp2_with fail
      refine HC.out.mono ?_
      rintro e w3 ⟨rfl, hb3⟩
      have HB3 := Lib.hid (HBK.out.trans (hb3.mono HBK.out.size))
      have HQ3 := Lib.hid (isb_below HQK.out hb3)
      clear hb3 HC HBK HQK
      by_cases hx : x = 0
      case neg =>
        have hx2 : (x != 0) = true := by simp [hx]
        go_wp2_with fail
        refine bodyPost_ret (v := .tuple #[.string ⟨#[]⟩, .int .i64 x]) (by simp [results, Tryd.results44, go_sem]) rfl ?_
        refine ⟨HB3.out, .inl ⟨k, HK.out, by rw [HFK.out]; exact hx, HZ.out, by rw [HFK.out]⟩⟩
      subst hx
      have hsz : (Lib.byteCells (joinK F k).data.toList).length + c.size ≤ 140737488355328 := by
        rw [Lib.byteCells_length, ← Lib.size_eq]
        have h1 := HJS.out k
        have h2 := HFS.out k
        rw [HFK.out] at h2
        have := HK.out
        have := HL.out
        simp only at h2
        omega
      have HWS := Lib.hid (bwrite_any w.heap.size w.heap.size _ c w3 HQ3.out hsz HB3.out.size)
      clear hsz
      go_wp2_with fail
      refine HWS.out.mono ?_
      rintro e w4 ⟨rfl, q4, hb4⟩
      have Q4 : Lib.IsBuilderF 154 5 w.heap.size w.heap.size (Lib.byteCells (joinK F (k + 1)).data.toList) w4 := by
        have e1 : joinK F (k + 1) = joinK F k ++ c := by show joinK F k ++ (F k).1 = _; rw [HFK.out]
        rw [e1, ByteArray.data_append, Array.toList_append]
        unfold Lib.byteCells at q4 ⊢
        rw [List.map_append]
        exact q4
      have B4 := HB3.out.trans hb4
      have hz4 : ∀ j, j < k + 1 → (F j).2 = 0 := fun j hj => by
        by_cases h : j = k
        · subst h; rw [HFK.out]
        · exact HZ.out j (by omega)
      have HQ4 := Lib.hid Q4
      have HB4 := Lib.hid B4
      have HZ4 := Lib.hid hz4
      have HW : Hid (wrap64 ((k : Int) + 1) = (k : Int) + 1) := IntWalk.wrap64_in _ (by have := HL.out; have := HK.out; omega)
      clear q4 hb4 Q4 B4 hz4 HWS HQ3 HB3
      go_wp2_with fail
      try rw [HW.out]
      refine ⟨⟨k + 1, HK.out, by simp, HZ4.out, HQ4.out, HB4.out⟩, ?_⟩
      have := HK.out
      simp [intOf]
      omega
    · obtain rfl : k = N := by omega
      have HSR := Lib.hid (Tryd.Builder_String_any_k w.heap.size w.heap.size _ wr Qk Bk.size)
      have HBK := Lib.hid Bk
      have HZ := Lib.hid hz
      clear Qk Bk hz hlt
      go_wp2_with fail
      refine HSR.out.mono ?_
      rintro e w4 ⟨rfl, _, hb4, _⟩
      have HB4 := Lib.hid (HBK.out.trans hb4)
      clear hb4
      go_wp2_with fail
      refine bodyPost_ret (v := .tuple #[.string ⟨(joinK F k).data.toList.toArray⟩, .int .i64 0]) (by simp [results, Tryd.results44, go_sem]) rfl ?_
      refine ⟨HB4.out, .inr ⟨HZ.out, ?_⟩⟩
      rw [Array.toArray_toList]
end
section
open Go Go.RowKit Go.Proofs.Tryd
set_option linter.unusedVariables false
set_option maxRecDepth 100000

theorem joinK_cut {F : Nat → ByteArray × Int} {s : ByteArray} : ∀ k, (∀ j, j < k → (F j).1 = cutAt s j) → joinK F k = cutT s k
  | 0, _ => (cutT_zero s).symm
  | k + 1, h => by
    show joinK F k ++ (F k).1 = _
    rw [joinK_cut k (fun j hj => h j (by omega)), h k (by omega), cutT_succ]
section
variable {m : Nat} {E : Nat → Prop} {w x : World} {b B M base : Nat} {l : Ls} {sv : Value} {ar : Nat} {D D' : Dv} {i t : Int} {s : ByteArray}
theorem st_data (h : StC m E w b B M base (ofL i t s) sv ar D) (hg : (ofL i t s).Good) (hp : Pieces (cont D) (base + ar * 66 + 2) i s) (ht : ∀ x, Below w.heap.size w x → Tabs x) :
    Calls Tryd.prog 44 #[.pointer (some ⟨b, 0, none⟩)] w fun e w' => e = .returned (.tuple #[.string s, .int .i64 0]) ∧ Below w.heap.size w w' := by
  have hn := cutN_le.2 (good_size hg)
  have hin := hg.in
  have hck : ∀ k, k < cutN s.size → chunkF D (base : Int) (ar : Int) (ofL i t s) k = (cutAt s k, 0) := fun k hk => by
    rw [st_chunkF h (by omega), chunkC_good (hp k hk) hk]
  refine (cdata_any h.sto (by have := hin.1; omega) ht (by rw [h.w0]; decide)).mono ?_
  rw [ofL_sums]
  rintro e w' ⟨hb, ⟨k, hk, h1, _, _⟩ | ⟨_, rfl⟩⟩
  · rw [hck k hk] at h1; exact absurd rfl h1
  · refine ⟨?_, hb⟩
    rw [joinK_cut _ (fun j hj => by rw [hck j hj]), cutT_all]
/-- .. of one with damaged chunks. -/
theorem st_data_bad (h : StC m E w b B M base l sv ar D) (hg : l.Good) (hc : ∀ k, k < l.sums.length → (chunkC (cont D) (base + ar * 66 + 2) l k).2 = 0 ∨ (chunkC (cont D) (base + ar * 66 + 2) l k).2 = 6) (hx : ∃ k, k < l.sums.length ∧ (chunkC (cont D) (base + ar * 66 + 2) l k).2 = 6) (ht : ∀ x, Below w.heap.size w x → Tabs x) :
    Calls Tryd.prog 44 #[.pointer (some ⟨b, 0, none⟩)] w fun e w' => e = .returned (.tuple #[.string ⟨#[]⟩, .int .i64 6]) ∧ Below w.heap.size w w' := by
  have hin := hg.in
  have hck : ∀ k, k < l.sums.length → chunkF D (base : Int) (ar : Int) l k = chunkC (cont D) (base + ar * 66 + 2) l k := fun k hk => st_chunkF h (by omega)
  refine (cdata_any h.sto (by have := hin.1; omega) ht (by rw [h.w0]; decide)).mono ?_
  rintro e w' ⟨hb, ⟨k, hk, h1, _, rfl⟩ | ⟨h1, _⟩⟩
  · rw [hck k hk] at h1 ⊢
    rw [(hc k hk).resolve_left h1]
    exact ⟨rfl, hb⟩
  · obtain ⟨k, hk, h6⟩ := hx
    have := h1 k hk
    rw [hck k hk, h6] at this
    exact absurd this (by decide)
end
/-- A shot's box. -/
def ShB (w : World) (b : Nat) (i t : Int) (s : ByteArray) : Prop := w.heap[b]? = some (.cells #[.int .i64 i, .int .i64 t, .string s] 80 (0, 0))
theorem ShB.below {w x : World} {b : Nat} {i t : Int} {s : ByteArray} (h : ShB w b i t s) (hb : Below w.heap.size w x) : ShB x b i t s := (hb.block b (lt_of_block h)).trans h
theorem ShB.cells {w : World} {b : Nat} {i t : Int} {s : ByteArray} (h : ShB w b i t s) : w.cell? ⟨b, 0, none⟩ = some (.int .i64 i) ∧ w.cell? ⟨b, 1, none⟩ = some (.int .i64 t) ∧ w.cell? ⟨b, 2, none⟩ = some (.string s) := ⟨cell_of h rfl, cell_of h rfl, cell_of h rfl⟩
theorem ShB.new (w : World) (i t : Int) (s : ByteArray) : ShB (w.alloc (.cells #[.int .i64 i, .int .i64 t, .string s] 80)) w.heap.size i t s := heap_alloc_new w _
set_option maxHeartbeats 4000000 in
theorem holds_none {m : Nat} {E : Nat → Prop} {w : World} {b B M base : Nat} {sv : Value} {ar : Nat} {D : Dv} (t : Int) (s : ByteArray) (h : StC m E w b B M base ls0 sv ar D) :
    Calls Tryd.prog 38 #[.pointer (some ⟨b, 0, none⟩), .agg #[.int .i64 0, .int .i64 t, .string s]] w fun e w' => e = .returned (.bool true) ∧ Below w.heap.size w w' := by
  obtain ⟨va, vc, rfl, _⟩ := id h.sto.sums
  have X0 := ShB.new w 0 t s
  have B0 := (Below.refl w.heap.size w).alloc (Nat.le_refl _) (.cells #[.int .i64 0, .int .i64 t, .string s] 80)
  have H := Lib.hid h
  obtain ⟨xb, hxb⟩ : ∃ q, q = w.heap.size := ⟨_, rfl⟩
  rw [← hxb] at X0
  clear h
  go_enter Tryd.func38, Tryd.ntmps38
  go_upto_region 1 with fail
  rw [← hxb]
  generalize w.alloc (.cells #[.int .i64 0, .int .i64 t, .string s] 80) = w1 at X0 B0 ⊢
  have HX1 := Lib.hid X0
  have HB1 := Lib.hid B0
  have HS1 := Lib.hid (H.out.below B0)
  have HL := Lib.hid (clist_any ls0 HS1.out.sto.st HS1.out.sto.sums)
  rw [show hasL ls0 = ls0 from rfl, show decide (ls0.index ≠ 0) = false from rfl] at HL
  clear X0 B0 hxb
  go_wp2_with fail
  refine HL.out.mono ?_
  rintro e w2 ⟨sv2, rfl, hrow, hb2⟩
  obtain ⟨sa, sc, rfl⟩ := slice_of hrow
  have HB2 := Lib.hid (HB1.out.trans (hb2.mono HB1.out.size))
  have bA := (Below.refl w2.heap.size w2).alloc (Nat.le_refl _) (.cells #[.int .i64 0, .int .i64 0, .int .i64 0, .slice sa 0 sc] 67)
  have hx2 := (HX1.out.below hb2).below bA
  have HS3 := Lib.hid (H.out.below (HB2.out.trans (bA.mono HB2.out.size)))
  have HB3 := Lib.hid (HB2.out.trans (bA.mono HB2.out.size))
  clear hrow hb2 HL HS1 HX1 HB1
  unfold lsV ls0
  simp only [List.length_nil]
  go_upto_region 2 with fail
  generalize w2.alloc (.cells #[.int .i64 0, .int .i64 0, .int .i64 0, .slice sa 0 sc] 67) = w3 at bA hx2 HS3 HB3 ⊢
  obtain ⟨c0, c1, c2⟩ := hx2.cells
  have HD := Lib.hid (cdata_empty HS3.out.sto.st)
  have HC := Lib.hid (cchunk_no 0 (by decide) HS3.out.sto.st (fun hh => hh.1 rfl))
  have HH := Lib.hid (churt_empty HS3.out.sto.st)
  clear bA hx2
  go_wp2_with fail
  refine HD.out.mono ?_
  rintro e w4 ⟨rfl, rfl⟩
  clear HD
  go_wp2_with fail
  refine HC.out.mono ?_
  rintro e w4 ⟨rfl, rfl⟩
  clear HC
  go_wp2_with fail
  refine HH.out.mono ?_
  rintro e w4 ⟨rfl, rfl⟩
  go_wp2_with fail
  go_ret
  exact ⟨rfl, HB3.out⟩
set_option maxHeartbeats 8000000 in
theorem holds_snap {m : Nat} {E : Nat → Prop} {w : World} {b B M base : Nat} {sv : Value} {ar : Nat} {D : Dv} {i t : Int} {s : ByteArray} (h : StC m E w b B M base (ofL i t s) sv ar D) (hg : (ofL i t s).Good) (hp : Pieces (cont D) (base + ar * 66 + 2) i s) (ht : ∀ x, Below w.heap.size w x → Tabs x) :
    Calls Tryd.prog 38 #[.pointer (some ⟨b, 0, none⟩), .agg #[.int .i64 i, .int .i64 t, .string s]] w fun e w' => e = .returned (.bool true) ∧ Below w.heap.size w w' := by
  have hin := hg.in
  have hi1 : 1 ≤ i := hin.1
  have hsz := good_size hg
  have hn := cutN_le.2 hsz
  have X0 := ShB.new w i t s
  have B0 := (Below.refl w.heap.size w).alloc (Nat.le_refl _) (.cells #[.int .i64 i, .int .i64 t, .string s] 80)
  have H := Lib.hid h
  have HT := Lib.hid ht
  have HP := Lib.hid hp
  have HG := Lib.hid hg
  have HSZ : Hid (s.size ≤ 100000000) := by show _ ≤ _; omega
  have HSL : Hid ((sumsOf s).length ≤ 1000000) := by show _ ≤ _; rw [sumsOf_length]; omega
  have hi0 : (i == 0) = false := beq_eq_false_iff_ne.2 (by omega)
  have hl0 : (decide ((ofL i t s).index ≠ 0)) = true := decide_eq_true (by show i ≠ 0; omega)
  have hhas : hasL (ofL i t s) = ofL i t s := if_neg (by show ¬ i = 0; omega)
  obtain ⟨xb, hxb⟩ : ∃ q, q = w.heap.size := ⟨_, rfl⟩
  rw [← hxb] at X0
  have HI1 := Lib.hid hi1
  have HN := Lib.hid hn
  obtain ⟨wa, wc, rfl, _⟩ := id h.sto.sums
  clear h ht hp hg hin hi1 hsz hn
  go_enter Tryd.func38, Tryd.ntmps38
  go_upto_region 1 with fail
  rw [← hxb]
  generalize w.alloc (.cells #[.int .i64 i, .int .i64 t, .string s] 80) = w1 at X0 B0 ⊢
  have HX1 := Lib.hid X0
  have HB1 := Lib.hid B0
  have HS1 := Lib.hid (H.out.below B0)
  have HL := Lib.hid (clist_any (ofL i t s) HS1.out.sto.st HS1.out.sto.sums)
  rw [hhas, hl0] at HL
  clear X0 B0 hxb hhas hl0
  go_wp2_with fail
  refine HL.out.mono ?_
  rintro e w2 ⟨sv2, rfl, hrow, hb2⟩
  obtain ⟨va, vc, rfl⟩ := slice_of hrow
  have HB2 := Lib.hid (HB1.out.trans (hb2.mono HB1.out.size))
  have L3 := LsB.new w2 i t (s.size : Int) (.slice va (sumsOf s).length vc)
  have bA := (Below.refl w2.heap.size w2).alloc (Nat.le_refl _) (.cells #[.int .i64 i, .int .i64 t, .int .i64 (s.size : Int), .slice va (sumsOf s).length vc] 67)
  have hx2 := (HX1.out.below hb2).below bA
  have HS3 := Lib.hid (H.out.below (HB2.out.trans (bA.mono HB2.out.size)))
  have HB3 := Lib.hid (HB2.out.trans (bA.mono HB2.out.size))
  have HM3 := Lib.hid (SmR.below (SmR.of_row hrow HSL.out (sumsOf_in s)) bA)
  obtain ⟨lb, hlb⟩ : ∃ q, q = w2.heap.size := ⟨_, rfl⟩
  rw [← hlb] at L3
  clear hrow hb2 HL HS1 HX1 HB1
  unfold lsV ofL
  simp only
  go_upto_region 2 with fail
  rw [← hlb]
  generalize w2.alloc (.cells #[.int .i64 i, .int .i64 t, .int .i64 (s.size : Int), .slice va (sumsOf s).length vc] 67) = w3 at L3 bA hx2 HS3 HB3 HM3 ⊢
  obtain ⟨c0, c1, c2⟩ := hx2.cells
  have HX3 := Lib.hid hx2
  have HL3 := Lib.hid L3
  have HD := Lib.hid (st_data HS3.out HG.out HP.out (fun x hx => HT.out x (HB3.out.trans (hx.mono HB3.out.size))))
  clear bA hx2 L3 hlb
  go_wp2_with fail
  refine HD.out.mono ?_
  rintro e w4 ⟨rfl, hb4⟩
  have HS4 := Lib.hid (HS3.out.below hb4)
  have HB4 := Lib.hid (HB3.out.trans (hb4.mono HB3.out.size))
  have HX4 := Lib.hid (HX3.out.below hb4)
  have HL4 := Lib.hid (HL3.out.below hb4)
  have HM4 := Lib.hid (HM3.out.below hb4)
  obtain ⟨⟨l0, l1, l2, l3⟩, _⟩ := HL4.out.cells
  have HC := Lib.hid (cchunk_no ((sumsOf s).length : Int) (by have := HSL.out; omega) HS4.out.sto.st (fun hh => by have h2 := hh.2.2; have e : (ofL i t s).sums.length = (sumsOf s).length := rfl; omega))
  have HC2 := Lib.hid (cchunk_no (-1) (by decide) HS4.out.sto.st (fun hh => by have h2 := hh.2.1; omega))
  clear hb4 HD HS3 HB3 HX3 HL3 HM3 c0 c1 c2
  go_wp2_with fail
  refine HC.out.mono ?_
  rintro e w5 ⟨rfl, rfl⟩
  clear HC
  go_wp2_with fail
  refine HC2.out.mono ?_
  rintro e w5 ⟨rfl, rfl⟩
  clear HC2 l0 l1 l2 l3 hi0
  go_upto_region 9 with fail
  have HXB := Lib.hid (fun (W : World) (hb : Below w4.drew.heap.size w4.drew W) => HX4.out.below (((Below.refl _ w4).drew).trans hb))
  have HLB := Lib.hid (fun (W : World) (hb : Below w4.drew.heap.size w4.drew W) => HL4.out.below (((Below.refl _ w4).drew).trans hb))
  have HSM := Lib.hid (fun (W : World) (hb : Below w4.drew.heap.size w4.drew W) => HM4.out.below (((Below.refl _ w4).drew).trans hb))
  have HBF := Lib.hid (fun (W : World) (hb : Below w4.drew.heap.size w4.drew W) => show Below w.heap.size w W from HB4.out.trans ((((Below.refl _ w4).drew).trans hb).mono HB4.out.size))
  have HTB := Lib.hid (fun (W : World) (hb : Below w4.drew.heap.size w4.drew W) => HT.out W (HBF.out W hb))
  have HHU := Lib.hid (fun (W : World) (hb : Below w4.drew.heap.size w4.drew W) => st_hurt0 (HS4.out.below (((Below.refl _ w4).drew).trans hb)) HG.out HP.out (HTB.out W hb))
  refine wp_region_steps (atP [fun v _ => v = (.bool true),
    fun v _ => v = (.bool true),
    fun v _ => v = (lsV (ofL i t s) (.slice va (sumsOf s).length vc)),
    fun v _ => v = (.pointer (some ⟨xb, 0, none⟩)),
    fun v _ => v = (.int .i64 i),
    fun v _ => v = (.pointer (some ⟨xb, 1, none⟩)),
    fun v _ => v = (.int .i64 t),
    fun v _ => v = (.pointer (some ⟨xb, 2, none⟩)),
    fun v _ => v = (.string s),
    fun v W => ∃ sv2, v = lsV (ofL i t s) sv2 ∧ SmR W sv2 (sumsOf s),
    fun v _ => v = (.bool true),
    fun v _ => v = (.bool true),
    fun v _ => v = (.bool true),
    fun v _ => v = (.int .i64 0),
    fun v _ => v = (.bool true),
    fun v _ => v = (.bool true),
    fun v _ => v = (.bool true),
    fun v _ => v = (.string s),
    fun v _ => v = (.pointer (some ⟨xb, 2, none⟩)),
    fun v _ => v = (.string s),
    fun v _ => v = (.bool true),
    fun v _ => v = (.bool true),
    fun v _ => v = (.bool true),
    fun v _ => v = (.pointer (some ⟨b, 0, none⟩)),
    fun v W => ∃ ha hc, v = .slice ha 0 hc,
    fun v _ => v = (.int .i64 0),
    fun v _ => v = (.bool true),
    fun v _ => v = (.bool true),
    fun v _ => v = (.bool true),
    fun v _ => v = (.int .i64 7),
    fun v _ => v = (.bool true),
    fun v _ => v = (.bool true),
    fun v _ => v = (.bool true),
    fun v _ => v = (.int .i64 7),
    fun v _ => v = (.bool true),
    fun v _ => v = (.bool true),
    fun v _ => v = (.bool true)]) (fun w w' => Below w.heap.size w w') (by kernel_rfl) (by kernel_rfl) (by kernel_rfl) (Below.refl _ _) (fun i v w w' _ h1 h2 => atP_keep (R := fun w w' => Below w.heap.size w w') (atK1 (fun _ _ _ h _ => h) (atK1 (fun _ _ _ h _ => h) (atK1 (fun _ _ _ h _ => h) (atK1 (fun _ _ _ h _ => h) (atK1 (fun _ _ _ h _ => h) (atK1 (fun _ _ _ h _ => h) (atK1 (fun _ _ _ h _ => h) (atK1 (fun _ _ _ h _ => h) (atK1 (fun _ _ _ h _ => h) (atK1 (fun v w w' h hr => h.elim fun x hx => ⟨x, hx.1, hx.2.below hr⟩) (atK1 (fun _ _ _ h _ => h) (atK1 (fun _ _ _ h _ => h) (atK1 (fun _ _ _ h _ => h) (atK1 (fun _ _ _ h _ => h) (atK1 (fun _ _ _ h _ => h) (atK1 (fun _ _ _ h _ => h) (atK1 (fun _ _ _ h _ => h) (atK1 (fun _ _ _ h _ => h) (atK1 (fun _ _ _ h _ => h) (atK1 (fun _ _ _ h _ => h) (atK1 (fun _ _ _ h _ => h) (atK1 (fun _ _ _ h _ => h) (atK1 (fun _ _ _ h _ => h) (atK1 (fun _ _ _ h _ => h) (atK1 (fun _ _ _ h _ => h) (atK1 (fun _ _ _ h _ => h) (atK1 (fun _ _ _ h _ => h) (atK1 (fun _ _ _ h _ => h) (atK1 (fun _ _ _ h _ => h) (atK1 (fun _ _ _ h _ => h) (atK1 (fun _ _ _ h _ => h) (atK1 (fun _ _ _ h _ => h) (atK1 (fun _ _ _ h _ => h) (atK1 (fun _ _ _ h _ => h) (atK1 (fun _ _ _ h _ => h) (atK1 (fun _ _ _ h _ => h) (atK1 (fun _ _ _ h _ => h) (atK0)))))))))))))))))))))))))))))))))))))) i h1 h2) (fun u v w h1 h2 => h1.trans (h2.mono h1.size)) ?_ ?_
  · intro q9 o ho x W1 hR hF
    match q9, ho with
    | 0, ho =>
      obtain rfl := Option.some.inj ho
      exact gstep_move rfl (wanted0 rfl) _ rfl _ (eval_of 6 _ (by kernel_rfl) rfl) ⟨_, rfl, rfl, Below.refl _ _⟩
    | 1, ho =>
      obtain rfl := Option.some.inj ho
      exact gstep_move rfl (wanted0 rfl) _ rfl _ (eval_at 69 0 _ (by kernel_rfl) (show 69 < 105 by decide) (hF 0 (by kernel_rfl))) ⟨_, rfl, rfl, Below.refl _ _⟩
    | 2, ho =>
      obtain rfl := Option.some.inj ho
      exact gstep_load rfl (wanted_at 70 1 true _ true rfl (by kernel_rfl) (show 70 < 105 by decide) (hF 1 (by kernel_rfl)) rfl) _ _ rfl _ (eval_of 5 _ (by kernel_rfl) rfl) _ (run_loadLs W1 _ _ _ _ _ _ _ (HLB.out W1 hR)) ⟨_, rfl, rfl, Below.refl _ _⟩
    | 3, ho =>
      obtain rfl := Option.some.inj ho
      exact gstep_field rfl (wanted_at 70 1 true _ true rfl (by kernel_rfl) (show 70 < 105 by decide) (hF 1 (by kernel_rfl)) rfl) _ _ _ rfl _ (eval_of 3 _ (by kernel_rfl) rfl) _ ((by go_simp)) ⟨_, rfl, rfl, Below.refl _ _⟩
    | 4, ho =>
      obtain rfl := Option.some.inj ho
      exact gstep_load rfl (wanted_at 70 1 true _ true rfl (by kernel_rfl) (show 70 < 105 by decide) (hF 1 (by kernel_rfl)) rfl) _ _ rfl _ (eval_at 72 3 _ (by kernel_rfl) (show 72 < 105 by decide) (hF 3 (by kernel_rfl))) _ (run_loadI W1 _ _ (HXB.out W1 hR).cells.1) ⟨_, rfl, rfl, Below.refl _ _⟩
    | 5, ho =>
      obtain rfl := Option.some.inj ho
      exact gstep_field rfl (wanted_at 70 1 true _ true rfl (by kernel_rfl) (show 70 < 105 by decide) (hF 1 (by kernel_rfl)) rfl) _ _ _ rfl _ (eval_of 3 _ (by kernel_rfl) rfl) _ ((by go_simp)) ⟨_, rfl, rfl, Below.refl _ _⟩
    | 6, ho =>
      obtain rfl := Option.some.inj ho
      exact gstep_load rfl (wanted_at 70 1 true _ true rfl (by kernel_rfl) (show 70 < 105 by decide) (hF 1 (by kernel_rfl)) rfl) _ _ rfl _ (eval_at 74 5 _ (by kernel_rfl) (show 74 < 105 by decide) (hF 5 (by kernel_rfl))) _ (run_loadI W1 _ _ (HXB.out W1 hR).cells.2.1) ⟨_, rfl, rfl, Below.refl _ _⟩
    | 7, ho =>
      obtain rfl := Option.some.inj ho
      exact gstep_field rfl (wanted_at 70 1 true _ true rfl (by kernel_rfl) (show 70 < 105 by decide) (hF 1 (by kernel_rfl)) rfl) _ _ _ rfl _ (eval_of 3 _ (by kernel_rfl) rfl) _ ((by go_simp)) ⟨_, rfl, rfl, Below.refl _ _⟩
    | 8, ho =>
      obtain rfl := Option.some.inj ho
      exact gstep_load rfl (wanted_at 70 1 true _ true rfl (by kernel_rfl) (show 70 < 105 by decide) (hF 1 (by kernel_rfl)) rfl) _ _ rfl _ (eval_at 76 7 _ (by kernel_rfl) (show 76 < 105 by decide) (hF 7 (by kernel_rfl))) _ (run_loadS W1 _ _ (HXB.out W1 hR).cells.2.2) ⟨_, rfl, rfl, Below.refl _ _⟩
    | 9, ho =>
      obtain rfl := Option.some.inj ho
      refine gstep_call3 rfl (wanted_at 70 1 true _ true rfl (by kernel_rfl) (show 70 < 105 by decide) (hF 1 (by kernel_rfl)) rfl) _ _ _ _ _ rfl _ _ _ (eval_at 73 4 _ (by kernel_rfl) (show 73 < 105 by decide) (hF 4 (by kernel_rfl))) (eval_at 75 6 _ (by kernel_rfl) (show 75 < 105 by decide) (hF 6 (by kernel_rfl))) (eval_at 77 8 _ (by kernel_rfl) (show 77 < 105 by decide) (hF 8 (by kernel_rfl))) (by go_simp) ?_
      refine (cof_any i t s HSZ.out W1 (HTB.out W1 hR)).mono ?_
      rintro e w2 ⟨sv2, rfl, hrow2, hb⟩
      exact ⟨_, rfl, _, rfl, ⟨sv2, rfl, SmR.of_row hrow2 HSL.out (sumsOf_in s)⟩, hb⟩
    | 10, ho =>
      obtain rfl := Option.some.inj ho
      obtain ⟨sv2, hx1, hx2⟩ := hF 9 (by kernel_rfl)
      refine gstep_call2 rfl (wanted_at 70 1 true _ true rfl (by kernel_rfl) (show 70 < 105 by decide) (hF 1 (by kernel_rfl)) rfl) _ _ _ _ rfl _ _ (eval_at 71 2 _ (by kernel_rfl) (show 71 < 105 by decide) (hF 2 (by kernel_rfl))) (eval_at 78 9 _ (by kernel_rfl) (show 78 < 105 by decide) hx1) (by go_simp) ?_
      refine (csame_any (ofL i t s) (ofL i t s) _ sv2 W1 (HSM.out W1 hR) hx2).mono ?_
      rintro e w2 ⟨rfl, hb⟩
      exact ⟨_, rfl, _, rfl, congrArg Value.bool ((sameB_iff _ _).2 rfl), hb⟩
    | 11, ho =>
      obtain rfl := Option.some.inj ho
      exact gstep_pick rfl (wanted0 rfl) _ _ _ rfl true (eval_at 70 1 _ (by kernel_rfl) (show 70 < 105 by decide) (hF 1 (by kernel_rfl))) _ (by rw [if_pos rfl]; exact (eval_at 79 10 _ (by kernel_rfl) (show 79 < 105 by decide) (hF 10 (by kernel_rfl)))) ⟨_, rfl, rfl, Below.refl _ _⟩
    | 12, ho =>
      obtain rfl := Option.some.inj ho
      exact gstep_move rfl (wanted0 rfl) _ rfl _ (eval_at 80 11 _ (by kernel_rfl) (show 80 < 105 by decide) (hF 11 (by kernel_rfl))) ⟨_, rfl, rfl, Below.refl _ _⟩
    | 13, ho =>
      obtain rfl := Option.some.inj ho
      exact gstep_move rfl (wanted_at 81 12 true _ true rfl (by kernel_rfl) (show 81 < 105 by decide) (hF 12 (by kernel_rfl)) rfl) _ rfl _ (eval_of 12 _ (by kernel_rfl) rfl) ⟨_, rfl, rfl, Below.refl _ _⟩
    | 14, ho =>
      obtain rfl := Option.some.inj ho
      exact gstep_bin rfl (wanted_at 81 12 true _ true rfl (by kernel_rfl) (show 81 < 105 by decide) (hF 12 (by kernel_rfl)) rfl) _ _ _ _ _ rfl _ _ (eval_at 82 13 _ (by kernel_rfl) (show 82 < 105 by decide) (hF 13 (by kernel_rfl))) rfl _ (run_eqE W1 _ _ _ rfl _ _) ⟨_, rfl, rfl, Below.refl _ _⟩
    | 15, ho =>
      obtain rfl := Option.some.inj ho
      exact gstep_pick rfl (wanted0 rfl) _ _ _ rfl true (eval_at 81 12 _ (by kernel_rfl) (show 81 < 105 by decide) (hF 12 (by kernel_rfl))) _ (by rw [if_pos rfl]; exact (eval_at 83 14 _ (by kernel_rfl) (show 83 < 105 by decide) (hF 14 (by kernel_rfl)))) ⟨_, rfl, rfl, Below.refl _ _⟩
    | 16, ho =>
      obtain rfl := Option.some.inj ho
      exact gstep_move rfl (wanted0 rfl) _ rfl _ (eval_at 84 15 _ (by kernel_rfl) (show 84 < 105 by decide) (hF 15 (by kernel_rfl))) ⟨_, rfl, rfl, Below.refl _ _⟩
    | 17, ho =>
      obtain rfl := Option.some.inj ho
      exact gstep_move rfl (wanted_at 85 16 true _ true rfl (by kernel_rfl) (show 85 < 105 by decide) (hF 16 (by kernel_rfl)) rfl) _ rfl _ (eval_of 11 _ (by kernel_rfl) rfl) ⟨_, rfl, rfl, Below.refl _ _⟩
    | 18, ho =>
      obtain rfl := Option.some.inj ho
      exact gstep_field rfl (wanted_at 85 16 true _ true rfl (by kernel_rfl) (show 85 < 105 by decide) (hF 16 (by kernel_rfl)) rfl) _ _ _ rfl _ (eval_of 3 _ (by kernel_rfl) rfl) _ ((by go_simp)) ⟨_, rfl, rfl, Below.refl _ _⟩
    | 19, ho =>
      obtain rfl := Option.some.inj ho
      exact gstep_load rfl (wanted_at 85 16 true _ true rfl (by kernel_rfl) (show 85 < 105 by decide) (hF 16 (by kernel_rfl)) rfl) _ _ rfl _ (eval_at 87 18 _ (by kernel_rfl) (show 87 < 105 by decide) (hF 18 (by kernel_rfl))) _ (run_loadS W1 _ _ (HXB.out W1 hR).cells.2.2) ⟨_, rfl, rfl, Below.refl _ _⟩
    | 20, ho =>
      obtain rfl := Option.some.inj ho
      exact gstep_bin rfl (wanted_at 85 16 true _ true rfl (by kernel_rfl) (show 85 < 105 by decide) (hF 16 (by kernel_rfl)) rfl) _ _ _ _ _ rfl _ _ (eval_at 86 17 _ (by kernel_rfl) (show 86 < 105 by decide) (hF 17 (by kernel_rfl))) (eval_at 88 19 _ (by kernel_rfl) (show 88 < 105 by decide) (hF 19 (by kernel_rfl))) _ (run_eqS W1 _ _ _ (by simp) _ _) ⟨_, rfl, rfl, Below.refl _ _⟩
    | 21, ho =>
      obtain rfl := Option.some.inj ho
      exact gstep_pick rfl (wanted0 rfl) _ _ _ rfl true (eval_at 85 16 _ (by kernel_rfl) (show 85 < 105 by decide) (hF 16 (by kernel_rfl))) _ (by rw [if_pos rfl]; exact (eval_at 89 20 _ (by kernel_rfl) (show 89 < 105 by decide) (hF 20 (by kernel_rfl)))) ⟨_, rfl, rfl, Below.refl _ _⟩
    | 22, ho =>
      obtain rfl := Option.some.inj ho
      exact gstep_move rfl (wanted0 rfl) _ rfl _ (eval_at 90 21 _ (by kernel_rfl) (show 90 < 105 by decide) (hF 21 (by kernel_rfl))) ⟨_, rfl, rfl, Below.refl _ _⟩
    | 23, ho =>
      obtain rfl := Option.some.inj ho
      exact gstep_move rfl (wanted_at 91 22 true _ true rfl (by kernel_rfl) (show 91 < 105 by decide) (hF 22 (by kernel_rfl)) rfl) _ rfl _ (eval_of 0 _ (by kernel_rfl) rfl) ⟨_, rfl, rfl, Below.refl _ _⟩
    | 24, ho =>
      obtain rfl := Option.some.inj ho
      refine gstep_call rfl (wanted_at 91 22 true _ true rfl (by kernel_rfl) (show 91 < 105 by decide) (hF 22 (by kernel_rfl)) rfl) _ _ _ rfl _ (eval_at 92 23 _ (by kernel_rfl) (show 92 < 105 by decide) (hF 23 (by kernel_rfl))) (by go_simp) ?_
      refine (HHU.out W1 hR).mono ?_
      rintro e w2 ⟨⟨ha, hc, rfl⟩, hb⟩
      exact ⟨_, rfl, _, rfl, ⟨ha, hc, rfl⟩, hb⟩
    | 25, ho =>
      obtain rfl := Option.some.inj ho
      obtain ⟨ha, hc, hx1⟩ := hF 24 (by kernel_rfl)
      exact gstep_lenLIn rfl (wanted_at 91 22 true _ true rfl (by kernel_rfl) (show 91 < 105 by decide) (hF 22 (by kernel_rfl)) rfl) _ rfl _ _ _ (eval_at 93 24 _ (by kernel_rfl) (show 93 < 105 by decide) hx1) ⟨_, rfl, rfl, Below.refl _ _⟩
    | 26, ho =>
      obtain rfl := Option.some.inj ho
      exact gstep_bin rfl (wanted_at 91 22 true _ true rfl (by kernel_rfl) (show 91 < 105 by decide) (hF 22 (by kernel_rfl)) rfl) _ _ _ _ _ rfl _ _ (eval_at 94 25 _ (by kernel_rfl) (show 94 < 105 by decide) (hF 25 (by kernel_rfl))) rfl _ (run_eqI W1 _ _ _ rfl _ _) ⟨_, rfl, rfl, Below.refl _ _⟩
    | 27, ho =>
      obtain rfl := Option.some.inj ho
      exact gstep_pick rfl (wanted0 rfl) _ _ _ rfl true (eval_at 91 22 _ (by kernel_rfl) (show 91 < 105 by decide) (hF 22 (by kernel_rfl))) _ (by rw [if_pos rfl]; exact (eval_at 95 26 _ (by kernel_rfl) (show 95 < 105 by decide) (hF 26 (by kernel_rfl)))) ⟨_, rfl, rfl, Below.refl _ _⟩
    | 28, ho =>
      obtain rfl := Option.some.inj ho
      exact gstep_move rfl (wanted0 rfl) _ rfl _ (eval_at 96 27 _ (by kernel_rfl) (show 96 < 105 by decide) (hF 27 (by kernel_rfl))) ⟨_, rfl, rfl, Below.refl _ _⟩
    | 29, ho =>
      obtain rfl := Option.some.inj ho
      exact gstep_move rfl (wanted_at 97 28 true _ true rfl (by kernel_rfl) (show 97 < 105 by decide) (hF 28 (by kernel_rfl)) rfl) _ rfl _ (eval_of 14 _ (by kernel_rfl) rfl) ⟨_, rfl, rfl, Below.refl _ _⟩
    | 30, ho =>
      obtain rfl := Option.some.inj ho
      exact gstep_bin rfl (wanted_at 97 28 true _ true rfl (by kernel_rfl) (show 97 < 105 by decide) (hF 28 (by kernel_rfl)) rfl) _ _ _ _ _ rfl _ _ (eval_at 98 29 _ (by kernel_rfl) (show 98 < 105 by decide) (hF 29 (by kernel_rfl))) rfl _ (run_eqE W1 _ _ _ rfl _ _) ⟨_, rfl, rfl, Below.refl _ _⟩
    | 31, ho =>
      obtain rfl := Option.some.inj ho
      exact gstep_pick rfl (wanted0 rfl) _ _ _ rfl true (eval_at 97 28 _ (by kernel_rfl) (show 97 < 105 by decide) (hF 28 (by kernel_rfl))) _ (by rw [if_pos rfl]; exact (eval_at 99 30 _ (by kernel_rfl) (show 99 < 105 by decide) (hF 30 (by kernel_rfl)))) ⟨_, rfl, rfl, Below.refl _ _⟩
    | 32, ho =>
      obtain rfl := Option.some.inj ho
      exact gstep_move rfl (wanted0 rfl) _ rfl _ (eval_at 100 31 _ (by kernel_rfl) (show 100 < 105 by decide) (hF 31 (by kernel_rfl))) ⟨_, rfl, rfl, Below.refl _ _⟩
    | 33, ho =>
      obtain rfl := Option.some.inj ho
      exact gstep_move rfl (wanted_at 101 32 true _ true rfl (by kernel_rfl) (show 101 < 105 by decide) (hF 32 (by kernel_rfl)) rfl) _ rfl _ (eval_of 16 _ (by kernel_rfl) rfl) ⟨_, rfl, rfl, Below.refl _ _⟩
    | 34, ho =>
      obtain rfl := Option.some.inj ho
      exact gstep_bin rfl (wanted_at 101 32 true _ true rfl (by kernel_rfl) (show 101 < 105 by decide) (hF 32 (by kernel_rfl)) rfl) _ _ _ _ _ rfl _ _ (eval_at 102 33 _ (by kernel_rfl) (show 102 < 105 by decide) (hF 33 (by kernel_rfl))) rfl _ (run_eqE W1 _ _ _ rfl _ _) ⟨_, rfl, rfl, Below.refl _ _⟩
    | 35, ho =>
      obtain rfl := Option.some.inj ho
      exact gstep_pick rfl (wanted0 rfl) _ _ _ rfl true (eval_at 101 32 _ (by kernel_rfl) (show 101 < 105 by decide) (hF 32 (by kernel_rfl))) _ (by rw [if_pos rfl]; exact (eval_at 103 34 _ (by kernel_rfl) (show 103 < 105 by decide) (hF 34 (by kernel_rfl)))) ⟨_, rfl, rfl, Below.refl _ _⟩
    | 36, ho =>
      obtain rfl := Option.some.inj ho
      exact gstep_assign rfl (wanted0 rfl) _ rfl _ (eval_at 104 35 _ (by kernel_rfl) (show 104 < 105 by decide) (hF 35 (by kernel_rfl))) ⟨_, rfl, rfl, Below.refl _ _⟩
    | n + 37, ho => simp at ho
  · intro x w5 hR hF
    have h36 := hF 36 (by decide)
    simp only [putAll, Act.put, List.setIfInBounds_toArray, List.set_cons_succ, List.set_cons_zero]
    generalize x 36 = v36 at h36 ⊢
    have h36' : v36 = .bool true := h36
    subst h36'
    have B5 := HBF.out w5 hR
    clear hF h36
    go_wp2_with fail
    go_ret
    exact ⟨rfl, B5⟩
end
end Go.Proofs.YtiknfifiglooeaaDoor
