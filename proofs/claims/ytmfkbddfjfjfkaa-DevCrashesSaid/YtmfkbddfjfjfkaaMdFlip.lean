/- The model's Do: a byte is turned. No conditions beyond those in each statement. -/
import Derived.Test.YtmfkbddfjfjfkaaPlay
import Derived.RegionTactic
import Derived.BigRegion
import Derived.Laws.BitsAllLaws
namespace Go.Proofs.Ytmfkbddfjfjfkaa
open Go.RowKit
set_option linter.unusedVariables false

section
variable {S : Nat → Prop} {w x : World} {B RS RG RH : Nat} {sv : Value} {M : Md}
/-- What a walk reads of the model at a block. -/
theorem MdIn.facts (h : MdIn S w B RS RG RH sv M) (hb : Below w.heap.size w x) {k : Nat} {s : ByteArray} {g t : Bool} (hs : M.safe[k]? = some s) (hg : M.gone[k]? = some g) (ht : M.hurt[k]? = some t) :
    (x.cell? ⟨B, 0, none⟩ = some (.int .i64 M.safe.length) ∧ x.cell? ⟨B, 1, none⟩ = some (.slice (some ⟨RS, 0, none⟩) M.safe.length M.safe.length) ∧ x.cell? ⟨B, 3, none⟩ = some (.slice (some ⟨RG, 0, none⟩) M.safe.length M.safe.length) ∧ x.cell? ⟨B, 4, none⟩ = some (.slice (some ⟨RH, 0, none⟩) M.safe.length M.safe.length)) ∧
    (x.cell? ⟨RS, k, none⟩ = some (.string s) ∧ x.cell? ⟨RG, k, none⟩ = some (.bool g) ∧ x.cell? ⟨RH, k, none⟩ = some (.bool t)) ∧
    (x.frozen? ⟨RS, k, none⟩ = false ∧ x.frozen? ⟨RG, k, none⟩ = false ∧ x.frozen? ⟨RH, k, none⟩ = false) := by
  have h' := h.keep hb.size (fun j hj => hb.block j (h.lt j hj))
  exact ⟨⟨h'.c0, h'.c1, h'.c3, h'.c4⟩, ⟨h'.s hs, h'.g hg, h'.h ht⟩, h'.hS.free k, h'.hG.free k, h'.hH.free k⟩

theorem fix_eq (n : Int) (m : Nat) (hm : 0 < m) (hm2 : m ≤ 512) : wrap64 ((IntKind.u64.wrap n).tmod (m : Int)) = (flipIx n m : Int) := by
  have hlt := Nat.mod_lt (n % 18446744073709551616).toNat hm
  rw [show IntKind.u64.wrap n = n % 18446744073709551616 from rfl, Int.tmod_eq_emod_of_nonneg (by omega), flipIx]
  have e : (n % 18446744073709551616) % (m : Int) = (((n % 18446744073709551616).toNat % m : Nat) : Int) := by rw [Int.natCast_emod, Int.toNat_of_nonneg (by omega)]
  rw [e]
  unfold wrap64
  omega
/-- 'string' of a slice of one byte that has just been made. -/
theorem conv_one (W : World) (q : Nat) (hq : q < 256) :
    (convert 63 9 (.slice (some ⟨W.heap.size, 0, none⟩) 1 1)).run Try.prog (W.alloc (.cells #[.int .u8 (q : Int)] 5)) = .ok (.string ⟨#[UInt8.ofNat q]⟩) (W.alloc (.cells #[.int .u8 (q : Int)] 5)) := by
  have h := run_convert_bytes_back (P := Try.prog) (W.alloc (.cells #[.int .u8 (q : Int)] 5)) 63 9 5 ⟨W.heap.size, 0, none⟩ 1 [UInt8.ofNat q] und_bytes und_u8' und_string' (fun j hj => by
    have hj0 : j = 0 := by simp at hj; omega
    subst hj0
    show (W.alloc (.cells #[.int .u8 (q : Int)] 5)).cell? ⟨W.heap.size, 0, none⟩ = _
    rw [(Whole.new W 5 #[.int .u8 (q : Int)]).cell (i := 0) rfl]
    simp
    omega)
  exact h

theorem flipS_eq (s : ByteArray) (n : Int) (bt ix : Nat) (hix : ix = flipIx n s.size) (hl : ix < s.size) :
    s.extract 0 ix ++ ⟨#[UInt8.ofNat (s[ix]'hl).toNat ^^^ UInt8.ofNat bt]⟩ ++ s.extract (ix + 1) s.size = flipS s n bt := by
  have hd : ix < s.data.size := hl
  apply ByteArray.ext
  apply Array.toList_inj.1
  rw [flipS, ← hix]
  simp only [ByteArray.data_append, ByteArray.data_extract, Array.toList_append, Array.toList_extract, List.extract, List.toList_toArray]
  have hs : s.size = s.data.toList.length := by simp
  rw [List.set_eq_take_append_cons_drop, if_pos (by simpa using hd), List.getD_eq_getElem?_getD, List.getElem?_eq_getElem (by simpa using hd)]
  have hq : UInt8.ofNat (s[ix]'hl).toNat = s.data.toList[ix]'(by simpa using hd) := by
    rw [UInt8.ofNat_toNat]
    rfl
  rw [hq, hs]
  simp
  exact List.take_of_length_le (by simp)

theorem flip_md_put {w1 w3 : World} {o : Obj} (k : Nat) (s' : ByteArray) (h : MdIn S w B RS RG RH sv M) (hb1 : Below w.heap.size w w1) (hb3 : Below (w1.setCell ⟨RH, k, none⟩ (.bool true)).drew.heap.size (w1.setCell ⟨RH, k, none⟩ (.bool true)).drew w3) (hs : s'.size ≤ 512) :
    MdTo S w B { M with safe := M.safe.set k s', hurt := M.hurt.set k true } (((w3.alloc o).setCell ⟨RS, k, none⟩ (.string s')).drew) := by
  have h1 := h.keep hb1.size (fun j hj => hb1.block j (h.lt j hj))
  have hsz1 : (w1.setCell ⟨RH, k, none⟩ (.bool true)).drew.heap.size = w1.heap.size := by simp [World.setCell]
  have hold : ∀ j, j < w1.heap.size → j ≠ RH → j ≠ RS → (((w3.alloc o).setCell ⟨RS, k, none⟩ (.string s')).drew).heap[j]? = w1.heap[j]? := fun j hj h2 h3 => by
    have e1 : (((w3.alloc o).setCell ⟨RS, k, none⟩ (.string s')).drew).heap[j]? = (w3.alloc o).heap[j]? := block_setCell_other h3
    rw [e1, Below.heap_alloc _ _ _ (by have := hb3.size; omega), hb3.block j (by omega)]
    exact block_setCell_other h2
  have hRS : Whole (((w3.alloc o).setCell ⟨RS, k, none⟩ (.string s')).drew) RS 9 (strCells (M.safe.set k s')) := by
    have e2 : Whole (w1.setCell ⟨RH, k, none⟩ (.bool true)).drew RS 9 (strCells M.safe) := (block_setCell_other h.SH).trans h1.hS
    have e3 := ((e2.below hb3).alloc o).set k (.string s')
    rw [strCells_set] at e3
    exact e3
  have hRH : Whole (((w3.alloc o).setCell ⟨RS, k, none⟩ (.string s')).drew) RH 4 (boolCells (M.hurt.set k true)) := by
    have e2 : Whole (w1.setCell ⟨RH, k, none⟩ (.bool true)).drew RH 4 (boolCells (M.hurt.set k true)) := by
      have := h1.hH.set k (.bool true)
      rw [boolCells_set] at this
      exact this
    exact ((e2.below hb3).alloc o).other h.SH.symm k (.string s')
  have hsz : w.heap.size ≤ (((w3.alloc o).setCell ⟨RS, k, none⟩ (.string s')).drew).heap.size := by
    have := hb1.size
    have := hb3.size
    simp [World.setCell]
    omega
  have hfit : Md.Fits { M with safe := M.safe.set k s', hurt := M.hurt.set k true } :=
    ⟨by simpa using h.fits.many, by simpa using h.fits.gone, by simpa using h.fits.hurt, (fun t ht => (List.mem_or_eq_of_mem_set ht).elim (h.fits.sizes t) (fun e => e ▸ hs)), by simpa using h.fits.since, h.fits.count, h.fits.falls⟩
  have hnew : MdIn S (((w3.alloc o).setCell ⟨RS, k, none⟩ (.string s')).drew) B RS RG RH sv { M with safe := M.safe.set k s', hurt := M.hurt.set k true } := by
    have hB : Whole (((w3.alloc o).setCell ⟨RS, k, none⟩ (.string s')).drew) B 59 (mdCells RS RG RH sv { M with safe := M.safe.set k s', hurt := M.hurt.set k true }) := by
      rw [show mdCells RS RG RH sv { M with safe := M.safe.set k s', hurt := M.hurt.set k true } = mdCells RS RG RH sv M by simp [mdCells]]
      exact (hold B (h1.lt B h.sB) h.BH h.BS).trans h1.hB
    exact h1.turn0 hB hRS ((hold RG (h1.lt RG h.sG) h.ne h.SG.symm).trans h1.hG) hRH rfl (fun j e => hold j (h1.lt j (h.sP j e)) (h.apart e).2.2.2 (h.apart e).2.1)
      (by have := hb3.size; simp [World.setCell]; omega) hfit
  refine MdAt.to ⟨RS, RG, RH, sv, hnew⟩ ?_
  have m1 : Mod S w w1 := Mod.of_below hb1 S
  have m2 : Mod S w (w1.setCell ⟨RH, k, none⟩ (.bool true)).drew := (m1.setCell (p := ⟨RH, k, none⟩) (.inl h.sH) _).drew
  have m3 : Mod S w w3 := m2.trans (Mod.of_below hb3 S) (fun j hj => .inl hj)
  exact ((m3.alloc o).setCell (p := ⟨RS, k, none⟩) (.inl h.sS) _).drew

set_option maxRecDepth 100000 in
set_option maxHeartbeats 4000000 in
theorem do_flip_hit (a : Ac) (k : Nat) (s : ByteArray) (g : Bool) (ha : a.Ok) (hk3 : kindA a.k = 3) (hbk : a.block = (k : Int)) (h : MdAt S w B M) (hs : M.safe[k]? = some s) (hg : M.gone[k]? = some g) (ht : M.hurt[k]? = some false) (h0 : a.bits ≠ 0) (h1 : s.size ≠ 0) :
    Calls Try.prog 13 #[.pointer (some ⟨B, 0, none⟩), acV a] w fun e w' => e = .returned (.int .i64 0) ∧ MdTo S w B { M with safe := M.safe.set k (flipS s a.n a.bits), hurt := M.hurt.set k true } w' := by
  obtain ⟨ak, ab, an, ad, bt⟩ := a
  simp only at hk3 hbk h0 ⊢
  subst hbk
  have hke := kind_eq ak
  rw [hk3] at hke
  have hke' : wrap64 ((IntKind.u64.wrap ak).tmod 6) = 3 := hke
  have hbt := ha.bits
  have hn := ha.n
  unfold i64in at hn
  simp only at hbt hn
  have hkl := (List.getElem?_eq_some_iff.1 hs).1
  have hin : ∀ W, Below w.heap.size w W → Calls Try.prog 25 #[.pointer (some ⟨B, 0, none⟩), .int .i64 k] W fun e w' => e = .returned (.bool true) ∧ w' = W := fun W hW => by
    have hh : M.inB (k : Int) = true := by simp [Md.inB]; omega
    have := in_any (k : Int) (h.below hW)
    rw [hh] at this
    exact this.mono fun e w' ⟨h1, h2⟩ => ⟨h1, h2.symm⟩
  have HIN := Lib.hid hin
  obtain ⟨RS, RG, RH, sv, h0'⟩ := id h
  have hB0 : Below w.heap.size w (w.alloc (.cells #[.int .i64 ak, .int .i64 k, .int .i64 an, .string ad, .int .u8 bt] 30)) := (Below.refl _ w).alloc (Nat.le_refl _) _
  have HF := Lib.hid (fun (W : World) hW => h0'.facts (x := W) hW hs hg ht)
  have hne : B ≠ RH ∧ RS ≠ RH ∧ B < w.heap.size ∧ RS < w.heap.size ∧ RH < w.heap.size := ⟨h0'.BH, h0'.SH, h0'.lt B h0'.sB, h0'.lt RS h0'.sS, h0'.lt RH h0'.sH⟩
  have HNE := Lib.hid hne
  have HP := Lib.hid (fun (w1 w3 : World) (o : Obj) (s' : ByteArray) => flip_md_put (w1 := w1) (w3 := w3) (o := o) k s' h0')
  obtain ⟨⟨c0, c1, c3, c4⟩, ⟨q0, q1, q2⟩, f0, f1, f2⟩ := HF.out _ hB0
  have hmany := h0'.fits.many
  have hsz := h0'.fits.sizes s (List.mem_of_getElem? hs)
  have e1 : ((bt : Int) == 0) = false := by simpa using h0
  have e1' : ((bt : Int) != 0) = true := by simpa using h0
  have e2 : decide (0 < s.size) = true := by simp; omega
  have x0 := (Whole.new w 30 #[.int .i64 ak, .int .i64 k, .int .i64 an, .string ad, .int .u8 bt])
  clear hin hke h0' hs hg ht h hne
  go_enter Try.func13, Try.ntmps13
  go_wp2_with fail
  generalize w.alloc (.cells #[.int .i64 ak, .int .i64 k, .int .i64 an, .string ad, .int .u8 bt] 30) = w0 at *
  have y0 : w0.cell? ⟨w.heap.size, 0, none⟩ = some (.int .i64 ak) := x0.cell rfl
  have y1 : w0.cell? ⟨w.heap.size, 1, none⟩ = some (.int .i64 k) := x0.cell rfl
  have y2 : w0.cell? ⟨w.heap.size, 2, none⟩ = some (.int .i64 an) := x0.cell rfl
  have y4 : w0.cell? ⟨w.heap.size, 4, none⟩ = some (.int .u8 bt) := x0.cell rfl
  go_quiet ((go_at_call 25; exact Calls.quiet_of_same (HIN.out _ (hB0.trans ((below_drewN w0 _).mono hB0.size)))))
  clear c0 c1 c3 c4 q0 q1 q2 f0 f1 f2 y0 y1 y2 y4
  have hB1 := hB0.trans ((below_drewN w0 nq).mono hB0.size)
  have x1 := x0.below (below_drewN w0 nq)
  generalize w0.drewN nq = w1 at *
  obtain ⟨⟨c0, c1, c3, c4⟩, ⟨q0, q1, q2⟩, f0, f1, f2⟩ := HF.out _ hB1
  have y1 : w1.cell? ⟨w.heap.size, 1, none⟩ = some (.int .i64 k) := x1.cell rfl
  have y2 : w1.cell? ⟨w.heap.size, 2, none⟩ = some (.int .i64 an) := x1.cell rfl
  have y4 : w1.cell? ⟨w.heap.size, 4, none⟩ = some (.int .u8 bt) := x1.cell rfl
  clear hB0 x0
  go_wp2_with fail
  go_region
  go_wp2_with fail
  have hk2 : ∀ j, j ≠ RH → ((w1.setCell ⟨RH, k, none⟩ (.bool true)).drew).heap[j]? = w1.heap[j]? := fun j hj => block_setCell_other hj
  obtain ⟨n1, n2, n3, n4, n5⟩ := HNE.out
  have x2 : Whole (w1.setCell ⟨RH, k, none⟩ (.bool true)).drew w.heap.size 30 #[.int .i64 ak, .int .i64 k, .int .i64 an, .string ad, .int .u8 bt] := (hk2 _ (by omega)).trans x1
  have b1 := (World.cell?_of_block (a := ⟨B, 1, none⟩) (hk2 B n1)).trans c1
  have b2 := (World.cell?_of_block (a := ⟨RS, k, none⟩) (hk2 RS n2)).trans q0
  have b3 := (World.frozen?_of_block (a := ⟨RS, k, none⟩) (hk2 RS n2)).trans f0
  obtain ⟨w2, hw2⟩ : ∃ w2, w2 = (w1.setCell ⟨RH, k, none⟩ (.bool true)).drew := ⟨_, rfl⟩
  rw [← hw2] at x2 b1 b2 b3 ⊢
  have HW2 := Lib.hid hw2
  clear hw2 hk2 c0 c1 c3 c4 q0 q1 q2 f0 f1 f2 y1 y2 y4 n1 n2 n3 n4 n5
  have y1 : w2.cell? ⟨w.heap.size, 1, none⟩ = some (.int .i64 k) := x2.cell rfl
  have y2 : w2.cell? ⟨w.heap.size, 2, none⟩ = some (.int .i64 an) := x2.cell rfl
  have y4 : w2.cell? ⟨w.heap.size, 4, none⟩ = some (.int .u8 bt) := x2.cell rfl
  go_quiet (fail)
  have hix := fix_eq an s.size (by omega) hsz
  have hixl : flipIx an s.size < s.size := Nat.mod_lt _ (by omega)
  obtain ⟨ix, hixe⟩ : ∃ ix, ix = flipIx an s.size := ⟨_, rfl⟩
  rw [← hixe] at hix hixl
  have HIX := Lib.hid hixe
  clear hixe
  have w20 : Below w2.heap.size w2 (w2.drewN nq) := below_drewN w2 nq
  have HB2 := Lib.hid w20
  have b1' := (w20.cell (p := ⟨B, 1, none⟩) (World.block_lt_of_cell? w2 _ b1)).trans b1
  have b2' := (w20.cell (p := ⟨RS, k, none⟩) (World.block_lt_of_cell? w2 _ b2)).trans b2
  have b3' := (w20.frozen (p := ⟨RS, k, none⟩) (World.block_lt_of_cell? w2 _ b2)).trans b3
  have x3 := x2.below w20
  clear w20
  generalize w2.drewN nq = w3 at *
  have z1 : w3.cell? ⟨w.heap.size, 1, none⟩ = some (.int .i64 k) := x3.cell rfl
  have z2 : w3.cell? ⟨w.heap.size, 2, none⟩ = some (.int .i64 an) := x3.cell rfl
  have z4 : w3.cell? ⟨w.heap.size, 4, none⟩ = some (.int .u8 bt) := x3.cell rfl
  clear y1 y2 y4 b1 b2 b3
  have i0 : (0 : Int) ≤ (ix : Int) := Int.natCast_nonneg _
  have i1 : (ix : Int) < (s.size : Int) := by omega
  have i2 : ix ≤ s.size := by omega
  have i3 : ix + 1 ≤ s.size := by omega
  obtain ⟨q, hqe⟩ : ∃ q, q = (s[ix]'hixl).toNat := ⟨_, rfl⟩
  have hq : q < 256 := by rw [hqe]; exact UInt8.toNat_lt _
  have hqx : q ^^^ bt < 256 := Nat.xor_lt_two_pow (n := 8) hq hbt
  have hxor : bits .xor .u8 (((s[ix]'hixl).toNat : Nat) : Int) (bt : Int) = ((q ^^^ bt : Nat) : Int) := by rw [← hqe]; exact u8_xor_nat q bt hq hbt
  have hconv : (convert 63 9 (.slice (some ⟨w3.heap.size, 0, none⟩) 1 1)).run Try.prog (w3.alloc (.cells #[.int .u8 ((q ^^^ bt : Nat) : Int)] 5)).drew = .ok (.string ⟨#[UInt8.ofNat (q ^^^ bt)]⟩) (w3.alloc (.cells #[.int .u8 ((q ^^^ bt : Nat) : Int)] 5)).drew := conv_one w3.drew (q ^^^ bt) hqx
  have HQ := Lib.hid hqe
  have x4 := x3.alloc (.cells #[.int .u8 ((q ^^^ bt : Nat) : Int)] 5)
  have v1 : (w3.alloc (.cells #[.int .u8 ((q ^^^ bt : Nat) : Int)] 5)).cell? ⟨w.heap.size, 1, none⟩ = some (.int .i64 k) := x4.cell rfl
  have v4 : (w3.alloc (.cells #[.int .u8 ((q ^^^ bt : Nat) : Int)] 5)).cell? ⟨w.heap.size, 4, none⟩ = some (.int .u8 bt) := x4.cell rfl
  have w34 : Below w3.heap.size w3 (w3.alloc (.cells #[.int .u8 ((q ^^^ bt : Nat) : Int)] 5)) := (Below.refl _ _).alloc (Nat.le_refl _) _
  have u1 := (w34.cell (p := ⟨B, 1, none⟩) (World.block_lt_of_cell? w3 _ b1')).trans b1'
  have u2 := (w34.cell (p := ⟨RS, k, none⟩) (World.block_lt_of_cell? w3 _ b2')).trans b2'
  have u3 := (w34.frozen (p := ⟨RS, k, none⟩) (World.block_lt_of_cell? w3 _ b2')).trans b3'
  have i5 : ¬ 9223372036854775807 < ix + 1 := by omega
  have i6 : ¬ 9223372036854775807 < ix + 1 + (s.size - (ix + 1)) := by omega
  clear hqe w34
  go_wp2_with fail
  go_region
  go_wp2
  go_ret
  have hfin := HP.out w1 w3 (.cells #[.int .u8 ((q ^^^ bt : Nat) : Int)] 5) (flipS s an bt) hB1 (by rw [← HW2.out]; exact HB2.out) (by rw [flipS_size]; exact hsz)
  have heq := flipS_eq s an bt ix HIX.out hixl
  rw [← heq, ← HQ.out] at hfin
  refine ⟨rfl, ?_⟩
  show MdTo S w B { M with safe := M.safe.set k (flipS s an bt), hurt := M.hurt.set k true } _
  rw [← heq, ← HQ.out]
  exact hfin
end
end Go.Proofs.Ytmfkbddfjfjfkaa
