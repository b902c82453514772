/- The model's Do: writes that find no block or are too long; flushes. No conditions beyond those in each statement. -/
import Derived.Test.YtmfkbddfjfjfkaaMdWrite
namespace Go.Proofs.Ytmfkbddfjfjfkaa
open Go.RowKit
set_option linter.unusedVariables false

section
variable {S : Nat → Prop} {w x : World} {B RS RG RH : Nat} {sv : Value} {M : Md}
def app (p : Wr) (M : Md) : Md := { M with safe := M.safe.set p.place p.data, hurt := M.hurt.set p.place false }
def apps (ps : List Wr) (M : Md) : Md := ps.foldl (fun M p => app p M) M
theorem apps_snoc (ps : List Wr) (p : Wr) (M : Md) : apps (ps ++ [p]) M = app p (apps ps M) := by simp [apps]
theorem apps_keep (ps : List Wr) : ∀ M : Md, (apps ps M).since = M.since ∧ (apps ps M).gone = M.gone ∧ (apps ps M).falls = M.falls ∧ (apps ps M).down = M.down ∧ (apps ps M).safe.length = M.safe.length ∧ (apps ps M).hurt.length = M.hurt.length := by
  induction ps with
  | nil => intro M; exact ⟨rfl, rfl, rfl, rfl, rfl, rfl⟩
  | cons p ps ih =>
    intro M
    obtain ⟨h1, h2, h3, h4, h5, h6⟩ := ih (app p M)
    exact ⟨h1, h2, h3, h4, by rw [show apps (p :: ps) M = apps ps (app p M) from rfl, h5]; simp [app], by rw [show apps (p :: ps) M = apps ps (app p M) from rfl, h6]; simp [app]⟩
theorem app_fits {p : Wr} (h : M.Fits) (hp : p.data.size ≤ 512) : (app p M).Fits :=
  ⟨by simpa [app] using h.many, by simpa [app] using h.gone, by simpa [app] using h.hurt, (fun t ht => (List.mem_or_eq_of_mem_set ht).elim (h.sizes t) (fun e => e ▸ hp)), by simpa [app] using h.since, h.count, h.falls⟩
def Md.flushed (M : Md) : Md := { apps M.since M with since := [] }
theorem app_put {o : Obj} {p : Wr} (h : MdIn S w B RS RG RH sv M) (hp : p.data.size ≤ 512) : MdIn S ((((w.alloc o).setCell ⟨RS, p.place, none⟩ (.string p.data)).drew.setCell ⟨RH, p.place, none⟩ (.bool false)).drew) B RS RG RH sv (app p M) := by
  have k := h.keep (x := w.alloc o) (by simp) (fun j hj => Below.heap_alloc w o j (h.lt j hj))
  have hm : mdCells RS RG RH sv (app p M) = mdCells RS RG RH sv M := by simp [mdCells, app]
  refine k.turn0 ?_ ?_ ?_ ?_ rfl ?_ (by simp [World.setCell]) (app_fits h.fits hp)
  · rw [hm]; exact (k.hB.other h.BS p.place _).other h.BH p.place _
  · have := (k.hS.set p.place (.string p.data)).other h.SH p.place (.bool false)
    rw [strCells_set] at this
    exact this
  · exact (k.hG.other h.SG.symm p.place _).other h.ne p.place _
  · have := (k.hH.other h.SH.symm p.place (.string p.data)).set p.place (.bool false)
    rw [boolCells_set] at this
    exact this
  · intro j e
    obtain ⟨_, n2, _, n4⟩ := h.apart e
    have h1 : ((((w.alloc o).setCell ⟨RS, p.place, none⟩ (.string p.data)).drew.setCell ⟨RH, p.place, none⟩ (.bool false)).drew).heap[j]? = ((w.alloc o).setCell ⟨RS, p.place, none⟩ (.string p.data)).heap[j]? := block_setCell_other n4
    rw [h1]
    exact block_setCell_other n2
theorem nil_put (h : MdIn S w B RS RG RH sv M) : MdAt S (w.setCell ⟨B, 2, none⟩ (.slice none 0 0)) B { M with since := [] } := by
  have k := h.turn (x := w.setCell ⟨B, 2, none⟩ (.slice none 0 0)) (M' := { M with since := [] }) (sv' := .slice none 0 0) (h.hB.set 2 _) (h.hS.other h.BS.symm 2 _) (h.hG.other h.BG.symm 2 _) (h.hH.other h.BH.symm 2 _) (World.ownsRow_nil _ _ _ _) (by simp [World.setCell])
    ⟨h.fits.many, h.fits.gone, h.fits.hurt, h.fits.sizes, (fun p hp => by cases hp), Nat.zero_le _, h.fits.falls⟩
  have hS : (fun j => S j ∨ (Value.slice none 0 0).ownBlock = some j) = S := by funext j; simp [Value.ownBlock]
  rw [hS] at k
  exact ⟨RS, RG, RH, _, k⟩
set_option maxRecDepth 100000 in
set_option maxHeartbeats 8000000 in
theorem do_out_falls (a : Ac) (hk : kindA a.k = 0 ∨ kindA a.k = 1) (hib : M.inB a.block = false) (h : MdAt S w B M) (hup : M.up = true) (hpos : 0 < M.falls) :
    Calls Try.prog 13 #[.pointer (some ⟨B, 0, none⟩), acV a] w fun e w' => e = .returned (.int .i64 7) ∧ MdTo S w B M.op w' := by
  obtain ⟨ak, ab, an, ad, bt⟩ := a
  simp only at hk hib ⊢
  have hke := kind_eq ak
  obtain ⟨hd', hf0⟩ : M.down = false ∧ M.falls ≠ 0 := by simpa [Md.up] using hup
  have hB0 : Below w.heap.size w (w.alloc (.cells #[.int .i64 ak, .int .i64 ab, .int .i64 an, .string ad, .int .u8 bt] 30)) := (Below.refl _ w).alloc (Nat.le_refl _) _
  have hfit := h.fits
  have hmany := hfit.many
  obtain ⟨RS, RG, RH, sv, h0'⟩ := id h
  have h0B := h0'.keep hB0.size (fun j hj => hB0.block j (h0'.lt j hj))
  have c5 := h0B.c5
  have c6 := h0B.c6
  have f5 := h0B.hB.free 5
  rw [hd'] at c6
  have e5 : (M.falls == 0) = false := by simpa using hf0
  have hfl := hfit.falls
  have hop : M.op = { M with falls := M.falls - 1 } := by unfold Md.op; rw [hup, if_pos rfl, if_pos hpos]
  obtain ⟨X, hX⟩ : ∃ X, X = (w.alloc (.cells #[.int .i64 ak, .int .i64 ab, .int .i64 an, .string ad, .int .u8 bt] 30)).setCell ⟨B, 5, none⟩ (.int .i64 (M.falls - 1)) := ⟨_, rfl⟩
  have hXI : MdIn S X B RS RG RH sv M.op := by rw [hX, hop]; exact h0'.own2 (M' := { M with falls := M.falls - 1 }) 5 _ hB0 (by simp [mdCells]) rfl rfl rfl rfl (fits_of hfit rfl rfl rfl rfl ⟨by show -1 ≤ M.falls - 1; omega, by show M.falls - 1 ≤ _; omega⟩)
  have hXM : Mod S w X := by rw [hX]; exact (Mod.of_below hB0 S).setCell (p := ⟨B, 5, none⟩) (.inl h0'.sB) _
  have hXW : Whole X w.heap.size 30 #[.int .i64 ak, .int .i64 ab, .int .i64 an, .string ad, .int .u8 bt] := by rw [hX]; exact (Whole.new w _ _).other (by have := h0'.lt B h0'.sB; omega) 5 _
  have HX := Lib.hid hX
  have hin := in_any ab (⟨RS, RG, RH, sv, hXI⟩ : MdAt S X B M.op)
  have hh : M.op.inB ab = false := by rw [← hib]; simp [Md.inB, M.op_safe]
  rw [hh] at hin
  have n2 : ((kindA ak : Int) == 2) = false := by simp; omega
  have n3 : ((kindA ak : Int) == 3) = false := by simp; omega
  have n4 : ((kindA ak : Int) == 4) = false := by simp; omega
  have n5 : ((kindA ak : Int) == 5) = false := by simp; omega
  have HR := Lib.hid (MdAt.to ⟨RS, RG, RH, sv, hXI⟩ hXM)
  clear hh hop h0' h0B hfit h hup hd' hf0 hk hXI hXM hX hXW hib
  go_enter Try.func13, Try.ntmps13
  go_wp2_with fail
  rw [← HX.out]
  refine hin.mono ?_
  rintro e w' ⟨rfl, rfl⟩
  go_wp2_with fail
  go_ret
  exact ⟨rfl, HR.out⟩

set_option maxRecDepth 100000 in
set_option maxHeartbeats 8000000 in
theorem do_out_free (a : Ac) (hk : kindA a.k = 0 ∨ kindA a.k = 1) (hib : M.inB a.block = false) (h : MdAt S w B M) (hup : M.up = true) (hpos : ¬ 0 < M.falls) :
    Calls Try.prog 13 #[.pointer (some ⟨B, 0, none⟩), acV a] w fun e w' => e = .returned (.int .i64 7) ∧ MdTo S w B M.op w' := by
  obtain ⟨ak, ab, an, ad, bt⟩ := a
  simp only at hk hib ⊢
  have hke := kind_eq ak
  obtain ⟨hd', hf0⟩ : M.down = false ∧ M.falls ≠ 0 := by simpa [Md.up] using hup
  have hB0 : Below w.heap.size w (w.alloc (.cells #[.int .i64 ak, .int .i64 ab, .int .i64 an, .string ad, .int .u8 bt] 30)) := (Below.refl _ w).alloc (Nat.le_refl _) _
  have hfit := h.fits
  have hmany := hfit.many
  obtain ⟨RS, RG, RH, sv, h0'⟩ := id h
  have h0B := h0'.keep hB0.size (fun j hj => hB0.block j (h0'.lt j hj))
  have c5 := h0B.c5
  have c6 := h0B.c6
  have f5 := h0B.hB.free 5
  rw [hd'] at c6
  have e5 : (M.falls == 0) = false := by simpa using hf0
  have hfl := hfit.falls
  have hop : M.op = M := by unfold Md.op; rw [hup, if_pos rfl, if_neg hpos]
  obtain ⟨X, hX⟩ : ∃ X, X = w.alloc (.cells #[.int .i64 ak, .int .i64 ab, .int .i64 an, .string ad, .int .u8 bt] 30) := ⟨_, rfl⟩
  have hXI : MdIn S X B RS RG RH sv M.op := by rw [hX, hop]; exact h0B
  have hXM : Mod S w X := by rw [hX]; exact Mod.of_below hB0 S
  have hXW : Whole X w.heap.size 30 #[.int .i64 ak, .int .i64 ab, .int .i64 an, .string ad, .int .u8 bt] := by rw [hX]; exact Whole.new w _ _
  have HX := Lib.hid hX
  have hin := in_any ab (⟨RS, RG, RH, sv, hXI⟩ : MdAt S X B M.op)
  have hh : M.op.inB ab = false := by rw [← hib]; simp [Md.inB, M.op_safe]
  rw [hh] at hin
  have n2 : ((kindA ak : Int) == 2) = false := by simp; omega
  have n3 : ((kindA ak : Int) == 3) = false := by simp; omega
  have n4 : ((kindA ak : Int) == 4) = false := by simp; omega
  have n5 : ((kindA ak : Int) == 5) = false := by simp; omega
  have HR := Lib.hid (MdAt.to ⟨RS, RG, RH, sv, hXI⟩ hXM)
  clear hh hop h0' h0B hfit h hup hd' hf0 hk hXI hXM hX hXW hib
  go_enter Try.func13, Try.ntmps13
  go_wp2_with fail
  rw [← HX.out]
  refine hin.mono ?_
  rintro e w' ⟨rfl, rfl⟩
  go_wp2_with fail
  go_ret
  exact ⟨rfl, HR.out⟩

set_option maxRecDepth 100000 in
set_option maxHeartbeats 8000000 in
theorem do_long_falls (a : Ac) (hk : kindA a.k = 0 ∨ kindA a.k = 1) (hib : M.inB a.block = true) (hs : 512 < a.data.size) (hsm : a.data.size ≤ maxLen) (h : MdAt S w B M) (hup : M.up = true) (hpos : 0 < M.falls) :
    Calls Try.prog 13 #[.pointer (some ⟨B, 0, none⟩), acV a] w fun e w' => e = .returned (.int .i64 3) ∧ MdTo S w B M.op w' := by
  obtain ⟨ak, ab, an, ad, bt⟩ := a
  simp only at hk hib hs hsm ⊢
  have hke := kind_eq ak
  obtain ⟨hd', hf0⟩ : M.down = false ∧ M.falls ≠ 0 := by simpa [Md.up] using hup
  have hB0 : Below w.heap.size w (w.alloc (.cells #[.int .i64 ak, .int .i64 ab, .int .i64 an, .string ad, .int .u8 bt] 30)) := (Below.refl _ w).alloc (Nat.le_refl _) _
  have hfit := h.fits
  have hmany := hfit.many
  obtain ⟨RS, RG, RH, sv, h0'⟩ := id h
  have h0B := h0'.keep hB0.size (fun j hj => hB0.block j (h0'.lt j hj))
  have c5 := h0B.c5
  have c6 := h0B.c6
  have f5 := h0B.hB.free 5
  rw [hd'] at c6
  have e5 : (M.falls == 0) = false := by simpa using hf0
  have hfl := hfit.falls
  have hop : M.op = { M with falls := M.falls - 1 } := by unfold Md.op; rw [hup, if_pos rfl, if_pos hpos]
  obtain ⟨X, hX⟩ : ∃ X, X = (w.alloc (.cells #[.int .i64 ak, .int .i64 ab, .int .i64 an, .string ad, .int .u8 bt] 30)).setCell ⟨B, 5, none⟩ (.int .i64 (M.falls - 1)) := ⟨_, rfl⟩
  have hXI : MdIn S X B RS RG RH sv M.op := by rw [hX, hop]; exact h0'.own2 (M' := { M with falls := M.falls - 1 }) 5 _ hB0 (by simp [mdCells]) rfl rfl rfl rfl (fits_of hfit rfl rfl rfl rfl ⟨by show -1 ≤ M.falls - 1; omega, by show M.falls - 1 ≤ _; omega⟩)
  have hXM : Mod S w X := by rw [hX]; exact (Mod.of_below hB0 S).setCell (p := ⟨B, 5, none⟩) (.inl h0'.sB) _
  have hXW : Whole X w.heap.size 30 #[.int .i64 ak, .int .i64 ab, .int .i64 an, .string ad, .int .u8 bt] := by rw [hX]; exact (Whole.new w _ _).other (by have := h0'.lt B h0'.sB; omega) 5 _
  have HX := Lib.hid hX
  have hin := in_any ab (⟨RS, RG, RH, sv, hXI⟩ : MdAt S X B M.op)
  have hh : M.op.inB ab = true := by rw [← hib]; simp [Md.inB, M.op_safe]
  rw [hh] at hin
  have n2 : ((kindA ak : Int) == 2) = false := by simp; omega
  have n3 : ((kindA ak : Int) == 3) = false := by simp; omega
  have n4 : ((kindA ak : Int) == 4) = false := by simp; omega
  have n5 : ((kindA ak : Int) == 5) = false := by simp; omega
  have hds : decide ((512 : Int) < (ad.size : Int)) = true := by simp; omega
  have y3 : X.cell? ⟨w.heap.size, 3, none⟩ = some (.string ad) := hXW.cell rfl
  unfold maxLen at hsm
  have HR := Lib.hid (MdAt.to ⟨RS, RG, RH, sv, hXI⟩ hXM)
  clear hh hop h0' h0B hfit h hup hd' hf0 hk hXI hXM hX hXW hib hs
  go_enter Try.func13, Try.ntmps13
  go_wp2_with fail
  rw [← HX.out]
  refine hin.mono ?_
  rintro e w' ⟨rfl, rfl⟩
  clear c5 c6 f5
  go_wp2_with fail
  go_ret
  exact ⟨rfl, HR.out⟩

set_option maxRecDepth 100000 in
set_option maxHeartbeats 8000000 in
theorem do_long_free (a : Ac) (hk : kindA a.k = 0 ∨ kindA a.k = 1) (hib : M.inB a.block = true) (hs : 512 < a.data.size) (hsm : a.data.size ≤ maxLen) (h : MdAt S w B M) (hup : M.up = true) (hpos : ¬ 0 < M.falls) :
    Calls Try.prog 13 #[.pointer (some ⟨B, 0, none⟩), acV a] w fun e w' => e = .returned (.int .i64 3) ∧ MdTo S w B M.op w' := by
  obtain ⟨ak, ab, an, ad, bt⟩ := a
  simp only at hk hib hs hsm ⊢
  have hke := kind_eq ak
  obtain ⟨hd', hf0⟩ : M.down = false ∧ M.falls ≠ 0 := by simpa [Md.up] using hup
  have hB0 : Below w.heap.size w (w.alloc (.cells #[.int .i64 ak, .int .i64 ab, .int .i64 an, .string ad, .int .u8 bt] 30)) := (Below.refl _ w).alloc (Nat.le_refl _) _
  have hfit := h.fits
  have hmany := hfit.many
  obtain ⟨RS, RG, RH, sv, h0'⟩ := id h
  have h0B := h0'.keep hB0.size (fun j hj => hB0.block j (h0'.lt j hj))
  have c5 := h0B.c5
  have c6 := h0B.c6
  have f5 := h0B.hB.free 5
  rw [hd'] at c6
  have e5 : (M.falls == 0) = false := by simpa using hf0
  have hfl := hfit.falls
  have hop : M.op = M := by unfold Md.op; rw [hup, if_pos rfl, if_neg hpos]
  obtain ⟨X, hX⟩ : ∃ X, X = w.alloc (.cells #[.int .i64 ak, .int .i64 ab, .int .i64 an, .string ad, .int .u8 bt] 30) := ⟨_, rfl⟩
  have hXI : MdIn S X B RS RG RH sv M.op := by rw [hX, hop]; exact h0B
  have hXM : Mod S w X := by rw [hX]; exact Mod.of_below hB0 S
  have hXW : Whole X w.heap.size 30 #[.int .i64 ak, .int .i64 ab, .int .i64 an, .string ad, .int .u8 bt] := by rw [hX]; exact Whole.new w _ _
  have HX := Lib.hid hX
  have hin := in_any ab (⟨RS, RG, RH, sv, hXI⟩ : MdAt S X B M.op)
  have hh : M.op.inB ab = true := by rw [← hib]; simp [Md.inB, M.op_safe]
  rw [hh] at hin
  have n2 : ((kindA ak : Int) == 2) = false := by simp; omega
  have n3 : ((kindA ak : Int) == 3) = false := by simp; omega
  have n4 : ((kindA ak : Int) == 4) = false := by simp; omega
  have n5 : ((kindA ak : Int) == 5) = false := by simp; omega
  have hds : decide ((512 : Int) < (ad.size : Int)) = true := by simp; omega
  have y3 : X.cell? ⟨w.heap.size, 3, none⟩ = some (.string ad) := hXW.cell rfl
  unfold maxLen at hsm
  have HR := Lib.hid (MdAt.to ⟨RS, RG, RH, sv, hXI⟩ hXM)
  clear hh hop h0' h0B hfit h hup hd' hf0 hk hXI hXM hX hXW hib hs
  go_enter Try.func13, Try.ntmps13
  go_wp2_with fail
  rw [← HX.out]
  refine hin.mono ?_
  rintro e w' ⟨rfl, rfl⟩
  clear c5 c6 f5
  go_wp2_with fail
  go_ret
  exact ⟨rfl, HR.out⟩

set_option maxRecDepth 100000 in
set_option maxHeartbeats 8000000 in
theorem do_flush_falls (a : Ac) (hk : kindA a.k = 2) (h : MdAt S w B M) (hup : M.up = true) (hpos : 0 < M.falls) :
    Calls Try.prog 13 #[.pointer (some ⟨B, 0, none⟩), acV a] w fun e w' => e = .returned (.int .i64 0) ∧ MdTo S w B M.op.flushed w' := by
  obtain ⟨ak, ab, an, ad, bt⟩ := a
  simp only at hk ⊢
  have hke := kind_eq ak
  obtain ⟨hd', hf0⟩ : M.down = false ∧ M.falls ≠ 0 := by simpa [Md.up] using hup
  have hB0 : Below w.heap.size w (w.alloc (.cells #[.int .i64 ak, .int .i64 ab, .int .i64 an, .string ad, .int .u8 bt] 30)) := (Below.refl _ w).alloc (Nat.le_refl _) _
  have hfit := h.fits
  have hmany := hfit.many
  obtain ⟨RS, RG, RH, sv, h0'⟩ := id h
  have h0B := h0'.keep hB0.size (fun j hj => hB0.block j (h0'.lt j hj))
  have c5 := h0B.c5
  have c6 := h0B.c6
  have f5 := h0B.hB.free 5
  rw [hd'] at c6
  have e5 : (M.falls == 0) = false := by simpa using hf0
  have hfl := hfit.falls
  have hop : M.op = { M with falls := M.falls - 1 } := by unfold Md.op; rw [hup, if_pos rfl, if_pos hpos]
  obtain ⟨X, hX⟩ : ∃ X, X = (w.alloc (.cells #[.int .i64 ak, .int .i64 ab, .int .i64 an, .string ad, .int .u8 bt] 30)).setCell ⟨B, 5, none⟩ (.int .i64 (M.falls - 1)) := ⟨_, rfl⟩
  have hXI : MdIn S X B RS RG RH sv M.op := by rw [hX, hop]; exact h0'.own2 (M' := { M with falls := M.falls - 1 }) 5 _ hB0 (by simp [mdCells]) rfl rfl rfl rfl (fits_of hfit rfl rfl rfl rfl ⟨by show -1 ≤ M.falls - 1; omega, by show M.falls - 1 ≤ _; omega⟩)
  have hXM : Mod S w X := by rw [hX]; exact (Mod.of_below hB0 S).setCell (p := ⟨B, 5, none⟩) (.inl h0'.sB) _
  have hXW : Whole X w.heap.size 30 #[.int .i64 ak, .int .i64 ab, .int .i64 an, .string ad, .int .u8 bt] := by rw [hX]; exact (Whole.new w _ _).other (by have := h0'.lt B h0'.sB; omega) 5 _
  have HX := Lib.hid hX
  rw [hk] at hke
  have hke' : wrap64 ((IntKind.u64.wrap ak).tmod 6) = 2 := hke
  obtain ⟨sa, scap, hsv⟩ := slice_of hXI.row
  have c2 := h0B.c2
  rw [hsv] at hXI c2
  have hcnt := hXI.fits.count
  have hsafe : M.op.safe.length ≤ 4096 := by rw [M.op_safe]; exact hmany
  have HXM := Lib.hid hXM
  generalize M.op = E at *
  clear hke hop h0' h0B hfit h hup hd' hf0 hk hXM hX hXW hsv sv
  go_enter Try.func13, Try.ntmps13
  go_wp2_with fail
  rw [← HX.out]
  try simp only [hke']
  clear c5 c6 f5 c2 hke'
  go_loopw [151] (fun i wr => ∃ j : Nat, j ≤ E.since.length ∧ i = .int .i64 j ∧ MdIn S wr B RS RG RH (.slice sa E.since.length scap) (apps (E.since.take j) E) ∧ Mod S w wr) (fun i _ => E.since.length - (intOf i).toNat)
  case atStart => exact ⟨0, Nat.zero_le _, rfl, hXI, HXM.out⟩
  case round =>
    obtain ⟨j, hj, rfl, hI, hM⟩ := hrel
    obtain ⟨a1, a2, a3, a4, a5, a6⟩ := apps_keep (E.since.take j) E
    by_cases hlt : j < E.since.length
    · have hp := List.getElem?_eq_getElem hlt
      have hT := List.take_succ_eq_append_getElem hlt
      have hfp := hXI.fits.since _ (List.getElem_mem hlt)
      have hrow := hI.row
      rw [a1] at hrow
      rcases mrow_of hrow with ⟨_, h0⟩ | ⟨g, cap, hsl, hgl, _, _, hcell⟩
      · exact absurd (by rw [h0]; rfl) (show ¬ E.since.length = 0 by omega)
      · obtain ⟨rfl, rfl⟩ : sa = some ⟨g, 0, none⟩ ∧ scap = cap := by simpa using hsl
        obtain ⟨x0, x1⟩ := hcell j _ hp
        generalize E.since[j] = p at *
        obtain ⟨pp, pd⟩ := p
        simp only at hfp x0 x1
        have hl : pp < (apps (E.since.take j) E).safe.length := by rw [a5]; exact hfp.2
        obtain ⟨s0, hs0⟩ : ∃ s0, (apps (E.since.take j) E).safe[pp]? = some s0 := ⟨_, List.getElem?_eq_getElem hl⟩
        obtain ⟨t0, hh0⟩ : ∃ t0, (apps (E.since.take j) E).hurt[pp]? = some t0 := ⟨_, List.getElem?_eq_getElem (by rw [hI.fits.hurt]; exact hl)⟩
        obtain ⟨g0, hg0⟩ : ∃ g0, (apps (E.since.take j) E).gone[pp]? = some g0 := ⟨_, List.getElem?_eq_getElem (by rw [hI.fits.gone]; exact hl)⟩
        have HF := Lib.hid (fun (x : World) hx => hI.facts (x := x) hx hs0 hg0 hh0)
        have HPUT := Lib.hid (fun (o : Obj) => app_put (o := o) (p := ⟨pp, pd⟩) hI hfp.1)
        have HNE := Lib.hid (show RS ≠ RH ∧ B ≠ RS ∧ B ≠ RH ∧ wr.heap.size ≠ RS ∧ wr.heap.size ≠ RH ∧ S RS ∧ S RH from ⟨hI.SH, hI.BS, hI.BH, by have := hI.lt RS hI.sS; omega, by have := hI.lt RH hI.sH; omega, hI.sS, hI.sH⟩)
        have HAS := Lib.hid (show apps (E.since.take (j + 1)) E = app ⟨pp, pd⟩ (apps (E.since.take j) E) by rw [hT, apps_snoc])
        obtain ⟨⟨d0, d1, d3, d4⟩, ⟨q0, q1, q2⟩, f0, f1, f2⟩ := HF.out (wr.alloc (.cells #[.int .i64 (pp : Int), .string pd] 65)) ((Below.refl _ _).alloc (Nat.le_refl _) _)
        rw [a5] at d0 d1 d3 d4 hl
        have hl2 : (pp : Int) < (E.safe.length : Int) := by omega
        have hw0 := Whole.new wr 65 #[.int .i64 (pp : Int), .string pd]
        have y0 : (wr.alloc (.cells #[.int .i64 (pp : Int), .string pd] 65)).cell? ⟨wr.heap.size, 0, none⟩ = some (.int .i64 (pp : Int)) := hw0.cell rfl
        have y1 : (wr.alloc (.cells #[.int .i64 (pp : Int), .string pd] 65)).cell? ⟨wr.heap.size, 1, none⟩ = some (.string pd) := hw0.cell rfl
        obtain ⟨n1, n2, n3, n4, n5, n6, n7⟩ := HNE.out
        have HS6 := Lib.hid n6
        have HS7 := Lib.hid n7
        clear hI hrow hcell hp hT hs0 hh0 hg0 a1 a2 a3 a4 a5 a6 hsl n6 n7
        go_wp2_with fail
        generalize hWA : wr.alloc (.cells #[.int .i64 (pp : Int), .string pd] 65) = wa at *
        have HWA := Lib.hid hWA
        clear hWA
        go_region
        all_goals
          go_wp2_with fail
          go_region
          all_goals
            go_wp2
            go_roundw
            case rel =>
              refine ⟨j + 1, by omega, by go_num, ?_, ?_⟩
              · have := HPUT.out (.cells #[.int .i64 (pp : Int), .string pd] 65)
                rw [HWA.out] at this
                rw [HAS.out]
                exact this
              · have hm1 : Mod S w wa := by rw [← HWA.out]; exact hM.alloc _
                exact ((hm1.setCell (p := ⟨RS, pp, none⟩) (.inl HS6.out) _).drew.setCell (p := ⟨RH, pp, none⟩) (.inl HS7.out) _).drew
            case measure => simp [intOf]; omega
    · obtain rfl : j = E.since.length := by omega
      rw [List.take_length] at hI
      have c2 := hI.c2
      have f2 := hI.hB.free 2
      have HN := Lib.hid (show MdAt S (wr.setCell ⟨B, 2, none⟩ (.slice none 0 0)) B E.flushed from nil_put hI)
      have HB := Lib.hid hI.sB
      clear hI a1 a2 a3 a4 a5 a6 hlt hj
      go_wp2
      go_ret
      exact ⟨rfl, MdAt.to HN.out (hM.setCell (p := ⟨B, 2, none⟩) (.inl HB.out) _)⟩

set_option maxRecDepth 100000 in
set_option maxHeartbeats 8000000 in
theorem do_flush_free (a : Ac) (hk : kindA a.k = 2) (h : MdAt S w B M) (hup : M.up = true) (hpos : ¬ 0 < M.falls) :
    Calls Try.prog 13 #[.pointer (some ⟨B, 0, none⟩), acV a] w fun e w' => e = .returned (.int .i64 0) ∧ MdTo S w B M.op.flushed w' := by
  obtain ⟨ak, ab, an, ad, bt⟩ := a
  simp only at hk ⊢
  have hke := kind_eq ak
  obtain ⟨hd', hf0⟩ : M.down = false ∧ M.falls ≠ 0 := by simpa [Md.up] using hup
  have hB0 : Below w.heap.size w (w.alloc (.cells #[.int .i64 ak, .int .i64 ab, .int .i64 an, .string ad, .int .u8 bt] 30)) := (Below.refl _ w).alloc (Nat.le_refl _) _
  have hfit := h.fits
  have hmany := hfit.many
  obtain ⟨RS, RG, RH, sv, h0'⟩ := id h
  have h0B := h0'.keep hB0.size (fun j hj => hB0.block j (h0'.lt j hj))
  have c5 := h0B.c5
  have c6 := h0B.c6
  have f5 := h0B.hB.free 5
  rw [hd'] at c6
  have e5 : (M.falls == 0) = false := by simpa using hf0
  have hfl := hfit.falls
  have hop : M.op = M := by unfold Md.op; rw [hup, if_pos rfl, if_neg hpos]
  obtain ⟨X, hX⟩ : ∃ X, X = w.alloc (.cells #[.int .i64 ak, .int .i64 ab, .int .i64 an, .string ad, .int .u8 bt] 30) := ⟨_, rfl⟩
  have hXI : MdIn S X B RS RG RH sv M.op := by rw [hX, hop]; exact h0B
  have hXM : Mod S w X := by rw [hX]; exact Mod.of_below hB0 S
  have hXW : Whole X w.heap.size 30 #[.int .i64 ak, .int .i64 ab, .int .i64 an, .string ad, .int .u8 bt] := by rw [hX]; exact Whole.new w _ _
  have HX := Lib.hid hX
  rw [hk] at hke
  have hke' : wrap64 ((IntKind.u64.wrap ak).tmod 6) = 2 := hke
  obtain ⟨sa, scap, hsv⟩ := slice_of hXI.row
  have c2 := h0B.c2
  rw [hsv] at hXI c2
  have hcnt := hXI.fits.count
  have hsafe : M.op.safe.length ≤ 4096 := by rw [M.op_safe]; exact hmany
  have HXM := Lib.hid hXM
  generalize M.op = E at *
  clear hke hop h0' h0B hfit h hup hd' hf0 hk hXM hX hXW hsv sv
  go_enter Try.func13, Try.ntmps13
  go_wp2_with fail
  rw [← HX.out]
  try simp only [hke']
  clear c5 c6 f5 c2 hke'
  go_loopw [151] (fun i wr => ∃ j : Nat, j ≤ E.since.length ∧ i = .int .i64 j ∧ MdIn S wr B RS RG RH (.slice sa E.since.length scap) (apps (E.since.take j) E) ∧ Mod S w wr) (fun i _ => E.since.length - (intOf i).toNat)
  case atStart => exact ⟨0, Nat.zero_le _, rfl, hXI, HXM.out⟩
  case round =>
    obtain ⟨j, hj, rfl, hI, hM⟩ := hrel
    obtain ⟨a1, a2, a3, a4, a5, a6⟩ := apps_keep (E.since.take j) E
    by_cases hlt : j < E.since.length
    · have hp := List.getElem?_eq_getElem hlt
      have hT := List.take_succ_eq_append_getElem hlt
      have hfp := hXI.fits.since _ (List.getElem_mem hlt)
      have hrow := hI.row
      rw [a1] at hrow
      rcases mrow_of hrow with ⟨_, h0⟩ | ⟨g, cap, hsl, hgl, _, _, hcell⟩
      · exact absurd (by rw [h0]; rfl) (show ¬ E.since.length = 0 by omega)
      · obtain ⟨rfl, rfl⟩ : sa = some ⟨g, 0, none⟩ ∧ scap = cap := by simpa using hsl
        obtain ⟨x0, x1⟩ := hcell j _ hp
        generalize E.since[j] = p at *
        obtain ⟨pp, pd⟩ := p
        simp only at hfp x0 x1
        have hl : pp < (apps (E.since.take j) E).safe.length := by rw [a5]; exact hfp.2
        obtain ⟨s0, hs0⟩ : ∃ s0, (apps (E.since.take j) E).safe[pp]? = some s0 := ⟨_, List.getElem?_eq_getElem hl⟩
        obtain ⟨t0, hh0⟩ : ∃ t0, (apps (E.since.take j) E).hurt[pp]? = some t0 := ⟨_, List.getElem?_eq_getElem (by rw [hI.fits.hurt]; exact hl)⟩
        obtain ⟨g0, hg0⟩ : ∃ g0, (apps (E.since.take j) E).gone[pp]? = some g0 := ⟨_, List.getElem?_eq_getElem (by rw [hI.fits.gone]; exact hl)⟩
        have HF := Lib.hid (fun (x : World) hx => hI.facts (x := x) hx hs0 hg0 hh0)
        have HPUT := Lib.hid (fun (o : Obj) => app_put (o := o) (p := ⟨pp, pd⟩) hI hfp.1)
        have HNE := Lib.hid (show RS ≠ RH ∧ B ≠ RS ∧ B ≠ RH ∧ wr.heap.size ≠ RS ∧ wr.heap.size ≠ RH ∧ S RS ∧ S RH from ⟨hI.SH, hI.BS, hI.BH, by have := hI.lt RS hI.sS; omega, by have := hI.lt RH hI.sH; omega, hI.sS, hI.sH⟩)
        have HAS := Lib.hid (show apps (E.since.take (j + 1)) E = app ⟨pp, pd⟩ (apps (E.since.take j) E) by rw [hT, apps_snoc])
        obtain ⟨⟨d0, d1, d3, d4⟩, ⟨q0, q1, q2⟩, f0, f1, f2⟩ := HF.out (wr.alloc (.cells #[.int .i64 (pp : Int), .string pd] 65)) ((Below.refl _ _).alloc (Nat.le_refl _) _)
        rw [a5] at d0 d1 d3 d4 hl
        have hl2 : (pp : Int) < (E.safe.length : Int) := by omega
        have hw0 := Whole.new wr 65 #[.int .i64 (pp : Int), .string pd]
        have y0 : (wr.alloc (.cells #[.int .i64 (pp : Int), .string pd] 65)).cell? ⟨wr.heap.size, 0, none⟩ = some (.int .i64 (pp : Int)) := hw0.cell rfl
        have y1 : (wr.alloc (.cells #[.int .i64 (pp : Int), .string pd] 65)).cell? ⟨wr.heap.size, 1, none⟩ = some (.string pd) := hw0.cell rfl
        obtain ⟨n1, n2, n3, n4, n5, n6, n7⟩ := HNE.out
        have HS6 := Lib.hid n6
        have HS7 := Lib.hid n7
        clear hI hrow hcell hp hT hs0 hh0 hg0 a1 a2 a3 a4 a5 a6 hsl n6 n7
        go_wp2_with fail
        generalize hWA : wr.alloc (.cells #[.int .i64 (pp : Int), .string pd] 65) = wa at *
        have HWA := Lib.hid hWA
        clear hWA
        go_region
        all_goals
          go_wp2_with fail
          go_region
          all_goals
            go_wp2
            go_roundw
            case rel =>
              refine ⟨j + 1, by omega, by go_num, ?_, ?_⟩
              · have := HPUT.out (.cells #[.int .i64 (pp : Int), .string pd] 65)
                rw [HWA.out] at this
                rw [HAS.out]
                exact this
              · have hm1 : Mod S w wa := by rw [← HWA.out]; exact hM.alloc _
                exact ((hm1.setCell (p := ⟨RS, pp, none⟩) (.inl HS6.out) _).drew.setCell (p := ⟨RH, pp, none⟩) (.inl HS7.out) _).drew
            case measure => simp [intOf]; omega
    · obtain rfl : j = E.since.length := by omega
      rw [List.take_length] at hI
      have c2 := hI.c2
      have f2 := hI.hB.free 2
      have HN := Lib.hid (show MdAt S (wr.setCell ⟨B, 2, none⟩ (.slice none 0 0)) B E.flushed from nil_put hI)
      have HB := Lib.hid hI.sB
      clear hI a1 a2 a3 a4 a5 a6 hlt hj
      go_wp2
      go_ret
      exact ⟨rfl, MdAt.to HN.out (hM.setCell (p := ⟨B, 2, none⟩) (.inl HB.out) _)⟩


/-- What the model's Do answers, and the model behind it. -/
def Md.flipB (M : Md) (i n : Int) (bt : Nat) : Md :=
  if M.inB i = true ∧ ¬ (bt = 0 ∨ (M.safe.getD i.toNat ⟨#[]⟩).size = 0 ∨ M.hurt.getD i.toNat false = true) then { M with safe := M.safe.set i.toNat (flipS (M.safe.getD i.toNat ⟨#[]⟩) n bt), hurt := M.hurt.set i.toNat true } else M
def Md.do (M : Md) (a : Ac) : Int × Md := match kindA a.k with
  | 5 => (0, { M with falls := (a.n.toNat : Int) })
  | 4 => (0, M.loseB a.block)
  | 3 => (0, M.flipB a.block a.n a.bits)
  | 2 => if M.up then (0, M.op.flushed) else (5, M.op)
  | _ => if M.up then (if M.inB a.block then (if 512 < a.data.size then (3, M.op) else (0, M.op.noted a.block.toNat a.data)) else (7, M.op)) else (5, M.op)
theorem do_any (a : Ac) (ha : a.Ok) (hcnt : M.since.length < 1073741824) (h : MdAt S w B M) :
    Calls Try.prog 13 #[.pointer (some ⟨B, 0, none⟩), acV a] w fun e w' => e = .returned (.int .i64 (M.do a).1) ∧ MdTo S w B (M.do a).2 w' := by
  have hk := kindA_lt a.k
  by_cases h5 : kindA a.k = 5
  · have e0 : M.do a = (0, { M with falls := (a.n.toNat : Int) }) := by simp [Md.do, h5]
    rw [e0]
    exact do_fall a ha h5 h
  · by_cases h4 : kindA a.k = 4
    · have e0 : M.do a = (0, M.loseB a.block) := by simp [Md.do, h4]
      rw [e0]
      exact do_lose a h4 h
    · by_cases h3 : kindA a.k = 3
      · have e0 : M.do a = (0, M.flipB a.block a.n a.bits) := by simp [Md.do, h3]
        rw [e0]
        by_cases hin : M.inB a.block = true
        · obtain ⟨k, s, g, t, hk', hkl, hs, hg, ht⟩ := Md.in_at h.fits hin
          have e1 : M.safe.getD a.block.toNat ⟨#[]⟩ = s := by rw [hk', Int.toNat_natCast, List.getD_eq_getElem?_getD, hs]; rfl
          have e2 : M.hurt.getD a.block.toNat false = t := by rw [hk', Int.toNat_natCast, List.getD_eq_getElem?_getD, ht]; rfl
          by_cases hno : a.bits = 0 ∨ s.size = 0 ∨ t = true
          · have e3 : M.flipB a.block a.n a.bits = M := by unfold Md.flipB; rw [e1, e2, if_neg (fun hh => hh.2 hno)]
            rw [e3]
            exact do_flip_none a k s g t ha h3 hk' h hs hg ht hno
          · have e3 : M.flipB a.block a.n a.bits = { M with safe := M.safe.set k (flipS s a.n a.bits), hurt := M.hurt.set k true } := by
              unfold Md.flipB
              rw [e1, e2, if_pos ⟨hin, hno⟩, hk', Int.toNat_natCast]
            rw [e3]
            obtain rfl : t = false := by cases t with | false => rfl | true => exact absurd (.inr (.inr rfl)) hno
            exact do_flip_hit a k s g ha h3 hk' h hs hg ht (fun e => hno (.inl e)) (fun e => hno (.inr (.inl e)))
        · have hin' : M.inB a.block = false := by simpa using hin
          have e3 : M.flipB a.block a.n a.bits = M := by unfold Md.flipB; rw [if_neg (fun hh => hin hh.1)]
          rw [e3]
          exact do_flip_out a h3 h hin'
      · by_cases hup : M.up = true
        · by_cases h2 : kindA a.k = 2
          · have e0 : M.do a = (0, M.op.flushed) := by simp [Md.do, h2, hup]
            rw [e0]
            by_cases hpos : 0 < M.falls
            · exact do_flush_falls a h2 h hup hpos
            · exact do_flush_free a h2 h hup hpos
          · have h01 : kindA a.k = 0 ∨ kindA a.k = 1 := by omega
            have e0 : M.do a = if M.inB a.block then (if 512 < a.data.size then (3, M.op) else (0, M.op.noted a.block.toNat a.data)) else (7, M.op) := by
              rcases h01 with h | h <;> simp [Md.do, h, hup]
            by_cases hin : M.inB a.block = true
            · by_cases hs : 512 < a.data.size
              · have e1 : M.do a = (3, M.op) := by rw [e0, if_pos hin, if_pos hs]
                rw [e1]
                by_cases hpos : 0 < M.falls
                · exact do_long_falls a h01 hin hs ha.data h hup hpos
                · exact do_long_free a h01 hin hs ha.data h hup hpos
              · obtain ⟨k, s, g, t, hk', hkl, hs', hg, ht⟩ := Md.in_at h.fits hin
                have e1 : M.do a = (0, M.op.noted k a.data) := by rw [e0, if_pos hin, if_neg hs, hk', Int.toNat_natCast]
                rw [e1]
                by_cases hpos : 0 < M.falls
                · exact do_write_falls a k g ha h01 hk' h hup hg (by omega) hcnt hpos
                · exact do_write_free a k g ha h01 hk' h hup hg (by omega) hcnt hpos
            · have hin' : M.inB a.block = false := by simpa using hin
              have e1 : M.do a = (7, M.op) := by rw [e0, if_neg hin]
              rw [e1]
              by_cases hpos : 0 < M.falls
              · exact do_out_falls a h01 hin' h hup hpos
              · exact do_out_free a h01 hin' h hup hpos
        · have hup' : M.up = false := by simpa using hup
          have h012 : kindA a.k < 3 := by omega
          have e0 : M.do a = (5, M.op) := by
            rcases (show kindA a.k = 0 ∨ kindA a.k = 1 ∨ kindA a.k = 2 by omega) with h | h | h <;> simp [Md.do, h, hup']
          rw [e0]
          exact do_off a h012 h hup'
end
end Go.Proofs.Ytmfkbddfjfjfkaa
