/- The model's Do: nothing is turned; a block is lost; the power's fall is set. No conditions beyond those in each statement. -/
import Derived.Test.YtmfkbddfjfjfkaaMdFlip
namespace Go.Proofs.Ytmfkbddfjfjfkaa
open Go.RowKit
set_option linter.unusedVariables false

section
variable {S : Nat → Prop} {w x : World} {B RS RG RH : Nat} {sv : Value} {M : Md}
theorem MdAt.same (h : MdAt S w B M) (hb : Below w.heap.size w x) : MdTo S w B M x := (h.below hb).to (Mod.of_below hb S)
theorem in_quiet (i : Int) (h : MdAt S w B M) (hb : Below w.heap.size w x) (n : Nat) : Calls Try.prog 25 #[.pointer (some ⟨B, 0, none⟩), .int .i64 i] (x.drewN n) fun e w' => e = .returned (.bool (M.inB i)) ∧ w' = x.drewN n :=
  (in_any i (h.below (hb.trans ((below_drewN x n).mono hb.size)))).mono fun e w' ⟨h1, h2⟩ => ⟨h1, h2.symm⟩

set_option maxRecDepth 100000 in
set_option maxHeartbeats 4000000 in
theorem do_flip_out (a : Ac) (hk3 : kindA a.k = 3) (h : MdAt S w B M) (hin : M.inB a.block = false) :
    Calls Try.prog 13 #[.pointer (some ⟨B, 0, none⟩), acV a] w fun e w' => e = .returned (.int .i64 0) ∧ MdTo S w B M w' := by
  obtain ⟨ak, ab, an, ad, bt⟩ := a
  simp only at hk3 hin ⊢
  have hke := kind_eq ak
  rw [hk3] at hke
  have hke' : wrap64 ((IntKind.u64.wrap ak).tmod 6) = 3 := hke
  have hB0 : Below w.heap.size w (w.alloc (.cells #[.int .i64 ak, .int .i64 ab, .int .i64 an, .string ad, .int .u8 bt] 30)) := (Below.refl _ w).alloc (Nat.le_refl _) _
  have hiq := fun n => in_quiet ab h hB0 n
  rw [hin] at hiq
  have HIN := Lib.hid hiq
  have x0 := (Whole.new w 30 #[.int .i64 ak, .int .i64 ab, .int .i64 an, .string ad, .int .u8 bt])
  clear hke hin hiq
  go_enter Try.func13, Try.ntmps13
  go_wp2_with fail
  generalize w.alloc (.cells #[.int .i64 ak, .int .i64 ab, .int .i64 an, .string ad, .int .u8 bt] 30) = w0 at *
  have y1 : w0.cell? ⟨w.heap.size, 1, none⟩ = some (.int .i64 ab) := x0.cell rfl
  go_quiet ((go_at_call 25; exact Calls.quiet_of_same (HIN.out _)))
  go_wp2
  go_ret
  exact ⟨rfl, h.same (hB0.trans ((below_drewN w0 _).mono hB0.size))⟩

set_option maxRecDepth 100000 in
set_option maxHeartbeats 8000000 in
theorem do_flip_none (a : Ac) (k : Nat) (s : ByteArray) (g t : Bool) (ha : a.Ok) (hk3 : kindA a.k = 3) (hbk : a.block = (k : Int)) (h : MdAt S w B M) (hs : M.safe[k]? = some s) (hg : M.gone[k]? = some g) (ht : M.hurt[k]? = some t) (hno : a.bits = 0 ∨ s.size = 0 ∨ t = true) :
    Calls Try.prog 13 #[.pointer (some ⟨B, 0, none⟩), acV a] w fun e w' => e = .returned (.int .i64 0) ∧ MdTo S w B M w' := by
  obtain ⟨ak, ab, an, ad, bt⟩ := a
  simp only at hk3 hbk hno ⊢
  subst hbk
  have hke := kind_eq ak
  rw [hk3] at hke
  have hke' : wrap64 ((IntKind.u64.wrap ak).tmod 6) = 3 := hke
  have hbt := ha.bits
  simp only at hbt
  have hkl := (List.getElem?_eq_some_iff.1 hs).1
  have hh : M.inB (k : Int) = true := by simp [Md.inB]; omega
  have hB0 : Below w.heap.size w (w.alloc (.cells #[.int .i64 ak, .int .i64 k, .int .i64 an, .string ad, .int .u8 bt] 30)) := (Below.refl _ w).alloc (Nat.le_refl _) _
  have hiq := fun n => in_quiet (k : Int) h hB0 n
  rw [hh] at hiq
  have HIN := Lib.hid hiq
  have hmany := h.fits.many
  have hsz := h.fits.sizes s (List.mem_of_getElem? hs)
  obtain ⟨RS, RG, RH, sv, h0'⟩ := id h
  obtain ⟨⟨c0, c1, c3, c4⟩, ⟨q0, q1, q2⟩, f0, f1, f2⟩ := h0'.facts hB0 hs hg ht
  have x0 := (Whole.new w 30 #[.int .i64 ak, .int .i64 k, .int .i64 an, .string ad, .int .u8 bt])
  clear hke hiq hh h0' hs hg ht
  by_cases hs0 : s.size = 0
  · have e2 : decide (0 < s.size) = false := decide_eq_false (show ¬ 0 < s.size by omega)
    clear hs0 hno
    go_enter Try.func13, Try.ntmps13
    go_wp2_with fail
    generalize w.alloc (.cells #[.int .i64 ak, .int .i64 k, .int .i64 an, .string ad, .int .u8 bt] 30) = w0 at *
    have y1 : w0.cell? ⟨w.heap.size, 1, none⟩ = some (.int .i64 k) := x0.cell rfl
    have y4 : w0.cell? ⟨w.heap.size, 4, none⟩ = some (.int .u8 bt) := x0.cell rfl
    go_quiet ((go_at_call 25; exact Calls.quiet_of_same (HIN.out _)))
    go_wp2
    go_ret
    exact ⟨rfl, h.same (hB0.trans ((below_drewN w0 _).mono hB0.size))⟩
  · have e2 : decide (0 < s.size) = true := decide_eq_true (show 0 < s.size by omega)
    by_cases hb0 : bt = 0
    · subst hb0
      clear hs0 hno hbt
      go_enter Try.func13, Try.ntmps13
      go_wp2_with fail
      generalize w.alloc (.cells #[.int .i64 ak, .int .i64 k, .int .i64 an, .string ad, .int .u8 ((0 : Nat) : Int)] 30) = w0 at *
      have y1 : w0.cell? ⟨w.heap.size, 1, none⟩ = some (.int .i64 k) := x0.cell rfl
      have y4 : w0.cell? ⟨w.heap.size, 4, none⟩ = some (.int .u8 ((0 : Nat) : Int)) := x0.cell rfl
      go_quiet ((go_at_call 25; exact Calls.quiet_of_same (HIN.out _)))
      go_wp2
      go_ret
      exact ⟨rfl, h.same (hB0.trans ((below_drewN w0 _).mono hB0.size))⟩
    · have e1 : ((bt : Int) == 0) = false := by simpa using hb0
      have e1' : ((bt : Int) != 0) = true := by simpa using hb0
      obtain rfl : t = true := (hno.resolve_left hb0).resolve_left hs0
      clear hs0 hno hb0
      go_enter Try.func13, Try.ntmps13
      go_wp2_with fail
      generalize w.alloc (.cells #[.int .i64 ak, .int .i64 k, .int .i64 an, .string ad, .int .u8 bt] 30) = w0 at *
      have y1 : w0.cell? ⟨w.heap.size, 1, none⟩ = some (.int .i64 k) := x0.cell rfl
      have y4 : w0.cell? ⟨w.heap.size, 4, none⟩ = some (.int .u8 bt) := x0.cell rfl
      go_quiet ((go_at_call 25; exact Calls.quiet_of_same (HIN.out _)))
      go_wp2
      go_ret
      exact ⟨rfl, h.same (hB0.trans ((below_drewN w0 _).mono hB0.size))⟩

/-- One cell of the model's own block is written. -/
theorem MdIn.own {M' : Md} (h : MdIn S w B RS RG RH sv M) (i : Nat) (u : Value) (hb : Below w.heap.size w x) (hc : (mdCells RS RG RH sv M).setIfInBounds i u = mdCells RS RG RH sv M') (h1 : M'.safe = M.safe) (h2 : M'.gone = M.gone) (h3 : M'.hurt = M.hurt) (h4 : M'.since = M.since) (hf : M'.Fits) :
    MdTo S w B M' (x.setCell ⟨B, i, none⟩ u) := by
  have k := h.keep hb.size (fun j hj => hb.block j (h.lt j hj))
  refine MdAt.to ⟨RS, RG, RH, sv, k.turn0 ?_ ?_ ?_ ?_ h4 ?_ (by simp [World.setCell]) hf⟩ ((Mod.of_below hb S).setCell (p := ⟨B, i, none⟩) (.inl h.sB) u)
  · rw [← hc]; exact k.hB.set i u
  · rw [h1]; exact k.hS.other h.BS.symm i u
  · rw [h2]; exact k.hG.other h.BG.symm i u
  · rw [h3]; exact k.hH.other h.BH.symm i u
  · exact fun j e => block_setCell_other (h.apart e).1
theorem fits_of {M' : Md} (h : M.Fits) (h1 : M'.safe = M.safe) (h2 : M'.gone = M.gone) (h3 : M'.hurt = M.hurt) (h4 : M'.since = M.since) (hf : -1 ≤ M'.falls ∧ M'.falls ≤ 9223372036854775807) : M'.Fits :=
  ⟨by rw [h1]; exact h.many, by rw [h1, h2]; exact h.gone, by rw [h1, h3]; exact h.hurt, by rw [h1]; exact h.sizes, by rw [h1, h4]; exact h.since, by rw [h4]; exact h.count, hf⟩

set_option maxRecDepth 100000 in
set_option maxHeartbeats 4000000 in
theorem do_fall (a : Ac) (ha : a.Ok) (hk5 : kindA a.k = 5) (h : MdAt S w B M) :
    Calls Try.prog 13 #[.pointer (some ⟨B, 0, none⟩), acV a] w fun e w' => e = .returned (.int .i64 0) ∧ MdTo S w B { M with falls := (a.n.toNat : Int) } w' := by
  obtain ⟨ak, ab, an, ad, bt⟩ := a
  simp only at hk5 ⊢
  have hke := kind_eq ak
  rw [hk5] at hke
  have hke' : wrap64 ((IntKind.u64.wrap ak).tmod 6) = 5 := hke
  have hn := ha.n
  unfold i64in at hn
  simp only at hn
  have hB0 : Below w.heap.size w (w.alloc (.cells #[.int .i64 ak, .int .i64 ab, .int .i64 an, .string ad, .int .u8 bt] 30)) := (Below.refl _ w).alloc (Nat.le_refl _) _
  have hfit := h.fits
  obtain ⟨RS, RG, RH, sv, h0'⟩ := id h
  have h0B := h0'.keep hB0.size (fun j hj => hB0.block j (h0'.lt j hj))
  have c5 := h0B.c5
  have f5 := h0B.hB.free 5
  have hfin := h0'.own (M' := { M with falls := (an.toNat : Int) }) 5 (.int .i64 (an.toNat : Int)) hB0 (by simp [mdCells]) rfl rfl rfl rfl (fits_of hfit rfl rfl rfl rfl ⟨by show (-1 : Int) ≤ (an.toNat : Int); omega, by show (an.toNat : Int) ≤ _; omega⟩)
  have HFIN := Lib.hid hfin
  clear hke hfin h0B h0' hfit h
  rw [show ((an.toNat : Nat) : Int) = max an 0 by omega] at HFIN ⊢
  go_enter Try.func13, Try.ntmps13
  go_wp2
  go_ret
  exact ⟨rfl, HFIN.out⟩

/-- A block is lost. -/
def Md.loseB (M : Md) (i : Int) : Md := if M.inB i then { M with gone := M.gone.set i.toNat true } else M
theorem lose_md_put {k : Nat} (h : MdIn S w B RS RG RH sv M) (hb : Below w.heap.size w x) (v : Bool) : MdTo S w B { M with gone := M.gone.set k v } ((x.setCell ⟨RG, k, none⟩ (.bool v)).drew) := by
  have k1 := h.keep hb.size (fun j hj => hb.block j (h.lt j hj))
  refine MdAt.to ⟨RS, RG, RH, sv, k1.turn0 ?_ ?_ ?_ ?_ rfl ?_ (by simp [World.setCell]) ?_⟩ ((Mod.of_below hb S).setCell (p := ⟨RG, k, none⟩) (.inl h.sG) _).drew
  · rw [show mdCells RS RG RH sv { M with gone := M.gone.set k v } = mdCells RS RG RH sv M from rfl]
    exact k1.hB.other h.BG k _
  · exact k1.hS.other h.SG k _
  · have := k1.hG.set k (.bool v)
    rw [boolCells_set] at this
    exact this
  · exact k1.hH.other h.ne.symm k _
  · exact fun j e => block_setCell_other (h.apart e).2.2.1
  · exact ⟨h.fits.many, by simpa using h.fits.gone, h.fits.hurt, h.fits.sizes, h.fits.since, h.fits.count, h.fits.falls⟩

set_option maxRecDepth 100000 in
set_option maxHeartbeats 4000000 in
theorem do_lose (a : Ac) (hk4 : kindA a.k = 4) (h : MdAt S w B M) :
    Calls Try.prog 13 #[.pointer (some ⟨B, 0, none⟩), acV a] w fun e w' => e = .returned (.int .i64 0) ∧ MdTo S w B (M.loseB a.block) w' := by
  obtain ⟨ak, ab, an, ad, bt⟩ := a
  simp only at hk4 ⊢
  have hke := kind_eq ak
  rw [hk4] at hke
  have hke' : wrap64 ((IntKind.u64.wrap ak).tmod 6) = 4 := hke
  have hB0 : Below w.heap.size w (w.alloc (.cells #[.int .i64 ak, .int .i64 ab, .int .i64 an, .string ad, .int .u8 bt] 30)) := (Below.refl _ w).alloc (Nat.le_refl _) _
  have hin := in_any ab (h.below hB0)
  by_cases hh : M.inB ab = true
  · have e0 : M.loseB ab = { M with gone := M.gone.set ab.toNat true } := by simp [Md.loseB, hh]
    rw [e0]
    obtain ⟨k, s, g, t, rfl, hk, hs, hg, ht⟩ := Md.in_at h.fits hh
    rw [hh] at hin
    have hmany := h.fits.many
    obtain ⟨RS, RG, RH, sv, h0'⟩ := id h
    obtain ⟨⟨c0, c1, c3, c4⟩, ⟨q0, q1, q2⟩, f0, f1, f2⟩ := h0'.facts hB0 hs hg ht
    have x0 := (Whole.new w 30 #[.int .i64 ak, .int .i64 k, .int .i64 an, .string ad, .int .u8 bt])
    have HFIN := Lib.hid (lose_md_put (k := k) h0' hB0 true)
    clear hke h0' hs hg ht e0 hh h
    go_enter Try.func13, Try.ntmps13
    go_wp2_with fail
    generalize w.alloc (.cells #[.int .i64 ak, .int .i64 k, .int .i64 an, .string ad, .int .u8 bt] 30) = w0 at *
    have y1 : w0.cell? ⟨w.heap.size, 1, none⟩ = some (.int .i64 k) := x0.cell rfl
    refine hin.mono ?_
    rintro e w' ⟨rfl, rfl⟩
    go_wp2_with fail
    go_region
    all_goals
      go_wp2
      go_ret
      exact ⟨rfl, HFIN.out⟩
  · have hh' : M.inB ab = false := by simpa using hh
    have e0 : M.loseB ab = M := by simp [Md.loseB, hh']
    rw [e0]
    rw [hh'] at hin
    clear hke e0 hh hh'
    go_enter Try.func13, Try.ntmps13
    go_wp2_with (go_at_call 25; refine hin.mono ?_; rintro e w' ⟨rfl, rfl⟩)
    go_ret
    exact ⟨rfl, h.same hB0⟩
end
end Go.Proofs.Ytmfkbddfjfjfkaa
