/- The model's Do: writes and flushes, with power and without. No conditions beyond those in each statement. -/
import Derived.Test.YtmfkbddfjfjfkaaMdMiss
import Derived.Deep.RegionLaw
import Derived.Deep.AppendLies
namespace Go.Proofs.Ytmfkbddfjfjfkaa
open Go.RowKit
set_option linter.unusedVariables false

def Md.up (M : Md) : Bool := !M.down && !(M.falls == 0)
def Md.op (M : Md) : Md := if M.up then (if 0 < M.falls then { M with falls := M.falls - 1 } else M) else { M with down := true }
theorem Md.op_safe (M : Md) : M.op.safe = M.safe := by unfold Md.op; split <;> (try split) <;> rfl
theorem Md.op_since (M : Md) : M.op.since = M.since := by unfold Md.op; split <;> (try split) <;> rfl
theorem Md.op_gone (M : Md) : M.op.gone = M.gone := by unfold Md.op; split <;> (try split) <;> rfl
theorem Md.op_hurt (M : Md) : M.op.hurt = M.hurt := by unfold Md.op; split <;> (try split) <;> rfl
theorem info_mwrite : (Try.prog.info? 65).map (fun i => (i.zero, i.size, i.bytes)) = some (some (.agg #[.int .i64 0, .string ⟨#[]⟩]), 2, 24) := by kernel_rfl
theorem und_mwrites : Try.prog.underlying 57 = some (.slice 65) := by kernel_rfl

section
variable {S : Nat → Prop} {w x : World} {B RS RG RH : Nat} {sv : Value} {M : Md}
theorem MdIn.own2 {M' : Md} (h : MdIn S w B RS RG RH sv M) (i : Nat) (u : Value) (hb : Below w.heap.size w x) (hc : (mdCells RS RG RH sv M).setIfInBounds i u = mdCells RS RG RH sv M') (h1 : M'.safe = M.safe) (h2 : M'.gone = M.gone) (h3 : M'.hurt = M.hurt) (h4 : M'.since = M.since) (hf : M'.Fits) :
    MdIn S (x.setCell ⟨B, i, none⟩ u) B RS RG RH sv M' := by
  have k := h.keep hb.size (fun j hj => hb.block j (h.lt j hj))
  refine k.turn0 ?_ ?_ ?_ ?_ h4 ?_ (by simp [World.setCell]) hf
  · rw [← hc]; exact k.hB.set i u
  · rw [h1]; exact k.hS.other h.BS.symm i u
  · rw [h2]; exact k.hG.other h.BG.symm i u
  · rw [h3]; exact k.hH.other h.BH.symm i u
  · exact fun j e => block_setCell_other (h.apart e).1

set_option maxRecDepth 100000 in
set_option maxHeartbeats 4000000 in
theorem do_off (a : Ac) (hk : kindA a.k < 3) (h : MdAt S w B M) (hup : M.up = false) :
    Calls Try.prog 13 #[.pointer (some ⟨B, 0, none⟩), acV a] w fun e w' => e = .returned (.int .i64 5) ∧ MdTo S w B M.op w' := by
  obtain ⟨ak, ab, an, ad, bt⟩ := a
  simp only at hk ⊢
  have hke := kind_eq ak
  have hop : M.op = { M with down := true } := by simp [Md.op, hup]
  rw [hop]
  have hB0 : Below w.heap.size w (w.alloc (.cells #[.int .i64 ak, .int .i64 ab, .int .i64 an, .string ad, .int .u8 bt] 30)) := (Below.refl _ w).alloc (Nat.le_refl _) _
  have hfit := h.fits
  obtain ⟨RS, RG, RH, sv, h0'⟩ := id h
  have h0B := h0'.keep hB0.size (fun j hj => hB0.block j (h0'.lt j hj))
  have c5 := h0B.c5
  have c6 := h0B.c6
  have f6 := h0B.hB.free 6
  have HFIN := Lib.hid (h0'.own (M' := { M with down := true }) 6 (.bool true) hB0 (by simp [mdCells]) rfl rfl rfl rfl (fits_of hfit rfl rfl rfl rfl hfit.falls))
  have n3 : ((kindA ak : Int) == 3) = false := by simp; omega
  have n4 : ((kindA ak : Int) == 4) = false := by simp; omega
  have n5 : ((kindA ak : Int) == 5) = false := by simp; omega
  clear h0B h0' hfit h hop hk
  by_cases hd : M.down = true
  · rw [hd] at c6
    clear hup hd
    go_enter Try.func13, Try.ntmps13
    go_wp2
    go_ret
    exact ⟨rfl, HFIN.out⟩
  · have hd' : M.down = false := by simpa using hd
    have hf0 : M.falls = 0 := by simpa [Md.up, hd'] using hup
    rw [hd'] at c6
    rw [hf0] at c5
    clear hup hd hd' hf0
    go_enter Try.func13, Try.ntmps13
    go_wp2
    go_ret
    exact ⟨rfl, HFIN.out⟩

/-- A write is noted. -/
def Md.noted (M : Md) (k : Nat) (s : ByteArray) : Md := { M with since := M.since ++ [⟨k, s⟩], gone := M.gone.set k false }
theorem write_md_put {X w3 : World} {v v' : Value} {k : Nat} {s : ByteArray} (h : MdIn S X B RS RG RH sv M) (hv : sv = v) (hkl : k < M.safe.length) (hs : s.size ≤ 512) (hcnt : M.since.length < 1073741824)
    (hsz : X.heap.size ≤ w3.heap.size) (hk : ∀ j, j < X.heap.size → some j ≠ v.ownBlock → w3.heap[j]? = X.heap[j]?)
    (hown : w3.ownsRow 0 65 2 v' (M.since.length + 1) (wrCells M.since ++ [.int .i64 (k : Int), .string s])) (hnew : ∀ j, v'.ownBlock = some j → v.ownBlock = some j ∨ X.heap.size ≤ j) (ho : w3.os = X.os) (ht : w3.tape = X.tape) (hout : w3.output = X.output) :
    MdTo S X B (M.noted k s) (((w3.setCell ⟨B, 2, none⟩ v').setCell ⟨RG, k, none⟩ (.bool false)).drew) := by
  subst hv
  have hvx : ∀ j, v'.ownBlock = some j → j ≠ B ∧ j ≠ RG := fun j e => by
    rcases hnew j e with h1 | h1
    · exact ⟨(h.apart h1).1, (h.apart h1).2.2.1⟩
    · exact ⟨fun e' => by have := h.lt B h.sB; omega, fun e' => by have := h.lt RG h.sG; omega⟩
  have k3 : ∀ j, S j → sv.ownBlock ≠ some j → w3.heap[j]? = X.heap[j]? := fun j hj hne => hk j (h.lt j hj) (fun e => hne e.symm)
  have hne : ∀ j, (j = B ∨ j = RS ∨ j = RG ∨ j = RH) → sv.ownBlock ≠ some j := fun j hj e => by
    have := h.apart e
    omega
  have w3B : Whole w3 B 59 (mdCells RS RG RH sv M) := (k3 B h.sB (hne B (.inl rfl))).trans h.hB
  have w3S : Whole w3 RS 9 (strCells M.safe) := (k3 RS h.sS (hne RS (.inr (.inl rfl)))).trans h.hS
  have w3G : Whole w3 RG 4 (boolCells M.gone) := (k3 RG h.sG (hne RG (.inr (.inr (.inl rfl))))).trans h.hG
  have w3H : Whole w3 RH 4 (boolCells M.hurt) := (k3 RH h.sH (hne RH (.inr (.inr (.inr rfl))))).trans h.hH
  have fB : Whole (((w3.setCell ⟨B, 2, none⟩ v').setCell ⟨RG, k, none⟩ (.bool false)).drew) B 59 (mdCells RS RG RH v' (M.noted k s)) := (w3B.set 2 v').other h.BG k (.bool false)
  have fS : Whole (((w3.setCell ⟨B, 2, none⟩ v').setCell ⟨RG, k, none⟩ (.bool false)).drew) RS 9 (strCells (M.noted k s).safe) := (w3S.other h.BS.symm 2 v').other h.SG k (.bool false)
  have fG : Whole (((w3.setCell ⟨B, 2, none⟩ v').setCell ⟨RG, k, none⟩ (.bool false)).drew) RG 4 (boolCells (M.noted k s).gone) := by
    have := (w3G.other h.BG.symm 2 v').set k (.bool false)
    rw [boolCells_set] at this
    exact this
  have fH : Whole (((w3.setCell ⟨B, 2, none⟩ v').setCell ⟨RG, k, none⟩ (.bool false)).drew) RH 4 (boolCells (M.noted k s).hurt) := (w3H.other h.BH.symm 2 v').other h.ne.symm k (.bool false)
  have fR : (((w3.setCell ⟨B, 2, none⟩ v').setCell ⟨RG, k, none⟩ (.bool false)).drew).ownsRow 0 65 2 v' (M.noted k s).since.length (wrCells (M.noted k s).since) := by
    have e1 : (M.noted k s).since.length = M.since.length + 1 := by simp [Md.noted]
    have e2 : wrCells (M.noted k s).since = wrCells M.since ++ [.int .i64 (k : Int), .string s] := by simp [Md.noted, wrCells_append, wrCells]
    rw [e1, e2]
    exact ownsRow_same hown (fun j e => by
      have h1 : (((w3.setCell ⟨B, 2, none⟩ v').setCell ⟨RG, k, none⟩ (.bool false)).drew).heap[j]? = (w3.setCell ⟨B, 2, none⟩ v').heap[j]? := block_setCell_other (hvx j e).2
      rw [h1]
      exact block_setCell_other (hvx j e).1)
  have hfit : (M.noted k s).Fits := ⟨h.fits.many, by simpa [Md.noted] using h.fits.gone, h.fits.hurt, h.fits.sizes, (fun p hp => by
      rcases List.mem_append.1 hp with hp | hp
      · exact h.fits.since p hp
      · rw [List.mem_singleton.1 hp]; exact ⟨hs, hkl⟩), by simp [Md.noted]; omega, h.fits.falls⟩
  have hm0 : Mod S X w3 := ⟨ho, ht, hout, hsz, fun j hj hS => hk j hj (fun e => hS (h.sP j e.symm))⟩
  refine ⟨_, ⟨RS, RG, RH, v', h.turn fB fS fG fH fR (by simpa [World.setCell] using hsz) hfit⟩, fun j hj => ?_, ((hm0.setCell (p := ⟨B, 2, none⟩) (.inl h.sB) v').setCell (p := ⟨RG, k, none⟩) (.inl h.sG) _).drew⟩
  rcases hj with hj | hj
  · exact .inl hj
  · exact (hnew j hj).imp (h.sP j) id
/-- What a walk reads of the model where a row may have grown. -/
theorem MdIn.facts2 {X : World} {v : Value} {k : Nat} {g : Bool} (h : MdIn S X B RS RG RH sv M) (hv : sv = v) (hg : M.gone[k]? = some g) (hx : X.heap.size ≤ x.heap.size ∧ ∀ j, j < X.heap.size → some j ≠ v.ownBlock → x.heap[j]? = X.heap[j]?) :
    x.cell? ⟨B, 0, none⟩ = some (.int .i64 M.safe.length) ∧ x.cell? ⟨B, 2, none⟩ = some v ∧ x.frozen? ⟨B, 2, none⟩ = false ∧ x.cell? ⟨B, 3, none⟩ = some (.slice (some ⟨RG, 0, none⟩) M.safe.length M.safe.length) ∧ x.cell? ⟨RG, k, none⟩ = some (.bool g) ∧ x.frozen? ⟨RG, k, none⟩ = false := by
  subst hv
  have hB : Whole x B _ _ := (hx.2 B (h.lt B h.sB) (fun e => (h.apart e.symm).1 rfl)).trans h.hB
  have hG : Whole x RG _ _ := (hx.2 RG (h.lt RG h.sG) (fun e => (h.apart e.symm).2.2.1 rfl)).trans h.hG
  exact ⟨hB.cell rfl, hB.cell rfl, hB.free 2, hB.cell rfl, hG.cell (boolCells_at hg), hG.free k⟩
theorem MdTo.from {M' : Md} {y : World} (hb : Mod S w x) (h : MdTo S x B M' y) : MdTo S w B M' y := by
  obtain ⟨S', h1, h2, h3⟩ := h
  exact ⟨S', h1, fun k hk => (h2 k hk).imp id (fun e => Nat.le_trans hb.size e), hb.trans h3 (fun k hk => .inl hk)⟩
set_option maxRecDepth 100000 in
set_option maxHeartbeats 8000000 in
theorem do_write_falls (a : Ac) (k : Nat) (g : Bool) (ha : a.Ok) (hk : kindA a.k = 0 ∨ kindA a.k = 1) (hbk : a.block = (k : Int)) (h : MdAt S w B M) (hup : M.up = true) (hg : M.gone[k]? = some g) (hs : a.data.size ≤ 512) (hcnt : M.since.length < 1073741824) (hpos : 0 < M.falls) :
    Calls Try.prog 13 #[.pointer (some ⟨B, 0, none⟩), acV a] w fun e w' => e = .returned (.int .i64 0) ∧ MdTo S w B (M.op.noted k a.data) w' := by
  obtain ⟨ak, ab, an, ad, bt⟩ := a
  simp only at hk hbk hs ⊢
  subst hbk
  have hke := kind_eq ak
  obtain ⟨hd', hf0⟩ : M.down = false ∧ M.falls ≠ 0 := by simpa [Md.up] using hup
  have hB0 : Below w.heap.size w (w.alloc (.cells #[.int .i64 ak, .int .i64 k, .int .i64 an, .string ad, .int .u8 bt] 30)) := (Below.refl _ w).alloc (Nat.le_refl _) _
  have hfit := h.fits
  have hmany := hfit.many
  have hkl : k < M.safe.length := by rw [← hfit.gone]; exact (List.getElem?_eq_some_iff.1 hg).1
  obtain ⟨RS, RG, RH, sv, h0'⟩ := id h
  have h0B := h0'.keep hB0.size (fun j hj => hB0.block j (h0'.lt j hj))
  have c5 := h0B.c5
  have c6 := h0B.c6
  have f5 := h0B.hB.free 5
  rw [hd'] at c6
  have e5 : (M.falls == 0) = false := by simpa using hf0
  have hfl := hfit.falls
  have hop : M.op = { M with falls := M.falls - 1 } := by unfold Md.op; rw [hup, if_pos rfl, if_pos hpos]
  obtain ⟨X, hX⟩ : ∃ X, X = (w.alloc (.cells #[.int .i64 ak, .int .i64 k, .int .i64 an, .string ad, .int .u8 bt] 30)).setCell ⟨B, 5, none⟩ (.int .i64 (M.falls - 1)) := ⟨_, rfl⟩
  have hXI : MdIn S X B RS RG RH sv M.op := by rw [hX, hop]; exact h0'.own2 (M' := { M with falls := M.falls - 1 }) 5 _ hB0 (by simp [mdCells]) rfl rfl rfl rfl (fits_of hfit rfl rfl rfl rfl ⟨by show -1 ≤ M.falls - 1; omega, by show M.falls - 1 ≤ _; omega⟩)
  have hXM : Mod S w X := by rw [hX]; exact (Mod.of_below hB0 S).setCell (p := ⟨B, 5, none⟩) (.inl h0'.sB) _
  have hXW : Whole X w.heap.size 30 #[.int .i64 ak, .int .i64 k, .int .i64 an, .string ad, .int .u8 bt] := by rw [hX]; exact (Whole.new w _ _).other (by have := h0'.lt B h0'.sB; omega) 5 _
  have hin := in_any (k : Int) (⟨RS, RG, RH, sv, hXI⟩ : MdAt S X B M.op)
  have hh : M.op.inB (k : Int) = true := by simp [Md.inB, M.op_safe]; omega
  rw [hh] at hin
  have n2 : ((kindA ak : Int) == 2) = false := by simp; omega
  have n3 : ((kindA ak : Int) == 3) = false := by simp; omega
  have n4 : ((kindA ak : Int) == 4) = false := by simp; omega
  have n5 : ((kindA ak : Int) == 5) = false := by simp; omega
  have hds : decide ((512 : Int) < (ad.size : Int)) = false := by simp; omega
  have hgX : M.op.gone[k]? = some g := by rw [M.op_gone]; exact hg
  have hrow := hXI.row
  obtain ⟨sa, scap, hsv⟩ := slice_of hrow
  rw [hsv] at hrow
  have hkX : k < M.op.safe.length := by rw [M.op_safe]; exact hkl
  have hkX2 : (k : Int) < (M.op.safe.length : Int) := by omega
  have hmX : M.op.safe.length ≤ 4096 := by rw [M.op_safe]; exact hmany
  have hcX : M.op.since.length < 1073741824 := by rw [M.op_since]; exact hcnt
  have HPUT := Lib.hid (fun (w3 : World) (v' : Value) => write_md_put (X := X) (w3 := w3) (v' := v') (k := k) (s := ad) hXI hsv hkX hs hcX)
  have HF := Lib.hid (fun (x : World) hx => hXI.facts2 (x := x) hsv hgX hx)
  have HROW := Lib.hid (show (X.alloc (.cells #[.int .i64 k, .string ad] 65)).drew.ownsRow 0 65 2 (.slice sa M.op.since.length scap) M.op.since.length (wrCells M.op.since) from (hrow.alloc _).drew)
  have HNEW := Lib.hid (show ∀ j u, [Value.int .i64 k, .string ad][j]? = some u → (X.alloc (.cells #[.int .i64 k, .string ad] 65)).drew.cell? ((⟨X.heap.size, 0, none⟩ : Addr).add j) = some u from World.news_of_block (cs := #[.int .i64 k, .string ad]) (t := 65) (fr := (0, 0)) (heap_alloc_new X _))
  have HXM := Lib.hid hXM
  have HBX := Lib.hid (show some w.heap.size ≠ (Value.slice sa M.op.since.length scap).ownBlock from by rw [← hsv]; intro e; have := h0'.lt _ (h0'.sP _ e.symm); omega)
  have HNE := Lib.hid (show w.heap.size ≠ B ∧ RG ≠ B ∧ RG ≠ w.heap.size from ⟨by have := h0'.lt B h0'.sB; omega, h0'.BG.symm, by have := h0'.lt RG h0'.sG; omega⟩)
  obtain ⟨i0, hi, hz0, hz1, hz2⟩ := info_parts info_mwrite
  obtain ⟨d0, d2, t2, d3, q0, t0⟩ := HF.out X ⟨Nat.le_refl _, fun _ _ _ => rfl⟩
  have HX := Lib.hid hX
  generalize M.op = E at *
  clear hrow hgX hh hop h0' h0B hfit h hup hg hd' hf0 hk hXI hXM hX hkl
  go_enter Try.func13, Try.ntmps13
  go_wp2_with fail
  rw [← HX.out]
  refine hin.mono ?_
  rintro e w' ⟨rfl, rfl⟩
  clear c5 c6 f5
  have y1 : X.cell? ⟨w.heap.size, 1, none⟩ = some (.int .i64 k) := hXW.cell rfl
  have y3 : X.cell? ⟨w.heap.size, 3, none⟩ = some (.string ad) := hXW.cell rfl
  have hXA := hXW.alloc (.cells #[.int .i64 k, .string ad] 65)
  have z1 : (X.alloc (.cells #[.int .i64 k, .string ad] 65)).cell? ⟨w.heap.size, 1, none⟩ = some (.int .i64 k) := hXA.cell rfl
  obtain ⟨_, d2', t2', _, _, _⟩ := HF.out (X.alloc (.cells #[.int .i64 k, .string ad] 65)) ⟨by simp, fun j hj _ => Below.heap_alloc X _ j hj⟩
  go_wp2_with fail
  go_region_law (
    (refine step_append_lies _ (by rfl) _ _ _ (by rfl) 0 65 i0 _ 2 24 und_mwrites hi hz0 hz1 hz2 rfl (by decide) (.slice sa E.since.length scap) E.since.length (wrCells E.since) (by rfl) HROW.out
        ⟨X.heap.size, 0, none⟩ 1 1 [.int .i64 k, .string ad] (by rfl) rfl HNEW.out (by simp [Value.oneCell'])
        (by decide) (by unfold maxLen; omega) (by omega) (Nat.zero_le _) (X.heap.size + 1) (by simp) ?_; intro g9 cap9 w3 ho3 hg3 hat3 hlt3; have ha3 := after_append ((Below.refl X.heap.size X).drew) hg3; obtain ⟨_, e2, h2, e3, eq0, et0⟩ := HF.out w3 ha3; have hx3 : Whole w3 w.heap.size 30 #[.int .i64 ak, .int .i64 k, .int .i64 an, .string ad, .int .u8 bt] := (hg3.block _ (by have := hXW.lt; simp; omega) HBX.out).trans hXA; have e1 : w3.cell? ⟨w.heap.size, 1, none⟩ = some (.int .i64 k) := hx3.cell rfl; have HA := Lib.hid ha3; clear ha3))
  all_goals
    clear d0 d2 t2 d3 q0 t0 d2' t2' z1 y1 y3 hXA hXW
    obtain ⟨m1, m2, m3⟩ := HNE.out
    go_wp2_with fail
    go_region
    all_goals
      go_wp2
      go_ret
      refine ⟨rfl, MdTo.from HXM.out (HPUT.out w3 _ HA.out.1 HA.out.2 ho3 (fun j hj => ?_) hg3.os hg3.tape hg3.output)⟩
      rcases hat3 with e | e
      · exact .inl (by rw [← hj]; exact e)
      · refine .inr ?_
        obtain rfl : g9 = j := by simpa [Value.ownBlock] using hj
        omega

set_option maxRecDepth 100000 in
set_option maxHeartbeats 8000000 in
theorem do_write_free (a : Ac) (k : Nat) (g : Bool) (ha : a.Ok) (hk : kindA a.k = 0 ∨ kindA a.k = 1) (hbk : a.block = (k : Int)) (h : MdAt S w B M) (hup : M.up = true) (hg : M.gone[k]? = some g) (hs : a.data.size ≤ 512) (hcnt : M.since.length < 1073741824) (hpos : ¬ 0 < M.falls) :
    Calls Try.prog 13 #[.pointer (some ⟨B, 0, none⟩), acV a] w fun e w' => e = .returned (.int .i64 0) ∧ MdTo S w B (M.op.noted k a.data) w' := by
  obtain ⟨ak, ab, an, ad, bt⟩ := a
  simp only at hk hbk hs ⊢
  subst hbk
  have hke := kind_eq ak
  obtain ⟨hd', hf0⟩ : M.down = false ∧ M.falls ≠ 0 := by simpa [Md.up] using hup
  have hB0 : Below w.heap.size w (w.alloc (.cells #[.int .i64 ak, .int .i64 k, .int .i64 an, .string ad, .int .u8 bt] 30)) := (Below.refl _ w).alloc (Nat.le_refl _) _
  have hfit := h.fits
  have hmany := hfit.many
  have hkl : k < M.safe.length := by rw [← hfit.gone]; exact (List.getElem?_eq_some_iff.1 hg).1
  obtain ⟨RS, RG, RH, sv, h0'⟩ := id h
  have h0B := h0'.keep hB0.size (fun j hj => hB0.block j (h0'.lt j hj))
  have c5 := h0B.c5
  have c6 := h0B.c6
  have f5 := h0B.hB.free 5
  rw [hd'] at c6
  have e5 : (M.falls == 0) = false := by simpa using hf0
  have hfl := hfit.falls
  have hop : M.op = M := by unfold Md.op; rw [hup, if_pos rfl, if_neg hpos]
  obtain ⟨X, hX⟩ : ∃ X, X = w.alloc (.cells #[.int .i64 ak, .int .i64 k, .int .i64 an, .string ad, .int .u8 bt] 30) := ⟨_, rfl⟩
  have hXI : MdIn S X B RS RG RH sv M.op := by rw [hX, hop]; exact h0B
  have hXM : Mod S w X := by rw [hX]; exact Mod.of_below hB0 S
  have hXW : Whole X w.heap.size 30 #[.int .i64 ak, .int .i64 k, .int .i64 an, .string ad, .int .u8 bt] := by rw [hX]; exact Whole.new w _ _
  have hin := in_any (k : Int) (⟨RS, RG, RH, sv, hXI⟩ : MdAt S X B M.op)
  have hh : M.op.inB (k : Int) = true := by simp [Md.inB, M.op_safe]; omega
  rw [hh] at hin
  have n2 : ((kindA ak : Int) == 2) = false := by simp; omega
  have n3 : ((kindA ak : Int) == 3) = false := by simp; omega
  have n4 : ((kindA ak : Int) == 4) = false := by simp; omega
  have n5 : ((kindA ak : Int) == 5) = false := by simp; omega
  have hds : decide ((512 : Int) < (ad.size : Int)) = false := by simp; omega
  have hgX : M.op.gone[k]? = some g := by rw [M.op_gone]; exact hg
  have hrow := hXI.row
  obtain ⟨sa, scap, hsv⟩ := slice_of hrow
  rw [hsv] at hrow
  have hkX : k < M.op.safe.length := by rw [M.op_safe]; exact hkl
  have hkX2 : (k : Int) < (M.op.safe.length : Int) := by omega
  have hmX : M.op.safe.length ≤ 4096 := by rw [M.op_safe]; exact hmany
  have hcX : M.op.since.length < 1073741824 := by rw [M.op_since]; exact hcnt
  have HPUT := Lib.hid (fun (w3 : World) (v' : Value) => write_md_put (X := X) (w3 := w3) (v' := v') (k := k) (s := ad) hXI hsv hkX hs hcX)
  have HF := Lib.hid (fun (x : World) hx => hXI.facts2 (x := x) hsv hgX hx)
  have HROW := Lib.hid (show (X.alloc (.cells #[.int .i64 k, .string ad] 65)).drew.ownsRow 0 65 2 (.slice sa M.op.since.length scap) M.op.since.length (wrCells M.op.since) from (hrow.alloc _).drew)
  have HNEW := Lib.hid (show ∀ j u, [Value.int .i64 k, .string ad][j]? = some u → (X.alloc (.cells #[.int .i64 k, .string ad] 65)).drew.cell? ((⟨X.heap.size, 0, none⟩ : Addr).add j) = some u from World.news_of_block (cs := #[.int .i64 k, .string ad]) (t := 65) (fr := (0, 0)) (heap_alloc_new X _))
  have HXM := Lib.hid hXM
  have HBX := Lib.hid (show some w.heap.size ≠ (Value.slice sa M.op.since.length scap).ownBlock from by rw [← hsv]; intro e; have := h0'.lt _ (h0'.sP _ e.symm); omega)
  have HNE := Lib.hid (show w.heap.size ≠ B ∧ RG ≠ B ∧ RG ≠ w.heap.size from ⟨by have := h0'.lt B h0'.sB; omega, h0'.BG.symm, by have := h0'.lt RG h0'.sG; omega⟩)
  obtain ⟨i0, hi, hz0, hz1, hz2⟩ := info_parts info_mwrite
  obtain ⟨d0, d2, t2, d3, q0, t0⟩ := HF.out X ⟨Nat.le_refl _, fun _ _ _ => rfl⟩
  have HX := Lib.hid hX
  generalize M.op = E at *
  clear hrow hgX hh hop h0' h0B hfit h hup hg hd' hf0 hk hXI hXM hX hkl
  go_enter Try.func13, Try.ntmps13
  go_wp2_with fail
  rw [← HX.out]
  refine hin.mono ?_
  rintro e w' ⟨rfl, rfl⟩
  clear c5 c6 f5
  have y1 : X.cell? ⟨w.heap.size, 1, none⟩ = some (.int .i64 k) := hXW.cell rfl
  have y3 : X.cell? ⟨w.heap.size, 3, none⟩ = some (.string ad) := hXW.cell rfl
  have hXA := hXW.alloc (.cells #[.int .i64 k, .string ad] 65)
  have z1 : (X.alloc (.cells #[.int .i64 k, .string ad] 65)).cell? ⟨w.heap.size, 1, none⟩ = some (.int .i64 k) := hXA.cell rfl
  obtain ⟨_, d2', t2', _, _, _⟩ := HF.out (X.alloc (.cells #[.int .i64 k, .string ad] 65)) ⟨by simp, fun j hj _ => Below.heap_alloc X _ j hj⟩
  go_wp2_with fail
  go_region_law (
    (refine step_append_lies _ (by rfl) _ _ _ (by rfl) 0 65 i0 _ 2 24 und_mwrites hi hz0 hz1 hz2 rfl (by decide) (.slice sa E.since.length scap) E.since.length (wrCells E.since) (by rfl) HROW.out
        ⟨X.heap.size, 0, none⟩ 1 1 [.int .i64 k, .string ad] (by rfl) rfl HNEW.out (by simp [Value.oneCell'])
        (by decide) (by unfold maxLen; omega) (by omega) (Nat.zero_le _) (X.heap.size + 1) (by simp) ?_; intro g9 cap9 w3 ho3 hg3 hat3 hlt3; have ha3 := after_append ((Below.refl X.heap.size X).drew) hg3; obtain ⟨_, e2, h2, e3, eq0, et0⟩ := HF.out w3 ha3; have hx3 : Whole w3 w.heap.size 30 #[.int .i64 ak, .int .i64 k, .int .i64 an, .string ad, .int .u8 bt] := (hg3.block _ (by have := hXW.lt; simp; omega) HBX.out).trans hXA; have e1 : w3.cell? ⟨w.heap.size, 1, none⟩ = some (.int .i64 k) := hx3.cell rfl; have HA := Lib.hid ha3; clear ha3))
  all_goals
    clear d0 d2 t2 d3 q0 t0 d2' t2' z1 y1 y3 hXA hXW
    obtain ⟨m1, m2, m3⟩ := HNE.out
    go_wp2_with fail
    go_region
    all_goals
      go_wp2
      go_ret
      refine ⟨rfl, MdTo.from HXM.out (HPUT.out w3 _ HA.out.1 HA.out.2 ho3 (fun j hj => ?_) hg3.os hg3.tape hg3.output)⟩
      rcases hat3 with e | e
      · exact .inl (by rw [← hj]; exact e)
      · refine .inr ?_
        obtain rfl : g9 = j := by simpa [Value.ownBlock] using hj
        omega
end
end Go.Proofs.Ytmfkbddfjfjfkaa
