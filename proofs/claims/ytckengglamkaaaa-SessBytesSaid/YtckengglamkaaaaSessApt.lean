/- The law's do at a table of which the model knows nothing. No conditions beyond those in each statement. -/
import Derived.Test.YtckengglamkaaaaSessAct
import Derived.Deep.DeepCutAuto
namespace Go.Proofs.Ytckengglamkaaaa
open Go.RowKit Go.Maps Go.Sort
set_option linter.unusedVariables false
set_option maxRecDepth 100000

/-- Some table. -/
def TbX (w : World) (tb mb k : Nat) : Prop := ∃ c T, TbW w tb mb k c T
def LeftX (w : World) (tb mb k : Nat) (w' : World) : Prop := TbX w' tb mb k ∧ w.grownBy w' (some mb)
section
variable {w w' : World} {tb mb k : Nat}
theorem TbX.below (h : TbX w tb mb k) (hb : Below w.heap.size w w') : TbX w' tb mb k := by obtain ⟨c, T, h⟩ := h; exact ⟨c, T, h.below hb⟩
theorem TbX.mono (h : TbX w tb mb k) {k' : Nat} (hk : k ≤ k') : TbX w tb mb k' := by obtain ⟨c, T, h⟩ := h; exact ⟨c, T, h.mono hk⟩
theorem TbX.keep (h : TbX w tb mb k) (h1 : w'.heap[tb]? = w.heap[tb]?) (h2 : w'.heap[mb]? = w.heap[mb]?) : TbX w' tb mb k := by obtain ⟨c, T, h⟩ := h; exact ⟨c, T, h1.trans h.table, h.map.keep0 h2⟩
theorem TbX.lt (h : TbX w tb mb k) : tb < w.heap.size := by obtain ⟨c, T, h⟩ := h; exact h.lt
theorem TbX.mlt (h : TbX w tb mb k) : mb < w.heap.size := by obtain ⟨c, T, h⟩ := h; exact h.map.lt
end
theorem leftX_below {m tb mb k : Nat} {w w' : World} (h : LeftX w tb mb k w') (hm : m ≤ mb) (hs : m ≤ w.heap.size) : Below m w w' :=
  ⟨h.2.os, h.2.tape, h.2.output, h.2.size, fun p hp => h.2.block p (by omega) (fun e => by have := Option.some.inj e; omega)⟩
theorem openX_any (tb mb k : Nat) (id : Int) (w : World) (h : TbX w tb mb k) (hz : InR id) (hk : k < 1000000) :
    Calls Try.prog 17 #[.pointer (some ⟨tb, 0, none⟩), .int .i64 id] w fun e w' => (∃ ev, e = .returned (.int .i64 ev)) ∧ LeftX w tb mb (k + 1) w' := by
  obtain ⟨c, T, h⟩ := h
  refine (open_any tb mb k c T id w h hz hk).mono ?_
  rintro e w' ⟨rfl, L⟩
  exact ⟨⟨_, rfl⟩, ⟨_, _, L.1⟩, L.2⟩
theorem closeX_any (tb mb k : Nat) (id : Int) (w : World) (h : TbX w tb mb k) (hz : InR id) :
    Calls Try.prog 18 #[.pointer (some ⟨tb, 0, none⟩), .int .i64 id] w fun e w' => (∃ ev, e = .returned (.int .i64 ev)) ∧ LeftX w tb mb (k + 1) w' := by
  obtain ⟨c, T, h⟩ := h
  refine (close_any tb mb k c T id w h hz).mono ?_
  rintro e w' ⟨rfl, L⟩
  exact ⟨⟨_, rfl⟩, ⟨_, _, L.1.mono (Nat.le_succ _)⟩, L.2⟩
theorem keepX_any (tb mb k : Nat) (id req : Int) (a : ByteArray) (w : World) (h : TbX w tb mb k) (hz : InR id) (ha : a.size ≤ 1000000) (hk : k < 1000000) :
    Calls Try.prog 19 #[.pointer (some ⟨tb, 0, none⟩), .int .i64 id, .int .i64 req, .string a] w fun e w' => (∃ ev, e = .returned (.int .i64 ev)) ∧ LeftX w tb mb (k + 1) w' := by
  obtain ⟨c, T, h⟩ := h
  refine (keep_any tb mb k c T id req a w h hz ha hk).mono ?_
  rintro e w' ⟨rfl, L⟩
  exact ⟨⟨_, rfl⟩, ⟨_, _, L.1⟩, L.2⟩
theorem seenX_any (tb mb k : Nat) (id req : Int) (w : World) (h : TbX w tb mb k) (hz : InR id) :
    Calls Try.prog 16 #[.pointer (some ⟨tb, 0, none⟩), .int .i64 id, .int .i64 req] w fun e w' => (∃ x1 x2 x3, e = .returned (.tuple #[.string x1, .bool x2, .int .i64 x3])) ∧ Below w.heap.size w w' := by
  obtain ⟨c, T, h⟩ := h
  refine (seen_any tb mb k c T id req w h hz).mono ?_
  rintro e w' ⟨rfl, L⟩
  exact ⟨⟨_, _, _, rfl⟩, L⟩
/-- A table, and a model of another one. -/
structure TwoX (m : Nat) (w : World) (tb mb k mp cap : Nat) (a : Option Addr) (T : Int → Option Ss) (L : List Me) : Prop where
  table : TbX w tb mb k
  mod : MoW w mp a cap L
  rep : RepS T L
  few : L.length ≤ 16
  small : ∀ x s, T x = some s → SmS s ∧ okN x = true
  ne : tb ≠ mp ∧ mb ≠ mp ∧ ∀ g, a = some ⟨g, 0, none⟩ → tb ≠ g ∧ mb ≠ g
  above : m ≤ tb ∧ m ≤ mb ∧ m ≤ mp ∧ m ≤ w.heap.size ∧ ∀ g, a = some ⟨g, 0, none⟩ → m ≤ g
theorem TwoX.below {m tb mb k mp cap : Nat} {a : Option Addr} {T : Int → Option Ss} {L : List Me} {w w' : World} (h : TwoX m w tb mb k mp cap a T L) (hb : Below w.heap.size w w') : TwoX m w' tb mb k mp cap a T L :=
  ⟨h.table.below hb, h.mod.below hb, h.rep, h.few, h.small, h.ne, h.above.1, h.above.2.1, h.above.2.2.1, Nat.le_trans h.above.2.2.2.1 hb.size, h.above.2.2.2.2⟩
theorem TwoX.mono {m tb mb k k' mp cap : Nat} {a : Option Addr} {T : Int → Option Ss} {L : List Me} {w : World} (h : TwoX m w tb mb k mp cap a T L) (hk : k ≤ k') : TwoX m w tb mb k' mp cap a T L :=
  ⟨h.table.mono hk, h.mod, h.rep, h.few, h.small, h.ne, h.above⟩
/-- What an act leaves; its row is the old one, or new. -/
def DoX (m : Nat) (w w' : World) (tb mb k mp : Nat) (a : Option Addr) : Prop := Below m w w' ∧ Onl w w' mb mp a ∧ ∃ cap a' T L, TwoX m w' tb mb (k + 1) mp cap a' T L ∧ (a' = a ∨ ∀ g, a' = some ⟨g, 0, none⟩ → w.heap.size ≤ g)
set_option maxHeartbeats 4000000 in
theorem sdx_seen (m tb mb k mp cap : Nat) (a : Option Addr) (T : Int → Option Ss) (L : List Me) (q : Sa) (w : World) (h2 : TwoX m w tb mb k mp cap a T L) (hid : InR q.id) (hq : wrap64 ((IntKind.u64.wrap q.k).tmod 5) = 4) :
    Calls Try.prog 12 #[.pointer (some ⟨mp, 0, none⟩), .pointer (some ⟨tb, 0, none⟩), actV q] w fun e w' => (∃ bv, e = .returned (.bool bv)) ∧ DoX m w w' tb mb k mp a := by
  have H2 := Lib.hid h2
  obtain ⟨qk, qi, qr, qa⟩ := q
  simp only at hid hq
  have b1 := (Below.refl w.heap.size w).alloc (Nat.le_refl _) (.cells #[.int .i64 qk, .int .i64 qi, .int .i64 qr, .string qa] 32)
  have N1 := heap_alloc_new w (.cells #[.int .i64 qk, .int .i64 qi, .int .i64 qr, .string qa] 32)
  have hl1000 : L.length ≤ 1000 := by have := h2.few; omega
  have HA := Lib.hid (fun (W : World) (hW : Below w.heap.size w W) => at_any mp cap a L qi W (h2.mod.below hW) hl1000)
  have HST := Lib.hid (fun (W : World) (hW : Below w.heap.size w W) => seenX_any tb mb k qi qr W (h2.table.below hW) hid)
  have HSM := Lib.hid (fun (W : World) (hW : Below w.heap.size w W) => mseen_any mp cap a L T qi qr W (h2.mod.below hW) h2.rep hl1000)
  obtain ⟨ai, hai⟩ : ∃ ai, ai = atI L qi L.length := ⟨_, rfl⟩
  rw [← hai] at HA
  obtain ⟨s1, hs1⟩ : ∃ s1, s1 = (seenS T qi qr).1 := ⟨_, rfl⟩
  obtain ⟨s2, hs2⟩ : ∃ s2, s2 = (seenS T qi qr).2.1 := ⟨_, rfl⟩
  obtain ⟨s3, hs3⟩ : ∃ s3, s3 = (seenS T qi qr).2.2 := ⟨_, rfl⟩
  rw [← hs1, ← hs2, ← hs3] at HSM
  have hm0 := h2.above.2.2.2.1
  clear hai hs1 hs2 hs3 h2
  unfold actV
  go_enter Try.func12, Try.ntmps12
  go_upto_region 1 with fail
  obtain ⟨w1, hw1⟩ : ∃ w1, w1 = w.alloc (.cells #[.int .i64 qk, .int .i64 qi, .int .i64 qr, .string qa] 32) := ⟨_, rfl⟩
  rw [← hw1] at b1 N1 ⊢
  have hlt : w.heap.size < w1.heap.size := (Array.getElem?_eq_some_iff.1 N1).1
  have c1 : w1.cell? ⟨w.heap.size, 1, none⟩ = some (.int .i64 qi) := by simp [World.cell?, N1]
  clear hw1
  go_wp2_with fail
  refine (HA.out _ b1).mono ?_
  rintro e w2 ⟨rfl, b2⟩
  have N2 := (b2.block w.heap.size hlt).trans N1
  replace b2 := b1.trans (b2.mono b1.size)
  clear N1 b1 c1 hlt
  have c0 : w2.cell? ⟨w.heap.size, 0, none⟩ = some (.int .i64 qk) := by simp [World.cell?, N2]
  have c1 : w2.cell? ⟨w.heap.size, 1, none⟩ = some (.int .i64 qi) := by simp [World.cell?, N2]
  have c2 : w2.cell? ⟨w.heap.size, 2, none⟩ = some (.int .i64 qr) := by simp [World.cell?, N2]
  have hlt2 : w.heap.size < w2.heap.size := (Array.getElem?_eq_some_iff.1 N2).1
  have HN2 := Lib.hid N2
  clear N2
  go_wp2_with fail
  refine (HST.out _ b2).mono ?_
  rintro e w3 ⟨⟨x1, x2, x3, rfl⟩, b3⟩
  have N3 := (b3.block w.heap.size hlt2).trans HN2.out
  replace b3 := b2.trans (b3.mono b2.size)
  have d1 : w3.cell? ⟨w.heap.size, 1, none⟩ = some (.int .i64 qi) := by simp [World.cell?, N3]
  have d2 : w3.cell? ⟨w.heap.size, 2, none⟩ = some (.int .i64 qr) := by simp [World.cell?, N3]
  clear N3 b2 c0 c1 c2 hlt2 HN2
  go_wp2_with fail
  refine (HSM.out _ b3).mono ?_
  rintro e w4 ⟨rfl, b4⟩
  replace b4 := b3.trans (b4.mono b3.size)
  cases e1 : (x1.toList == s1.toList)
  · go_wp2_with fail
    go_ret
    exact ⟨⟨_, rfl⟩, b4.mono hm0, .below b4, cap, a, T, L, (H2.out.below b4).mono (Nat.le_succ _), .inl rfl⟩
  · cases e2 : (x2 == s2)
    · go_wp2_with fail
      go_ret
      exact ⟨⟨_, rfl⟩, b4.mono hm0, .below b4, cap, a, T, L, (H2.out.below b4).mono (Nat.le_succ _), .inl rfl⟩
    · go_wp2_with fail
      go_ret
      exact ⟨⟨_, rfl⟩, b4.mono hm0, .below b4, cap, a, T, L, (H2.out.below b4).mono (Nat.le_succ _), .inl rfl⟩
set_option maxHeartbeats 4000000 in
theorem sdx_close (m tb mb k mp cap : Nat) (a : Option Addr) (T : Int → Option Ss) (L : List Me) (q : Sa) (w : World) (h2 : TwoX m w tb mb k mp cap a T L) (hid : InR q.id) (hk : k < 100000) (hq : wrap64 ((IntKind.u64.wrap q.k).tmod 5) = 1) :
    Calls Try.prog 12 #[.pointer (some ⟨mp, 0, none⟩), .pointer (some ⟨tb, 0, none⟩), actV q] w fun e w' => (∃ bv, e = .returned (.bool bv)) ∧ DoX m w w' tb mb k mp a := by
  have H2 := Lib.hid h2
  obtain ⟨qk, qi, qr, qa⟩ := q
  simp only at hid hq
  have b1 := (Below.refl w.heap.size w).alloc (Nat.le_refl _) (.cells #[.int .i64 qk, .int .i64 qi, .int .i64 qr, .string qa] 32)
  have N1 := heap_alloc_new w (.cells #[.int .i64 qk, .int .i64 qi, .int .i64 qr, .string qa] 32)
  have hl1000 : L.length ≤ 1000 := by have := h2.few; omega
  have HA := Lib.hid (fun (W : World) (hW : Below w.heap.size w W) => at_any mp cap a L qi W (h2.mod.below hW) hl1000)
  have hm0 := h2.above.2.2.2.1
  cases hT : T qi with
  | none =>
    rw [h2.rep.at_none hT] at HA
    have hs : (T qi).isSome = false := by rw [hT]; rfl
    have HCL := Lib.hid (fun (W : World) (hW : Below w.heap.size w W) => (closeX_any tb mb k qi W (h2.table.below hW) hid : Calls Try.prog 18 #[.pointer (some ⟨tb, 0, none⟩), .int .i64 qi] W fun e w' => (∃ ev, e = .returned (.int .i64 ev)) ∧ LeftX W tb mb (k + 1) w'))
    clear hT hs h2
    unfold actV
    go_enter Try.func12, Try.ntmps12
    go_upto_region 1 with fail
    obtain ⟨w1, hw1⟩ : ∃ w1, w1 = w.alloc (.cells #[.int .i64 qk, .int .i64 qi, .int .i64 qr, .string qa] 32) := ⟨_, rfl⟩
    rw [← hw1] at b1 N1 ⊢
    have hlt : w.heap.size < w1.heap.size := (Array.getElem?_eq_some_iff.1 N1).1
    have c1 : w1.cell? ⟨w.heap.size, 1, none⟩ = some (.int .i64 qi) := by simp [World.cell?, N1]
    clear hw1
    go_wp2_with fail
    refine (HA.out _ b1).mono ?_
    rintro e w2 ⟨rfl, b2⟩
    have N2 := (b2.block w.heap.size hlt).trans N1
    replace b2 := b1.trans (b2.mono b1.size)
    clear N1 b1 c1 hlt
    have c0 : w2.cell? ⟨w.heap.size, 0, none⟩ = some (.int .i64 qk) := by simp [World.cell?, N2]
    have c1 : w2.cell? ⟨w.heap.size, 1, none⟩ = some (.int .i64 qi) := by simp [World.cell?, N2]
    have c2 : w2.cell? ⟨w.heap.size, 2, none⟩ = some (.int .i64 qr) := by simp [World.cell?, N2]
    have c3 : w2.cell? ⟨w.heap.size, 3, none⟩ = some (.string qa) := by simp [World.cell?, N2]
    have hlt2 : w.heap.size < w2.heap.size := (Array.getElem?_eq_some_iff.1 N2).1
    have HN2 := Lib.hid N2
    clear N2
    go_wp2_with fail
    refine (HCL.out _ b2).mono ?_
    rintro e w3 ⟨⟨ev, rfl⟩, L3⟩
    have M3 := (H2.out.mod.below b2).left L3.2 H2.out.ne.2.1 (fun g hg => (H2.out.ne.2.2 g hg).2)
    have b3 := (b2.mono hm0).trans (leftX_below L3 H2.out.above.2.1 (Nat.le_trans hm0 b2.size))
    go_wp2_with fail
    go_ret
    exact ⟨⟨_, rfl⟩, b3, (Onl.below b2).left b2.size L3.2, cap, a, T, L, ⟨L3.1, M3, H2.out.rep, H2.out.few, H2.out.small, H2.out.ne, H2.out.above.1, H2.out.above.2.1, H2.out.above.2.2.1, Nat.le_trans hm0 (by have := b2.size; have := L3.2.size; omega), H2.out.above.2.2.2.2⟩, .inl rfl⟩
  | some s =>
    obtain ⟨q, hqa, hLq⟩ := h2.rep.at_some hT
    rw [hqa] at HA
    have hql : q < L.length := (List.getElem?_eq_some_iff.1 hLq).1
    have hs : (T qi).isSome = true := by rw [hT]; rfl
    have HCL := Lib.hid (fun (W : World) (hW : TbX W tb mb k) => (closeX_any tb mb k qi W hW hid : Calls Try.prog 18 #[.pointer (some ⟨tb, 0, none⟩), .int .i64 qi] W fun e w' => (∃ ev, e = .returned (.int .i64 ev)) ∧ LeftX W tb mb (k + 1) w'))
    obtain ⟨g, hg⟩ : ∃ g, a = some ⟨g, 0, none⟩ := by
      rcases h2.mod.form with ⟨_, h0, _⟩ | h0
      · rw [h0] at hql; simp at hql
      · exact h0
    subst hg
    have HR8 := Lib.hid (h2.rep.del hLq)
    have HM := Lib.hid h2.mod
    have q0 : (0 : Int) ≤ (q : Int) := by omega
    have qn : decide ((q : Int) < 0) = false := by simp
    clear hT hs h2 hqa hLq
    unfold actV
    go_enter Try.func12, Try.ntmps12
    go_upto_region 1 with fail
    obtain ⟨w1, hw1⟩ : ∃ w1, w1 = w.alloc (.cells #[.int .i64 qk, .int .i64 qi, .int .i64 qr, .string qa] 32) := ⟨_, rfl⟩
    rw [← hw1] at b1 N1 ⊢
    have hlt : w.heap.size < w1.heap.size := (Array.getElem?_eq_some_iff.1 N1).1
    have c1 : w1.cell? ⟨w.heap.size, 1, none⟩ = some (.int .i64 qi) := by simp [World.cell?, N1]
    clear hw1
    go_wp2_with fail
    refine (HA.out _ b1).mono ?_
    rintro e w2 ⟨rfl, b2⟩
    have N2 := (b2.block w.heap.size hlt).trans N1
    replace b2 := b1.trans (b2.mono b1.size)
    clear N1 b1 c1 hlt
    have c0 : w2.cell? ⟨w.heap.size, 0, none⟩ = some (.int .i64 qk) := by simp [World.cell?, N2]
    have c1 : w2.cell? ⟨w.heap.size, 1, none⟩ = some (.int .i64 qi) := by simp [World.cell?, N2]
    have c2 : w2.cell? ⟨w.heap.size, 2, none⟩ = some (.int .i64 qr) := by simp [World.cell?, N2]
    have c3 : w2.cell? ⟨w.heap.size, 3, none⟩ = some (.string qa) := by simp [World.cell?, N2]
    have hlt2 : w.heap.size < w2.heap.size := (Array.getElem?_eq_some_iff.1 N2).1
    have HN2 := Lib.hid N2
    clear N2
    go_upto_region 20 with fail
    obtain ⟨wd, hwd⟩ : ∃ wd, wd = w2 := ⟨_, rfl⟩
    subst hwd
    obtain ⟨L1, hL1⟩ : ∃ L1, L1 = L := ⟨_, rfl⟩
    subst hL1
    have HDR : Hid (∀ W : World, Below wd.drew.heap.size wd.drew W → Below w.heap.size w W) := Lib.hid fun W hW => b2.trans (((Below.refl _ wd).drew.trans (hW.mono (Nat.le_refl _))).mono b2.size)
    have HCE : Hid (∀ W : World, Below wd.drew.heap.size wd.drew W → W.cell? ⟨mp, 0, none⟩ = some (.slice (some ⟨g, 0, none⟩) L1.length cap) ∧ W.frozen? ⟨mp, 0, none⟩ = false) := Lib.hid fun W hW => ⟨(HM.out.below (HDR.out W hW)).cell, (HM.out.below (HDR.out W hW)).frz⟩
    obtain ⟨hc1, hc2⟩ := HM.out.cap_le
    have HQ : Hid (q ≤ L1.length) := Lib.hid (by omega)
    have HQL : Hid (q < L1.length) := Lib.hid hql
    have HNL : Hid (L1.length ≤ cap ∧ L1.length ≤ 1000) := Lib.hid ⟨hc1, hl1000⟩
    have HLT : Hid ((meCells (L1.take q)).length = q * 3) := Lib.hid (by rw [meCells_len, List.length_take, Nat.min_eq_left (by omega)])
    have HLD : Hid ((meCells (L1.drop (q + 1))).length = (L1.length - (q + 1)) * 3) := Lib.hid (by rw [meCells_len, List.length_drop])
    have HLE : Hid (q + (L1.length - (q + 1)) = L1.length - 1) := Lib.hid (by omega)
    have HQW : Hid (IntKind.i64.wrap ((q : Int) + 1) = (q : Int) + 1) := Lib.hid (IntWalk.i64_in _ (by have := HNL.out; omega))
    obtain ⟨ad, cc, hsl, hadd⟩ := run_tailE w g L1.length cap (q + 1) (by omega) ⟨hc1, by have := HNL.out; omega⟩
    have HSL : Hid (∀ W : World, (Instr.sliceAt 28 (.slice (some ⟨g, 0, none⟩) L1.length cap) (some (.int .i64 ((q : Int) + 1))) none none).run Try.prog W = .ok (.slice (some ad) (L1.length - (q + 1)) cc) W) := Lib.hid (fun W => by have := hsl W; rw [show (((q + 1 : Nat) : Int)) = (q : Int) + 1 by omega] at this; exact this)
    have HOL : Hid (∀ W : World, Below wd.drew.heap.size wd.drew W → ∀ j u, (meCells (L1.take q))[j]? = some u → W.cell? ((⟨g, 0, none⟩ : Addr).add j) = some u) := Lib.hid fun W hW j u hu => by
      have h1 := meCells_take L1 q j u hu
      have hlt := (List.getElem?_eq_some_iff.1 h1).1
      rw [meCells_len] at hlt
      rw [show (⟨g, 0, none⟩ : Addr).add j = ⟨g, j, none⟩ by rw [Addr.add_lit, Nat.zero_add], (HM.out.below (HDR.out W hW)).row.cellAt j hlt, h1]
    have HOD : Hid (∀ W : World, Below wd.drew.heap.size wd.drew W → ∀ j u, (meCells (L1.drop (q + 1)))[j]? = some u → W.cell? (ad.add j) = some u) := Lib.hid fun W hW j u hu => by
      rcases hadd with rfl | h0
      · rw [meCells_drop] at hu
        have hlt := (List.getElem?_eq_some_iff.1 hu).1
        rw [meCells_len] at hlt
        rw [show (⟨g, (q + 1) * 3, none⟩ : Addr).add j = ⟨g, (q + 1) * 3 + j, none⟩ by simp [Addr.add], (HM.out.below (HDR.out W hW)).row.cellAt ((q + 1) * 3 + j) hlt, hu]
      · have hlt := (List.getElem?_eq_some_iff.1 hu).1
        rw [HLD.out, h0] at hlt; omega
    clear hsl hadd hc1 hc2 c0 c2 c3
    go_cut [7] (fun p wx => p = .int .i64 (q : Int) ∧ ∃ w9 v9, Below wd.drew.heap.size wd.drew w9 ∧ w9.ownsRow wd.drew.heap.size 48 3 v9 (L1.length - 1) (meCells (L1.take q ++ L1.drop (q + 1))) ∧ wx = w9.setCell ⟨mp, 0, none⟩ v9)
    case first =>
      refine wp_region_inv_last 19 (IFJ (FDl mp g L1.length cap q ad cc) (JDl wd.drew L1 q)) (by kernel_rfl) (by kernel_rfl) (by kernel_rfl) (by kernel_rfl) (by kernel_rfl) ?_ ?_ ?_
      · intro x
        exact ⟨fun j hj => (by cases hj), Below.refl _ _, (by simp), (by simp), (by simp)⟩
      · intro j o hi ho b x w1 hI hbi hW
        have hF : ∀ k, Region.waitsFor .any _ j k = true → FDl mp g L1.length cap q ad cc k (x k) := fun k hk => hI.1 k (hW k hk)
        match j, ho with
        | 0, ho =>
          obtain rfl := Option.some.inj ho
          exact gstep_move rfl (wanted0 rfl) _ rfl _ (eval_of 0 _ (by kernel_rfl) rfl) ⟨_, rfl, IFJ.step hI rfl (JDl.pure hI.2 (by decide))⟩
        | 1, ho =>
          obtain rfl := Option.some.inj ho
          exact gstep_rowN rfl (wanted0 rfl) _ rfl _ _ (run_rowE w1) ⟨_, rfl, IFJ.step hI trivial (JDl.one hI.2 hbi)⟩
        | 2, ho =>
          obtain rfl := Option.some.inj ho
          exact gstep_move rfl (wanted0 rfl) _ rfl _ (eval_of 0 _ (by kernel_rfl) rfl) ⟨_, rfl, IFJ.step hI rfl (JDl.pure hI.2 (by decide))⟩
        | 3, ho =>
          obtain rfl := Option.some.inj ho
          exact gstep_nil rfl (wanted0 rfl) _ rfl _ (eval_at 114 2 _ (by kernel_rfl) (show 114 < 220 by decide) (hF 2 (by kernel_rfl))) ⟨_, rfl, IFJ.step hI rfl (JDl.pure hI.2 (by decide))⟩
        | 4, ho =>
          obtain rfl := Option.some.inj ho
          exact gstep_field rfl (wanted0 rfl) _ _ _ rfl _ (eval_at 115 3 _ (by kernel_rfl) (show 115 < 220 by decide) (hF 3 (by kernel_rfl))) _ (run_mdf w1 _) ⟨_, rfl, IFJ.step hI rfl (JDl.pure hI.2 (by decide))⟩
        | 5, ho =>
          obtain rfl := Option.some.inj ho
          exact gstep_load rfl (wanted0 rfl) _ _ rfl _ (eval_at 116 4 _ (by kernel_rfl) (show 116 < 220 by decide) (hF 4 (by kernel_rfl))) _ (run_loadMs w1 _ _ _ _ (HCE.out w1 hI.2.1).1) ⟨_, rfl, IFJ.step hI rfl (JDl.pure hI.2 (by decide))⟩
        | 6, ho =>
          obtain rfl := Option.some.inj ho
          exact gstep_move rfl (wanted0 rfl) _ rfl _ (eval_of 7 _ (by kernel_rfl) rfl) ⟨_, rfl, IFJ.step hI rfl (JDl.pure hI.2 (by decide))⟩
        | 7, ho =>
          obtain rfl := Option.some.inj ho
          exact gstep_slice1 rfl (wanted0 rfl) _ _ _ rfl _ _ (eval_at 117 5 _ (by kernel_rfl) (show 117 < 220 by decide) (hF 5 (by kernel_rfl))) (eval_at 118 6 _ (by kernel_rfl) (show 118 < 220 by decide) (hF 6 (by kernel_rfl))) _ (run_cutE w1 _ _ _ _ HQ.out HNL.out) ⟨_, rfl, IFJ.step hI rfl (JDl.pure hI.2 (by decide))⟩
        | 8, ho =>
          obtain rfl := Option.some.inj ho
          obtain ⟨i1, hi1, hz1, hz2, hz3⟩ := info_parts info_me
          have hb1 : b 1 = true := hW 1 (by kernel_rfl)
          have hown := JDl.at1 hI.2 hb1 hbi
          refine gstep_append rfl (wanted0 rfl) _ _ _ rfl wd.drew.heap.size 48 i1 _ 3 32 und_mes hi1 hz1 hz2 hz3 rfl (by decide) _ 0 [] (eval_at 113 1 _ (by kernel_rfl) (show 113 < 220 by decide) rfl) hown ⟨g, 0, none⟩ q cap (meCells (L1.take q)) (eval_at 119 7 _ (by kernel_rfl) (show 119 < 220 by decide) (hF 7 (by kernel_rfl))) HLT.out (fun j u hu => HOL.out w1 hI.2.1 j u hu) (meCells_one _) (by have := HQ.out; have := HNL.out; unfold maxLen; omega) (by have := HQ.out; have := HNL.out; omega) hI.2.1.size ?_
          intro v' w' ho hg
          exact ⟨_, rfl, IFJ.step hI trivial (JDl.two hI.2 hb1 hbi hown ho hg)⟩
        | 9, ho =>
          obtain rfl := Option.some.inj ho
          exact gstep_move rfl (wanted0 rfl) _ rfl _ (eval_of 0 _ (by kernel_rfl) rfl) ⟨_, rfl, IFJ.step hI rfl (JDl.pure hI.2 (by decide))⟩
        | 10, ho =>
          obtain rfl := Option.some.inj ho
          exact gstep_nil rfl (wanted0 rfl) _ rfl _ (eval_at 121 9 _ (by kernel_rfl) (show 121 < 220 by decide) (hF 9 (by kernel_rfl))) ⟨_, rfl, IFJ.step hI rfl (JDl.pure hI.2 (by decide))⟩
        | 11, ho =>
          obtain rfl := Option.some.inj ho
          exact gstep_field rfl (wanted0 rfl) _ _ _ rfl _ (eval_at 122 10 _ (by kernel_rfl) (show 122 < 220 by decide) (hF 10 (by kernel_rfl))) _ (run_mdf w1 _) ⟨_, rfl, IFJ.step hI rfl (JDl.pure hI.2 (by decide))⟩
        | 12, ho =>
          obtain rfl := Option.some.inj ho
          exact gstep_load rfl (wanted0 rfl) _ _ rfl _ (eval_at 123 11 _ (by kernel_rfl) (show 123 < 220 by decide) (hF 11 (by kernel_rfl))) _ (run_loadMs w1 _ _ _ _ (HCE.out w1 hI.2.1).1) ⟨_, rfl, IFJ.step hI rfl (JDl.pure hI.2 (by decide))⟩
        | 13, ho =>
          obtain rfl := Option.some.inj ho
          exact gstep_move rfl (wanted0 rfl) _ rfl _ (eval_of 7 _ (by kernel_rfl) rfl) ⟨_, rfl, IFJ.step hI rfl (JDl.pure hI.2 (by decide))⟩
        | 14, ho =>
          obtain rfl := Option.some.inj ho
          exact gstep_bin rfl (wanted0 rfl) _ _ _ _ _ rfl _ _ (eval_at 125 13 _ (by kernel_rfl) (show 125 < 220 by decide) (hF 13 (by kernel_rfl))) rfl _ (run_addI w1 _ _ _ HQW.out _ _) ⟨_, rfl, IFJ.step hI rfl (JDl.pure hI.2 (by decide))⟩
        | 15, ho =>
          obtain rfl := Option.some.inj ho
          exact gstep_slice2 rfl (wanted0 rfl) _ _ _ rfl _ _ (eval_at 124 12 _ (by kernel_rfl) (show 124 < 220 by decide) (hF 12 (by kernel_rfl))) (eval_at 126 14 _ (by kernel_rfl) (show 126 < 220 by decide) (hF 14 (by kernel_rfl))) _ (HSL.out w1) ⟨_, rfl, IFJ.step hI rfl (JDl.pure hI.2 (by decide))⟩
        | 16, ho =>
          obtain rfl := Option.some.inj ho
          obtain ⟨i1, hi1, hz1, hz2, hz3⟩ := info_parts info_me
          have hb8 : b 8 = true := hW 8 (by kernel_rfl)
          have hown := JDl.at8 hI.2 hb8 hbi
          refine gstep_append rfl (wanted0 rfl) _ _ _ rfl wd.drew.heap.size 48 i1 _ 3 32 und_mes hi1 hz1 hz2 hz3 rfl (by decide) _ q (meCells (L1.take q)) (eval_at 120 8 _ (by kernel_rfl) (show 120 < 220 by decide) rfl) hown ad (L1.length - (q + 1)) cc (meCells (L1.drop (q + 1))) (eval_at 127 15 _ (by kernel_rfl) (show 127 < 220 by decide) (hF 15 (by kernel_rfl))) HLD.out (fun j u hu => HOD.out w1 hI.2.1 j u hu) (meCells_one _) (by have := HQ.out; have := HNL.out; unfold maxLen; omega) (by have := HQ.out; have := HNL.out; omega) hI.2.1.size ?_
          intro v' w' ho hg
          exact ⟨_, rfl, IFJ.step hI trivial (JDl.three hI.2 hb8 hbi hown (HLE.out ▸ ho) hg)⟩
        | 17, ho =>
          obtain rfl := Option.some.inj ho
          exact gstep_nil rfl (wanted0 rfl) _ rfl _ (eval_at 112 0 _ (by kernel_rfl) (show 112 < 220 by decide) (hF 0 (by kernel_rfl))) ⟨_, rfl, IFJ.step hI rfl (JDl.pure hI.2 (by decide))⟩
        | 18, ho =>
          obtain rfl := Option.some.inj ho
          exact gstep_field rfl (wanted0 rfl) _ _ _ rfl _ (eval_at 129 17 _ (by kernel_rfl) (show 129 < 220 by decide) (hF 17 (by kernel_rfl))) _ (run_mdf w1 _) ⟨_, rfl, IFJ.step hI rfl (JDl.pure hI.2 (by decide))⟩
        | n + 19, ho => omega
      · intro o ho b x w1 hI hA
        obtain rfl := Option.some.inj ho
        have hF : ∀ k, k < 19 → FDl mp g L1.length cap q ad cc k (x k) := fun k hk => hI.1 k (hA k hk)
        have hrow := JDl.at16 hI.2 (hA 16 (by decide))
        obtain ⟨a9, c9, hx16, _⟩ := row_form hrow
        rw [hx16] at hrow
        refine gstep_store rfl (wanted0 rfl) _ _ _ rfl _ _ (eval_at 130 18 _ (by kernel_rfl) (show 130 < 220 by decide) (hF 18 (by decide))) (eval_at 128 16 _ (by kernel_rfl) (show 128 < 220 by decide) hx16) _ (run_storeMs w1 _ _ _ _ _ (HCE.out w1 hI.2.1).1 (HCE.out w1 hI.2.1).2) ?_
        simp only [putAll, Act.put, List.setIfInBounds_toArray, List.set_cons_succ, List.set_cons_zero]
        go_wp2_with fail
        go_meet
        exact ⟨rfl, w1, _, hI.2.1, hrow, rfl⟩
    case rest =>
      obtain ⟨rfl, w9, v9, b9, hrow, rfl⟩ := hcut
      have b9' := HDR.out _ b9
      have hlen : (L1.take q ++ L1.drop (q + 1)).length = L1.length - 1 := by
        have := HQL.out
        rw [List.length_append, List.length_take, List.length_drop, Nat.min_eq_left (by omega)]; omega
      have M9 := HM.out.below b9'
      have hmpw : mp < wd.heap.size := Nat.lt_of_lt_of_le HM.out.ltm b2.size
      have hform : ∃ a9 c9, v9 = .slice a9 (L1.length - 1) c9 ∧ ((a9 = none ∧ L1.take q ++ L1.drop (q + 1) = [] ∧ c9 = 0) ∨ ∃ g9, a9 = some ⟨g9, 0, none⟩) ∧ ∀ g9, a9 = some ⟨g9, 0, none⟩ → wd.heap.size ≤ g9 := by
        rcases hrow.2 with ⟨h1, h2⟩ | ⟨g9, c9, cur, h1, h3, _⟩
        · exact ⟨none, 0, by rw [h1, h2], .inl ⟨rfl, List.eq_nil_of_length_eq_zero (by omega), rfl⟩, fun g9 h => (by cases h)⟩
        · exact ⟨_, c9, h1, .inr ⟨g9, rfl⟩, fun g' h => (by injection h with h; injection h with h _ _; rw [← h]; exact h3)⟩
      obtain ⟨a9, c9, rfl, hf9, hg9⟩ := hform
      have TB9 : TbX (w9.setCell ⟨mp, 0, none⟩ (.slice a9 (L1.length - 1) c9)) tb mb k := by
        have hT9 := H2.out.table.below b9'
        exact hT9.keep (Below.heap_setCell w9 ⟨mp, 0, none⟩ _ tb H2.out.ne.1) (Below.heap_setCell w9 ⟨mp, 0, none⟩ _ mb H2.out.ne.2.1)
      have MO9 : MoW (w9.setCell ⟨mp, 0, none⟩ (.slice a9 (L1.length - 1) c9)) mp a9 c9 (L1.take q ++ L1.drop (q + 1)) := by
        rw [← hlen] at hrow ⊢
        refine ⟨?_, (ownsRow_less hrow (Nat.zero_le _)).kept (row := some mp) ⟨rfl, rfl, rfl, by simp, fun k _ hk => heap_setCell_other w9 ⟨mp, 0, none⟩ k _ (fun e => hk (by simp [e]))⟩ ?_, hf9⟩
        · have := bset (i := 0) (u := .slice a9 (L1.take q ++ L1.drop (q + 1)).length c9) M9.box
          simpa using this
        · rcases hf9 with ⟨rfl, _, _⟩ | ⟨g9, rfl⟩
          · exact .inl rfl
          · have := hg9 g9 rfl
            exact .inr (by simp [Value.ownBlock]; omega)
      have N9 := (b9.block w.heap.size (by exact hlt2)).trans (show wd.drew.heap[w.heap.size]? = _ from HN2.out)
      have hwm : w.heap.size ≠ mp := by have := HM.out.ltm; omega
      have c1' : (w9.setCell ⟨mp, 0, none⟩ (.slice a9 (L1.length - 1) c9)).cell? ⟨w.heap.size, 1, none⟩ = some (.int .i64 qi) := by
        have h5 : (w9.setCell ⟨mp, 0, none⟩ (.slice a9 (L1.length - 1) c9)).heap[w.heap.size]? = _ := (Below.heap_setCell w9 ⟨mp, 0, none⟩ _ w.heap.size hwm).trans N9
        simp [World.cell?, h5]
      have bx : Below m w (w9.setCell ⟨mp, 0, none⟩ (.slice a9 (L1.length - 1) c9)) := (b9'.mono hm0).setCell (p := ⟨mp, 0, none⟩) H2.out.above.2.2.1 _
      have ox : Onl w (w9.setCell ⟨mp, 0, none⟩ (.slice a9 (L1.length - 1) c9)) mb mp (some ⟨g, 0, none⟩) := (Onl.below b9').box _
      have hmbs : mb < wd.heap.size := Nat.lt_of_lt_of_le H2.out.table.mlt b2.size
      have htbs : tb < wd.heap.size := Nat.lt_of_lt_of_le H2.out.table.lt b2.size
      have hwds : m ≤ wd.heap.size := Nat.le_trans hm0 b2.size
      obtain ⟨wx, hwx⟩ : ∃ wx, wx = w9.setCell ⟨mp, 0, none⟩ (.slice a9 (L1.length - 1) c9) := ⟨_, rfl⟩
      rw [← hwx] at TB9 MO9 c1' bx ox ⊢
      have HMO := Lib.hid MO9
      have HG9 := Lib.hid hg9
      clear hwx hrow M9 b9 b9' N9 c1 MO9 hg9 hf9
      go_wp2_with fail
      refine (HCL.out _ TB9).mono ?_
      rintro e w10 ⟨⟨ev, rfl⟩, L10⟩
      have M10 := HMO.out.left L10.2 H2.out.ne.2.1 (fun g9 h => by have := HG9.out g9 h; omega)
      have b10 := bx.trans (leftX_below L10 H2.out.above.2.1 (by have := bx.size; exact Nat.le_trans hm0 this))
      go_wp2_with fail
      go_ret
      refine ⟨⟨_, rfl⟩, b10, ox.left bx.size L10.2, c9, a9, _, _, ⟨L10.1, M10, HR8.out, by rw [hlen]; have := H2.out.few; omega, fun x s hx => ?_, ⟨H2.out.ne.1, H2.out.ne.2.1, fun g9 h => ?_⟩, H2.out.above.1, H2.out.above.2.1, H2.out.above.2.2.1, ?_, fun g9 h => ?_⟩, .inr (fun g9 h => ?_)⟩
      · by_cases e : x = qi
        · rw [e, updS_same] at hx; cases hx
        · rw [updS_other e] at hx; exact H2.out.small x s hx
      · have := HG9.out g9 h; omega
      · exact Nat.le_trans hm0 b10.size
      · have := HG9.out g9 h; omega
      · have := HG9.out g9 h; have := b2.size; omega
set_option maxHeartbeats 8000000 in
theorem sdx_keep (m tb mb k mp cap : Nat) (a : Option Addr) (T : Int → Option Ss) (L : List Me) (q : Sa) (qv : Int) (w : World) (h2 : TwoX m w tb mb k mp cap a T L) (hid : InR q.id) (hrq : InR q.req) (hqa : q.ans.size ≤ 1000) (hk : k < 100000) (hq : wrap64 ((IntKind.u64.wrap q.k).tmod 5) = qv) (hq23 : qv = 2 ∨ qv = 3) :
    Calls Try.prog 12 #[.pointer (some ⟨mp, 0, none⟩), .pointer (some ⟨tb, 0, none⟩), actV q] w fun e w' => (∃ bv, e = .returned (.bool bv)) ∧ DoX m w w' tb mb k mp a := by
  have H2 := Lib.hid h2
  obtain ⟨qk, qi, qr, qa⟩ := q
  simp only at hid hq hrq hqa
  have b1 := (Below.refl w.heap.size w).alloc (Nat.le_refl _) (.cells #[.int .i64 qk, .int .i64 qi, .int .i64 qr, .string qa] 32)
  have N1 := heap_alloc_new w (.cells #[.int .i64 qk, .int .i64 qi, .int .i64 qr, .string qa] 32)
  have hl1000 : L.length ≤ 1000 := by have := h2.few; omega
  have HA := Lib.hid (fun (W : World) (hW : Below w.heap.size w W) => at_any mp cap a L qi W (h2.mod.below hW) hl1000)
  have hm0 := h2.above.2.2.2.1
  have HSM := Lib.hid (fun (W : World) (hW : Below w.heap.size w W) => mseen_any mp cap a L T qi qr W (h2.mod.below hW) h2.rep hl1000)
  obtain ⟨ai, hai⟩ : ∃ ai, ai = atI L qi L.length := ⟨_, rfl⟩
  rw [← hai] at HA
  obtain ⟨er, her⟩ : ∃ er, er = (seenS T qi qr).2.2 := ⟨_, rfl⟩
  obtain ⟨sn, hsn⟩ : ∃ sn, sn = (seenS T qi qr).2.1 := ⟨_, rfl⟩
  obtain ⟨tx, htx⟩ : ∃ tx, tx = (seenS T qi qr).1 := ⟨_, rfl⟩
  rw [← her, ← hsn, ← htx] at HSM
  by_cases h0 : er = 0
  · have hsome : (T qi).isSome = true := seen_ok (her.symm.trans h0)
    cases hs : sn
    · by_cases h4 : 400 < qa.size
      · have hE : keepE T qi qr qa = 3 := by unfold keepE; rw [if_neg (by rw [← her]; exact fun e => e h0), ← hsn, hs, if_neg (by decide), if_pos h4]
        have hTT : keepT T qi qr qa = T := by unfold keepT; rw [hE, if_neg (by decide)]
        have d4 : decide ((400 : Int) < (qa.size : Int)) = true := by simp; omega
        subst h0 hs
        have HKP := Lib.hid (fun (W : World) (hW : Below w.heap.size w W) => (keepX_any tb mb k qi qr qa W (h2.table.below hW) hid (by omega) (by omega) : Calls Try.prog 19 #[.pointer (some ⟨tb, 0, none⟩), .int .i64 qi, .int .i64 qr, .string qa] W fun e w' => (∃ ev, e = .returned (.int .i64 ev)) ∧ LeftX W tb mb (k + 1) w'))

        clear hE hTT h2 her hsn htx hsome h4 hai
        rcases hq23 with rfl | rfl
        all_goals
          unfold actV
          go_enter Try.func12, Try.ntmps12
          go_upto_region 1 with fail
          obtain ⟨w1, hw1⟩ : ∃ w1, w1 = w.alloc (.cells #[.int .i64 qk, .int .i64 qi, .int .i64 qr, .string qa] 32) := ⟨_, rfl⟩
          rw [← hw1] at b1 N1 ⊢
          have hlt : w.heap.size < w1.heap.size := (Array.getElem?_eq_some_iff.1 N1).1
          have c1 : w1.cell? ⟨w.heap.size, 1, none⟩ = some (.int .i64 qi) := by simp [World.cell?, N1]
          clear hw1
          go_wp2_with fail
          refine (HA.out _ b1).mono ?_
          rintro e w2 ⟨rfl, b2⟩
          have N2 := (b2.block w.heap.size hlt).trans N1
          replace b2 := b1.trans (b2.mono b1.size)
          clear N1 b1 c1 hlt
          have c0 : w2.cell? ⟨w.heap.size, 0, none⟩ = some (.int .i64 qk) := by simp [World.cell?, N2]
          have c1 : w2.cell? ⟨w.heap.size, 1, none⟩ = some (.int .i64 qi) := by simp [World.cell?, N2]
          have c2 : w2.cell? ⟨w.heap.size, 2, none⟩ = some (.int .i64 qr) := by simp [World.cell?, N2]
          have c3 : w2.cell? ⟨w.heap.size, 3, none⟩ = some (.string qa) := by simp [World.cell?, N2]
          have hlt2 : w.heap.size < w2.heap.size := (Array.getElem?_eq_some_iff.1 N2).1
          have HN2 := Lib.hid N2
          clear N2
          go_wp2_with fail
          refine (HSM.out _ b2).mono ?_
          rintro e w3 ⟨rfl, b3⟩
          have N3 := (b3.block w.heap.size hlt2).trans HN2.out
          replace b3 := b2.trans (b3.mono b2.size)
          have d1 : w3.cell? ⟨w.heap.size, 1, none⟩ = some (.int .i64 qi) := by simp [World.cell?, N3]
          have d2 : w3.cell? ⟨w.heap.size, 2, none⟩ = some (.int .i64 qr) := by simp [World.cell?, N3]
          have d3 : w3.cell? ⟨w.heap.size, 3, none⟩ = some (.string qa) := by simp [World.cell?, N3]
          clear N3 b2 c0 c1 c2 c3 hlt2 HN2
          go_wp2_with fail
          refine (HKP.out _ b3).mono ?_
          rintro e w4 ⟨⟨ev, rfl⟩, L4⟩
          have M4 := (H2.out.mod.below b3).left L4.2 H2.out.ne.2.1 (fun g hg => (H2.out.ne.2.2 g hg).2)
          have b4 := (b3.mono hm0).trans (leftX_below L4 H2.out.above.2.1 (Nat.le_trans hm0 b3.size))
          go_wp2_with fail
          go_ret
          exact ⟨⟨_, rfl⟩, b4, (Onl.below b3).left b3.size L4.2, cap, a, T, L, ⟨L4.1, M4, H2.out.rep, H2.out.few, H2.out.small, H2.out.ne, H2.out.above.1, H2.out.above.2.1, H2.out.above.2.2.1, Nat.le_trans hm0 (by have := b3.size; have := L4.2.size; omega), H2.out.above.2.2.2.2⟩, .inl rfl⟩
      · have hE : keepE T qi qr qa = 0 := by unfold keepE; rw [if_neg (by rw [← her]; exact fun e => e h0), ← hsn, hs, if_neg (by decide), if_neg h4]
        have hTT : keepT T qi qr qa = updS T qi (some ⟨qr, qa⟩) := by unfold keepT; rw [hE, if_pos rfl]
        have d4 : decide ((400 : Int) < (qa.size : Int)) = false := by simp; omega
        obtain ⟨s, hTs⟩ := Option.isSome_iff_exists.1 hsome
        obtain ⟨i, hi, hLi⟩ := h2.rep.at_some hTs
        rw [hi] at hai
        subst hai
        have hil : i < L.length := (List.getElem?_eq_some_iff.1 hLi).1
        obtain ⟨g, hg⟩ : ∃ g, a = some ⟨g, 0, none⟩ := by
          rcases h2.mod.form with ⟨_, h0, _⟩ | h0
          · rw [h0] at hil; simp at hil
          · exact h0
        subst hg
        have HKP := Lib.hid (fun (W : World) (hW : TbX W tb mb k) => (keepX_any tb mb k qi qr qa W hW hid (by omega) (by omega) : Calls Try.prog 19 #[.pointer (some ⟨tb, 0, none⟩), .int .i64 qi, .int .i64 qr, .string qa] W fun e w' => (∃ ev, e = .returned (.int .i64 ev)) ∧ LeftX W tb mb (k + 1) w'))
        have HIL := Lib.hid hil
        have HLI := Lib.hid hLi
        have HRS := Lib.hid (h2.rep.set hLi ⟨qr, qa⟩)
        have hcap := h2.mod.cap_le
        have HNL : Hid (L.length ≤ cap ∧ L.length ≤ 1000) := Lib.hid ⟨hcap.1, hl1000⟩
        have HH4 := Lib.hid h4
        have HOQ := Lib.hid (h2.small qi s hTs).2
        have HOK := Lib.hid (seen_okN (her.symm.trans h0))
        have i0 : (0 : Int) ≤ (i : Int) := by omega
        have hgw : g < w.heap.size := h2.mod.ltg rfl
        subst h0 hs
        clear hE hTT h2 her hsn htx hsome h4 hi hLi hTs hcap hil
        rcases hq23 with rfl | rfl
        all_goals
          unfold actV
          go_enter Try.func12, Try.ntmps12
          go_upto_region 1 with fail
          obtain ⟨w1, hw1⟩ : ∃ w1, w1 = w.alloc (.cells #[.int .i64 qk, .int .i64 qi, .int .i64 qr, .string qa] 32) := ⟨_, rfl⟩
          rw [← hw1] at b1 N1 ⊢
          have hlt : w.heap.size < w1.heap.size := (Array.getElem?_eq_some_iff.1 N1).1
          have c1 : w1.cell? ⟨w.heap.size, 1, none⟩ = some (.int .i64 qi) := by simp [World.cell?, N1]
          clear hw1
          go_wp2_with fail
          refine (HA.out _ b1).mono ?_
          rintro e w2 ⟨rfl, b2⟩
          have N2 := (b2.block w.heap.size hlt).trans N1
          replace b2 := b1.trans (b2.mono b1.size)
          clear N1 b1 c1 hlt
          have c0 : w2.cell? ⟨w.heap.size, 0, none⟩ = some (.int .i64 qk) := by simp [World.cell?, N2]
          have c1 : w2.cell? ⟨w.heap.size, 1, none⟩ = some (.int .i64 qi) := by simp [World.cell?, N2]
          have c2 : w2.cell? ⟨w.heap.size, 2, none⟩ = some (.int .i64 qr) := by simp [World.cell?, N2]
          have c3 : w2.cell? ⟨w.heap.size, 3, none⟩ = some (.string qa) := by simp [World.cell?, N2]
          have hlt2 : w.heap.size < w2.heap.size := (Array.getElem?_eq_some_iff.1 N2).1
          have HN2 := Lib.hid N2
          clear N2
          go_wp2_with fail
          refine (HSM.out _ b2).mono ?_
          rintro e w3 ⟨rfl, b3⟩
          have N3 := (b3.block w.heap.size hlt2).trans HN2.out
          replace b3 := b2.trans (b3.mono b2.size)
          have d1 : w3.cell? ⟨w.heap.size, 1, none⟩ = some (.int .i64 qi) := by simp [World.cell?, N3]
          have d2 : w3.cell? ⟨w.heap.size, 2, none⟩ = some (.int .i64 qr) := by simp [World.cell?, N3]
          have d3 : w3.cell? ⟨w.heap.size, 3, none⟩ = some (.string qa) := by simp [World.cell?, N3]
          have hlt3 : w.heap.size < w3.heap.size := (Array.getElem?_eq_some_iff.1 N3).1
          have HN3 := Lib.hid N3
          have M3 := H2.out.mod.below b3
          clear N3 b2 c0 c1 c2 c3 hlt2 HN2
          go_upto_region 25 with fail
          have HM3 := Lib.hid M3
          have HB3 := Lib.hid b3
          have HCE : Hid (∀ W : World, Below w3.drew.heap.size w3.drew W → W.cell? ⟨mp, 0, none⟩ = some (.slice (some ⟨g, 0, none⟩) L.length cap) ∧ W.cell? ⟨w.heap.size, 2, none⟩ = some (.int .i64 qr) ∧ W.cell? ⟨g, i * 3 + 1, none⟩ = some (.int .i64 s.req) ∧ W.frozen? ⟨g, i * 3 + 1, none⟩ = false) := Lib.hid fun W hW => by
            have hW' : Below w3.heap.size w3 W := (Below.refl _ w3).drew.trans (hW.mono (Nat.le_refl _))
            have hx := HM3.out.below hW'
            obtain ⟨g', hg', q0, q1, q2⟩ := hx.cells i _ HLI.out
            obtain rfl : g = g' := by injection hg' with hg'; injection hg' with hg' _ _
            have hN := (hW'.block w.heap.size hlt3).trans HN3.out
            exact ⟨hx.cell, by simp [World.cell?, hN], q1, hx.frozen rfl _⟩
          have HD3 : Hid (∀ W : World, Below w3.drew.heap.size w3.drew W → Below w3.heap.size w3 W) := Lib.hid fun W hW => (Below.refl _ w3).drew.trans (hW.mono (Nat.le_refl _))
          clear d1 d2 d3 M3
          go_cut [7] (fun p wx => p = .int .i64 (i : Int) ∧ ∃ w6, Below w3.heap.size w3 w6 ∧ wx = w6.setCell ⟨g, i * 3 + 1, none⟩ (.int .i64 qr))
          case first =>
            refine wp_region_steps_last 9 (FK25 mp w.heap.size g L.length cap i qr) (fun w w' => Below w.heap.size w w') (by kernel_rfl) (by kernel_rfl) (by kernel_rfl) (by kernel_rfl) (by kernel_rfl) (Below.refl _ _) ?_ (fun u v w h1 h2 => h1.trans (h2.mono h1.size)) ?_ ?_
            · intro i v w w' _ h1 h2
              exact FK25_keep i h1
            · intro j o hi ho x w1 hR hF
              match j, ho with
              | 0, ho =>
                obtain rfl := Option.some.inj ho
                exact gstep_move rfl (wanted0 rfl) _ rfl _ (eval_of 0 _ (by kernel_rfl) rfl) ⟨_, rfl, rfl, Below.refl _ _⟩
              | 1, ho =>
                obtain rfl := Option.some.inj ho
                exact gstep_nil rfl (wanted0 rfl) _ rfl _ (eval_at 149 0 _ (by kernel_rfl) (show 149 < 220 by decide) (hF 0 (by kernel_rfl))) ⟨_, rfl, rfl, Below.refl _ _⟩
              | 2, ho =>
                obtain rfl := Option.some.inj ho
                exact gstep_field rfl (wanted0 rfl) _ _ _ rfl _ (eval_at 150 1 _ (by kernel_rfl) (show 150 < 220 by decide) (hF 1 (by kernel_rfl))) _ (run_mdf w1 _) ⟨_, rfl, rfl, Below.refl _ _⟩
              | 3, ho =>
                obtain rfl := Option.some.inj ho
                exact gstep_load rfl (wanted0 rfl) _ _ rfl _ (eval_at 151 2 _ (by kernel_rfl) (show 151 < 220 by decide) (hF 2 (by kernel_rfl))) _ (run_loadMs w1 _ _ _ _ (HCE.out w1 hR).1) ⟨_, rfl, rfl, Below.refl _ _⟩
              | 4, ho =>
                obtain rfl := Option.some.inj ho
                exact gstep_move rfl (wanted0 rfl) _ rfl _ (eval_of 7 _ (by kernel_rfl) rfl) ⟨_, rfl, rfl, Below.refl _ _⟩
              | 5, ho =>
                obtain rfl := Option.some.inj ho
                exact gstep_field rfl (wanted0 rfl) _ _ _ rfl _ (eval_of 5 _ (by kernel_rfl) rfl) _ (run_fA2 w1 _) ⟨_, rfl, rfl, Below.refl _ _⟩
              | 6, ho =>
                obtain rfl := Option.some.inj ho
                exact gstep_load rfl (wanted0 rfl) _ _ rfl _ (eval_at 154 5 _ (by kernel_rfl) (show 154 < 220 by decide) (hF 5 (by kernel_rfl))) _ (run_loadI w1 _ _ (HCE.out w1 hR).2.1) ⟨_, rfl, rfl, Below.refl _ _⟩
              | 7, ho =>
                obtain rfl := Option.some.inj ho
                exact gstep_index rfl (wanted0 rfl) _ _ _ rfl _ _ (eval_at 152 3 _ (by kernel_rfl) (show 152 < 220 by decide) (hF 3 (by kernel_rfl))) (eval_at 153 4 _ (by kernel_rfl) (show 153 < 220 by decide) (hF 4 (by kernel_rfl))) _ (run_idxE w1 _ _ _ _ HIL.out HNL.out) ⟨_, rfl, rfl, Below.refl _ _⟩
              | 8, ho =>
                obtain rfl := Option.some.inj ho
                exact gstep_field rfl (wanted0 rfl) _ _ _ rfl _ (eval_at 156 7 _ (by kernel_rfl) (show 156 < 220 by decide) (hF 7 (by kernel_rfl))) _ (run_fE1 w1 _ _) ⟨_, rfl, rfl, Below.refl _ _⟩
              | n + 9, ho => omega
            · intro o ho x w1 hR hF
              obtain rfl := Option.some.inj ho
              refine gstep_store rfl (wanted0 rfl) _ _ _ rfl _ _ (eval_at 157 8 _ (by kernel_rfl) (show 157 < 220 by decide) (hF 8 (by decide))) (eval_at 155 6 _ (by kernel_rfl) (show 155 < 220 by decide) (hF 6 (by decide))) _ (run_storeI w1 _ _ _ (HCE.out w1 hR).2.2.1 (HCE.out w1 hR).2.2.2) ?_
              simp only [putAll, Act.put, List.setIfInBounds_toArray, List.set_cons_succ, List.set_cons_zero]
              go_wp2_with fail
              go_meet
              exact ⟨rfl, w1, HD3.out w1 hR, rfl⟩
          case rest =>
            obtain ⟨rfl, w6, b6, rfl⟩ := hcut
            have M7 := (HM3.out.below b6).put i 1 (qi, s) (qi, ⟨qr, s.ans⟩) (.int .i64 qr) HLI.out (by decide) rfl
            have hgn : w.heap.size ≠ g := by omega
            have N7 : (w6.setCell ⟨g, i * 3 + 1, none⟩ (.int .i64 qr)).heap[w.heap.size]? = _ := (Below.heap_setCell w6 ⟨g, i * 3 + 1, none⟩ _ w.heap.size hgn).trans ((b6.block w.heap.size hlt3).trans HN3.out)
            have T6 := (H2.out.table.below HB3.out).below b6
            have T7 : TbX (w6.setCell ⟨g, i * 3 + 1, none⟩ (.int .i64 qr)) tb mb k :=
              T6.keep (Below.heap_setCell w6 ⟨g, i * 3 + 1, none⟩ _ tb (H2.out.ne.2.2 g rfl).1) (Below.heap_setCell w6 ⟨g, i * 3 + 1, none⟩ _ mb (H2.out.ne.2.2 g rfl).2)
            have b7 : Below m w (w6.setCell ⟨g, i * 3 + 1, none⟩ (.int .i64 qr)) := ((HB3.out.trans (b6.mono HB3.out.size)).mono hm0).setCell (p := ⟨g, i * 3 + 1, none⟩) (H2.out.above.2.2.2.2 g rfl) _
            have o7 : Onl w (w6.setCell ⟨g, i * 3 + 1, none⟩ (.int .i64 qr)) mb mp (some ⟨g, 0, none⟩) := (Onl.below (HB3.out.trans (b6.mono HB3.out.size))).row _ _
            have hL7 : (L.set i (qi, (⟨qr, s.ans⟩ : Ss)))[i]? = some (qi, ⟨qr, s.ans⟩) := List.getElem?_set_self HIL.out
            obtain ⟨w7, hw7⟩ : ∃ w7, w7 = w6.setCell ⟨g, i * 3 + 1, none⟩ (.int .i64 qr) := ⟨_, rfl⟩
            rw [← hw7] at M7 N7 T7 b7 o7 ⊢
            have hlt7 : w.heap.size < w7.heap.size := (Array.getElem?_eq_some_iff.1 N7).1
            have HM7 := Lib.hid M7
            have HN7 := Lib.hid N7
            have HT7 := Lib.hid T7
            have HL7 := Lib.hid hL7
            have hl7 : (L.set i (qi, (⟨qr, s.ans⟩ : Ss))).length = L.length := List.length_set
            have HCE : Hid (∀ W : World, Below w7.drew.heap.size w7.drew W → W.cell? ⟨mp, 0, none⟩ = some (.slice (some ⟨g, 0, none⟩) L.length cap) ∧ W.cell? ⟨w.heap.size, 3, none⟩ = some (.string qa) ∧ W.cell? ⟨g, i * 3 + 2, none⟩ = some (.string s.ans) ∧ W.frozen? ⟨g, i * 3 + 2, none⟩ = false) := Lib.hid fun W hW => by
              have hW' : Below w7.heap.size w7 W := (Below.refl _ w7).drew.trans (hW.mono (Nat.le_refl _))
              have hx := HM7.out.below hW'
              obtain ⟨g', hg', q0, q1, q2⟩ := hx.cells i _ HL7.out
              obtain rfl : g = g' := by injection hg' with hg'; injection hg' with hg' _ _
              have hN := (hW'.block w.heap.size hlt7).trans HN7.out
              have hc := hx.cell
              rw [hl7] at hc
              exact ⟨hc, by simp [World.cell?, hN], q2, hx.frozen rfl _⟩
            have HD7 : Hid (∀ W : World, Below w7.drew.heap.size w7.drew W → Below w7.heap.size w7 W) := Lib.hid fun W hW => (Below.refl _ w7).drew.trans (hW.mono (Nat.le_refl _))
            clear hw7 M7 N7 T7 T6 b6 hL7
            go_upto_region 26 with fail
            refine wp_region_steps_last 9 (FK26 mp w.heap.size g L.length cap i qa) (fun w w' => Below w.heap.size w w') (by kernel_rfl) (by kernel_rfl) (by kernel_rfl) (by kernel_rfl) (by kernel_rfl) (Below.refl _ _) ?_ (fun u v w h1 h2 => h1.trans (h2.mono h1.size)) ?_ ?_
            · intro i v w w' _ h1 h2
              exact FK26_keep i h1
            · intro j o hi ho x w1 hR hF
              match j, ho with
              | 0, ho =>
                obtain rfl := Option.some.inj ho
                exact gstep_move rfl (wanted0 rfl) _ rfl _ (eval_of 0 _ (by kernel_rfl) rfl) ⟨_, rfl, rfl, Below.refl _ _⟩
              | 1, ho =>
                obtain rfl := Option.some.inj ho
                exact gstep_nil rfl (wanted0 rfl) _ rfl _ (eval_at 158 0 _ (by kernel_rfl) (show 158 < 220 by decide) (hF 0 (by kernel_rfl))) ⟨_, rfl, rfl, Below.refl _ _⟩
              | 2, ho =>
                obtain rfl := Option.some.inj ho
                exact gstep_field rfl (wanted0 rfl) _ _ _ rfl _ (eval_at 159 1 _ (by kernel_rfl) (show 159 < 220 by decide) (hF 1 (by kernel_rfl))) _ (run_mdf w1 _) ⟨_, rfl, rfl, Below.refl _ _⟩
              | 3, ho =>
                obtain rfl := Option.some.inj ho
                exact gstep_load rfl (wanted0 rfl) _ _ rfl _ (eval_at 160 2 _ (by kernel_rfl) (show 160 < 220 by decide) (hF 2 (by kernel_rfl))) _ (run_loadMs w1 _ _ _ _ (HCE.out w1 hR).1) ⟨_, rfl, rfl, Below.refl _ _⟩
              | 4, ho =>
                obtain rfl := Option.some.inj ho
                exact gstep_move rfl (wanted0 rfl) _ rfl _ (eval_of 7 _ (by kernel_rfl) rfl) ⟨_, rfl, rfl, Below.refl _ _⟩
              | 5, ho =>
                obtain rfl := Option.some.inj ho
                exact gstep_field rfl (wanted0 rfl) _ _ _ rfl _ (eval_of 5 _ (by kernel_rfl) rfl) _ (run_fA3 w1 _) ⟨_, rfl, rfl, Below.refl _ _⟩
              | 6, ho =>
                obtain rfl := Option.some.inj ho
                exact gstep_load rfl (wanted0 rfl) _ _ rfl _ (eval_at 163 5 _ (by kernel_rfl) (show 163 < 220 by decide) (hF 5 (by kernel_rfl))) _ (run_loadT w1 _ _ (HCE.out w1 hR).2.1) ⟨_, rfl, rfl, Below.refl _ _⟩
              | 7, ho =>
                obtain rfl := Option.some.inj ho
                exact gstep_index rfl (wanted0 rfl) _ _ _ rfl _ _ (eval_at 161 3 _ (by kernel_rfl) (show 161 < 220 by decide) (hF 3 (by kernel_rfl))) (eval_at 162 4 _ (by kernel_rfl) (show 162 < 220 by decide) (hF 4 (by kernel_rfl))) _ (run_idxE w1 _ _ _ _ HIL.out HNL.out) ⟨_, rfl, rfl, Below.refl _ _⟩
              | 8, ho =>
                obtain rfl := Option.some.inj ho
                exact gstep_field rfl (wanted0 rfl) _ _ _ rfl _ (eval_at 165 7 _ (by kernel_rfl) (show 165 < 220 by decide) (hF 7 (by kernel_rfl))) _ (run_fE2 w1 _ _) ⟨_, rfl, rfl, Below.refl _ _⟩
              | n + 9, ho => omega
            · intro o ho x w1 hR hF
              obtain rfl := Option.some.inj ho
              refine gstep_store rfl (wanted0 rfl) _ _ _ rfl _ _ (eval_at 166 8 _ (by kernel_rfl) (show 166 < 220 by decide) (hF 8 (by decide))) (eval_at 164 6 _ (by kernel_rfl) (show 164 < 220 by decide) (hF 6 (by decide))) _ (run_storeT w1 _ _ _ (HCE.out w1 hR).2.2.1 (HCE.out w1 hR).2.2.2) ?_
              simp only [putAll, Act.put, List.setIfInBounds_toArray, List.set_cons_succ, List.set_cons_zero]
              obtain ⟨w8, hw8⟩ : ∃ w8, w8 = w1 := ⟨_, rfl⟩
              subst hw8
              have b8 := HD7.out w8 hR
              clear hF hR
              have M9 := (HM7.out.below b8).put i 2 (qi, ⟨qr, s.ans⟩) (qi, ⟨qr, qa⟩) (.string qa) HL7.out (by decide) rfl
              have N9 : (w8.setCell ⟨g, i * 3 + 2, none⟩ (.string qa)).heap[w.heap.size]? = _ := (Below.heap_setCell w8 ⟨g, i * 3 + 2, none⟩ _ w.heap.size hgn).trans ((b8.block w.heap.size hlt7).trans HN7.out)
              have T8 := HT7.out.below b8
              have T9 : TbX (w8.setCell ⟨g, i * 3 + 2, none⟩ (.string qa)) tb mb k :=
                T8.keep (Below.heap_setCell w8 ⟨g, i * 3 + 2, none⟩ _ tb (H2.out.ne.2.2 g rfl).1) (Below.heap_setCell w8 ⟨g, i * 3 + 2, none⟩ _ mb (H2.out.ne.2.2 g rfl).2)
              have hm7 : m ≤ w7.heap.size := Nat.le_trans hm0 b7.size
              have b9 : Below m w (w8.setCell ⟨g, i * 3 + 2, none⟩ (.string qa)) := (b7.trans (b8.mono hm7)).setCell (p := ⟨g, i * 3 + 2, none⟩) (H2.out.above.2.2.2.2 g rfl) _
              have o9 : Onl w (w8.setCell ⟨g, i * 3 + 2, none⟩ (.string qa)) mb mp (some ⟨g, 0, none⟩) := (o7.next b7.size b8).row _ _
              obtain ⟨w9, hw9⟩ : ∃ w9, w9 = w8.setCell ⟨g, i * 3 + 2, none⟩ (.string qa) := ⟨_, rfl⟩
              rw [← hw9] at M9 N9 T9 b9 o9 ⊢
              have d1 : w9.cell? ⟨w.heap.size, 1, none⟩ = some (.int .i64 qi) := by simp [World.cell?, N9]
              have d2 : w9.cell? ⟨w.heap.size, 2, none⟩ = some (.int .i64 qr) := by simp [World.cell?, N9]
              have d3 : w9.cell? ⟨w.heap.size, 3, none⟩ = some (.string qa) := by simp [World.cell?, N9]
              rw [List.set_set] at M9
              have HM9 := Lib.hid M9
              clear hw9 M9 N9 T8 b8 HCE
              go_wp2_with fail
              refine (HKP.out _ T9).mono ?_
              rintro e w10 ⟨⟨ev, rfl⟩, L10⟩
              have M10 := HM9.out.left L10.2 H2.out.ne.2.1 (fun g hg => (H2.out.ne.2.2 g hg).2)
              have b10 := b9.trans (leftX_below L10 H2.out.above.2.1 (Nat.le_trans hm0 b9.size))
              have hll : (L.set i (qi, (⟨qr, qa⟩ : Ss))).length = L.length := List.length_set
              go_wp2_with fail
              go_ret
              refine ⟨⟨_, rfl⟩, b10, o9.left b9.size L10.2, cap, _, _, _, ⟨L10.1, M10, HRS.out, by rw [hll]; exact H2.out.few, fun x t hx => ?_, H2.out.ne, H2.out.above.1, H2.out.above.2.1, H2.out.above.2.2.1, Nat.le_trans hm0 b10.size, H2.out.above.2.2.2.2⟩, .inl rfl⟩
              by_cases e : x = qi
              · rw [e, updS_same] at hx; injection hx with hx; rw [← hx]; exact ⟨⟨hrq, by have := HH4.out; simp only; omega, .inr HOK.out⟩, by rw [e]; exact HOQ.out⟩
              · rw [updS_other e] at hx; exact H2.out.small x t hx
    · have hE : keepE T qi qr qa = 18 := by unfold keepE; rw [if_neg (by rw [← her]; exact fun e => e h0), ← hsn, hs, if_pos rfl]
      have hTT : keepT T qi qr qa = T := by unfold keepT; rw [hE, if_neg (by decide)]
      subst h0 hs
      have HKP := Lib.hid (fun (W : World) (hW : Below w.heap.size w W) => (keepX_any tb mb k qi qr qa W (h2.table.below hW) hid (by omega) (by omega) : Calls Try.prog 19 #[.pointer (some ⟨tb, 0, none⟩), .int .i64 qi, .int .i64 qr, .string qa] W fun e w' => (∃ ev, e = .returned (.int .i64 ev)) ∧ LeftX W tb mb (k + 1) w'))

      clear hE hTT h2 her hsn htx hsome hai
      rcases hq23 with rfl | rfl
      all_goals
        unfold actV
        go_enter Try.func12, Try.ntmps12
        go_upto_region 1 with fail
        obtain ⟨w1, hw1⟩ : ∃ w1, w1 = w.alloc (.cells #[.int .i64 qk, .int .i64 qi, .int .i64 qr, .string qa] 32) := ⟨_, rfl⟩
        rw [← hw1] at b1 N1 ⊢
        have hlt : w.heap.size < w1.heap.size := (Array.getElem?_eq_some_iff.1 N1).1
        have c1 : w1.cell? ⟨w.heap.size, 1, none⟩ = some (.int .i64 qi) := by simp [World.cell?, N1]
        clear hw1
        go_wp2_with fail
        refine (HA.out _ b1).mono ?_
        rintro e w2 ⟨rfl, b2⟩
        have N2 := (b2.block w.heap.size hlt).trans N1
        replace b2 := b1.trans (b2.mono b1.size)
        clear N1 b1 c1 hlt
        have c0 : w2.cell? ⟨w.heap.size, 0, none⟩ = some (.int .i64 qk) := by simp [World.cell?, N2]
        have c1 : w2.cell? ⟨w.heap.size, 1, none⟩ = some (.int .i64 qi) := by simp [World.cell?, N2]
        have c2 : w2.cell? ⟨w.heap.size, 2, none⟩ = some (.int .i64 qr) := by simp [World.cell?, N2]
        have c3 : w2.cell? ⟨w.heap.size, 3, none⟩ = some (.string qa) := by simp [World.cell?, N2]
        have hlt2 : w.heap.size < w2.heap.size := (Array.getElem?_eq_some_iff.1 N2).1
        have HN2 := Lib.hid N2
        clear N2
        go_wp2_with fail
        refine (HSM.out _ b2).mono ?_
        rintro e w3 ⟨rfl, b3⟩
        have N3 := (b3.block w.heap.size hlt2).trans HN2.out
        replace b3 := b2.trans (b3.mono b2.size)
        have d1 : w3.cell? ⟨w.heap.size, 1, none⟩ = some (.int .i64 qi) := by simp [World.cell?, N3]
        have d2 : w3.cell? ⟨w.heap.size, 2, none⟩ = some (.int .i64 qr) := by simp [World.cell?, N3]
        have d3 : w3.cell? ⟨w.heap.size, 3, none⟩ = some (.string qa) := by simp [World.cell?, N3]
        clear N3 b2 c0 c1 c2 c3 hlt2 HN2
        go_wp2_with fail
        refine (HKP.out _ b3).mono ?_
        rintro e w4 ⟨⟨ev, rfl⟩, L4⟩
        have M4 := (H2.out.mod.below b3).left L4.2 H2.out.ne.2.1 (fun g hg => (H2.out.ne.2.2 g hg).2)
        have b4 := (b3.mono hm0).trans (leftX_below L4 H2.out.above.2.1 (Nat.le_trans hm0 b3.size))
        go_wp2_with fail
        go_ret
        exact ⟨⟨_, rfl⟩, b4, (Onl.below b3).left b3.size L4.2, cap, a, T, L, ⟨L4.1, M4, H2.out.rep, H2.out.few, H2.out.small, H2.out.ne, H2.out.above.1, H2.out.above.2.1, H2.out.above.2.2.1, Nat.le_trans hm0 (by have := b3.size; have := L4.2.size; omega), H2.out.above.2.2.2.2⟩, .inl rfl⟩
  · have hE : keepE T qi qr qa = er := by unfold keepE; rw [if_pos (by rw [← her]; exact h0), ← her]
    have hTT : keepT T qi qr qa = T := by unfold keepT; rw [hE, if_neg h0]
    have e1 : (er != 0) = true := by simpa using h0
    have e2 : (er == 0) = false := by simpa using h0
    have e3 : (er == er) = true := by simp
    have HKP := Lib.hid (fun (W : World) (hW : Below w.heap.size w W) => (keepX_any tb mb k qi qr qa W (h2.table.below hW) hid (by omega) (by omega) : Calls Try.prog 19 #[.pointer (some ⟨tb, 0, none⟩), .int .i64 qi, .int .i64 qr, .string qa] W fun e w' => (∃ ev, e = .returned (.int .i64 ev)) ∧ LeftX W tb mb (k + 1) w'))

    clear hE hTT h2 her hsn htx h0 hai
    rcases hq23 with rfl | rfl
    all_goals
      unfold actV
      go_enter Try.func12, Try.ntmps12
      go_upto_region 1 with fail
      obtain ⟨w1, hw1⟩ : ∃ w1, w1 = w.alloc (.cells #[.int .i64 qk, .int .i64 qi, .int .i64 qr, .string qa] 32) := ⟨_, rfl⟩
      rw [← hw1] at b1 N1 ⊢
      have hlt : w.heap.size < w1.heap.size := (Array.getElem?_eq_some_iff.1 N1).1
      have c1 : w1.cell? ⟨w.heap.size, 1, none⟩ = some (.int .i64 qi) := by simp [World.cell?, N1]
      clear hw1
      go_wp2_with fail
      refine (HA.out _ b1).mono ?_
      rintro e w2 ⟨rfl, b2⟩
      have N2 := (b2.block w.heap.size hlt).trans N1
      replace b2 := b1.trans (b2.mono b1.size)
      clear N1 b1 c1 hlt
      have c0 : w2.cell? ⟨w.heap.size, 0, none⟩ = some (.int .i64 qk) := by simp [World.cell?, N2]
      have c1 : w2.cell? ⟨w.heap.size, 1, none⟩ = some (.int .i64 qi) := by simp [World.cell?, N2]
      have c2 : w2.cell? ⟨w.heap.size, 2, none⟩ = some (.int .i64 qr) := by simp [World.cell?, N2]
      have c3 : w2.cell? ⟨w.heap.size, 3, none⟩ = some (.string qa) := by simp [World.cell?, N2]
      have hlt2 : w.heap.size < w2.heap.size := (Array.getElem?_eq_some_iff.1 N2).1
      have HN2 := Lib.hid N2
      clear N2
      go_wp2_with fail
      refine (HSM.out _ b2).mono ?_
      rintro e w3 ⟨rfl, b3⟩
      have N3 := (b3.block w.heap.size hlt2).trans HN2.out
      replace b3 := b2.trans (b3.mono b2.size)
      have d1 : w3.cell? ⟨w.heap.size, 1, none⟩ = some (.int .i64 qi) := by simp [World.cell?, N3]
      have d2 : w3.cell? ⟨w.heap.size, 2, none⟩ = some (.int .i64 qr) := by simp [World.cell?, N3]
      have d3 : w3.cell? ⟨w.heap.size, 3, none⟩ = some (.string qa) := by simp [World.cell?, N3]
      clear N3 b2 c0 c1 c2 c3 hlt2 HN2
      go_wp2_with fail
      refine (HKP.out _ b3).mono ?_
      rintro e w4 ⟨⟨ev, rfl⟩, L4⟩
      have M4 := (H2.out.mod.below b3).left L4.2 H2.out.ne.2.1 (fun g hg => (H2.out.ne.2.2 g hg).2)
      have b4 := (b3.mono hm0).trans (leftX_below L4 H2.out.above.2.1 (Nat.le_trans hm0 b3.size))
      go_wp2_with fail
      go_ret
      exact ⟨⟨_, rfl⟩, b4, (Onl.below b3).left b3.size L4.2, cap, a, T, L, ⟨L4.1, M4, H2.out.rep, H2.out.few, H2.out.small, H2.out.ne, H2.out.above.1, H2.out.above.2.1, H2.out.above.2.2.1, Nat.le_trans hm0 (by have := b3.size; have := L4.2.size; omega), H2.out.above.2.2.2.2⟩, .inl rfl⟩
set_option maxHeartbeats 4000000 in
theorem sdx_open_no (m tb mb k mp cap : Nat) (a : Option Addr) (T : Int → Option Ss) (L : List Me) (q : Sa) (w : World) (h2 : TwoX m w tb mb k mp cap a T L) (hid : InR q.id) (hk : k < 100000) (hq : wrap64 ((IntKind.u64.wrap q.k).tmod 5) = 0) (hno : okN q.id = false ∨ (T q.id).isSome = true ∨ 16 ≤ L.length) :
    Calls Try.prog 12 #[.pointer (some ⟨mp, 0, none⟩), .pointer (some ⟨tb, 0, none⟩), actV q] w fun e w' => (∃ bv, e = .returned (.bool bv)) ∧ DoX m w w' tb mb k mp a := by
  have H2 := Lib.hid h2
  obtain ⟨qk, qi, qr, qa⟩ := q
  simp only at hid hq hno
  have b1 := (Below.refl w.heap.size w).alloc (Nat.le_refl _) (.cells #[.int .i64 qk, .int .i64 qi, .int .i64 qr, .string qa] 32)
  have N1 := heap_alloc_new w (.cells #[.int .i64 qk, .int .i64 qi, .int .i64 qr, .string qa] 32)
  have hl1000 : L.length ≤ 1000 := by have := h2.few; omega
  have HA := Lib.hid (fun (W : World) (hW : Below w.heap.size w W) => at_any mp cap a L qi W (h2.mod.below hW) hl1000)
  have hm0 := h2.above.2.2.2.1
  obtain ⟨ai, hai⟩ : ∃ ai, ai = atI L qi L.length := ⟨_, rfl⟩
  rw [← hai] at HA
  cases hok : okN qi
  · have hE : openE T L.length qi = 1 := by unfold openE; rw [if_pos hok]
    have hTT : openT T L.length qi = T := by unfold openT; rw [hE, if_neg (by decide)]
    have hCC : openC T L.length qi = L.length := by unfold openC; rw [hE, if_neg (by decide)]
    have hsp : decide (qi < 1) = true ∨ (decide (qi < 1) = false ∧ decide (281474976710655 < qi) = true) := by
      unfold okN at hok
      by_cases h1 : 1 ≤ qi
      · by_cases h3 : qi ≤ 281474976710655
        · simp [h1, h3] at hok
        · right; simp; omega
      · left; simp; omega
    rcases hsp with e1 | ⟨e1, e2⟩
    · have HOP := Lib.hid (fun (W : World) (hW : Below w.heap.size w W) => (openX_any tb mb k qi W (h2.table.below hW) hid (by omega) : Calls Try.prog 17 #[.pointer (some ⟨tb, 0, none⟩), .int .i64 qi] W fun e w' => (∃ ev, e = .returned (.int .i64 ev)) ∧ LeftX W tb mb (k + 1) w'))
      have HC := Lib.hid (fun (W : World) (hW : Below w.heap.size w W) => (h2.mod.below hW).cell)
      clear hE hTT hCC h2 hai hok hno
      unfold actV
      go_enter Try.func12, Try.ntmps12
      go_upto_region 1 with fail
      obtain ⟨w1, hw1⟩ : ∃ w1, w1 = w.alloc (.cells #[.int .i64 qk, .int .i64 qi, .int .i64 qr, .string qa] 32) := ⟨_, rfl⟩
      rw [← hw1] at b1 N1 ⊢
      have hlt : w.heap.size < w1.heap.size := (Array.getElem?_eq_some_iff.1 N1).1
      have c1 : w1.cell? ⟨w.heap.size, 1, none⟩ = some (.int .i64 qi) := by simp [World.cell?, N1]
      clear hw1
      go_wp2_with fail
      refine (HA.out _ b1).mono ?_
      rintro e w2 ⟨rfl, b2⟩
      have N2 := (b2.block w.heap.size hlt).trans N1
      replace b2 := b1.trans (b2.mono b1.size)
      clear N1 b1 c1 hlt
      have c0 : w2.cell? ⟨w.heap.size, 0, none⟩ = some (.int .i64 qk) := by simp [World.cell?, N2]
      have c1 : w2.cell? ⟨w.heap.size, 1, none⟩ = some (.int .i64 qi) := by simp [World.cell?, N2]
      have c2 : w2.cell? ⟨w.heap.size, 2, none⟩ = some (.int .i64 qr) := by simp [World.cell?, N2]
      have c3 : w2.cell? ⟨w.heap.size, 3, none⟩ = some (.string qa) := by simp [World.cell?, N2]
      have hlt2 : w.heap.size < w2.heap.size := (Array.getElem?_eq_some_iff.1 N2).1
      have HN2 := Lib.hid N2
      clear N2
      have x0 := HC.out _ b2
      go_wp2_with fail
      refine (HOP.out _ b2).mono ?_
      rintro e w3 ⟨⟨ev, rfl⟩, L3⟩
      have M3 := (H2.out.mod.below b2).left L3.2 H2.out.ne.2.1 (fun g hg => (H2.out.ne.2.2 g hg).2)
      have b3 := (b2.mono hm0).trans (leftX_below L3 H2.out.above.2.1 (Nat.le_trans hm0 b2.size))
      go_wp2_with fail
      go_ret
      exact ⟨⟨_, rfl⟩, b3, (Onl.below b2).left b2.size L3.2, cap, a, T, L, ⟨L3.1, M3, H2.out.rep, H2.out.few, H2.out.small, H2.out.ne, H2.out.above.1, H2.out.above.2.1, H2.out.above.2.2.1, Nat.le_trans hm0 (by have := b2.size; have := L3.2.size; omega), H2.out.above.2.2.2.2⟩, .inl rfl⟩
    · have HOP := Lib.hid (fun (W : World) (hW : Below w.heap.size w W) => (openX_any tb mb k qi W (h2.table.below hW) hid (by omega) : Calls Try.prog 17 #[.pointer (some ⟨tb, 0, none⟩), .int .i64 qi] W fun e w' => (∃ ev, e = .returned (.int .i64 ev)) ∧ LeftX W tb mb (k + 1) w'))
      have HC := Lib.hid (fun (W : World) (hW : Below w.heap.size w W) => (h2.mod.below hW).cell)
      clear hE hTT hCC h2 hai hok hno
      unfold actV
      go_enter Try.func12, Try.ntmps12
      go_upto_region 1 with fail
      obtain ⟨w1, hw1⟩ : ∃ w1, w1 = w.alloc (.cells #[.int .i64 qk, .int .i64 qi, .int .i64 qr, .string qa] 32) := ⟨_, rfl⟩
      rw [← hw1] at b1 N1 ⊢
      have hlt : w.heap.size < w1.heap.size := (Array.getElem?_eq_some_iff.1 N1).1
      have c1 : w1.cell? ⟨w.heap.size, 1, none⟩ = some (.int .i64 qi) := by simp [World.cell?, N1]
      clear hw1
      go_wp2_with fail
      refine (HA.out _ b1).mono ?_
      rintro e w2 ⟨rfl, b2⟩
      have N2 := (b2.block w.heap.size hlt).trans N1
      replace b2 := b1.trans (b2.mono b1.size)
      clear N1 b1 c1 hlt
      have c0 : w2.cell? ⟨w.heap.size, 0, none⟩ = some (.int .i64 qk) := by simp [World.cell?, N2]
      have c1 : w2.cell? ⟨w.heap.size, 1, none⟩ = some (.int .i64 qi) := by simp [World.cell?, N2]
      have c2 : w2.cell? ⟨w.heap.size, 2, none⟩ = some (.int .i64 qr) := by simp [World.cell?, N2]
      have c3 : w2.cell? ⟨w.heap.size, 3, none⟩ = some (.string qa) := by simp [World.cell?, N2]
      have hlt2 : w.heap.size < w2.heap.size := (Array.getElem?_eq_some_iff.1 N2).1
      have HN2 := Lib.hid N2
      clear N2
      have x0 := HC.out _ b2
      go_wp2_with fail
      refine (HOP.out _ b2).mono ?_
      rintro e w3 ⟨⟨ev, rfl⟩, L3⟩
      have M3 := (H2.out.mod.below b2).left L3.2 H2.out.ne.2.1 (fun g hg => (H2.out.ne.2.2 g hg).2)
      have b3 := (b2.mono hm0).trans (leftX_below L3 H2.out.above.2.1 (Nat.le_trans hm0 b2.size))
      go_wp2_with fail
      go_ret
      exact ⟨⟨_, rfl⟩, b3, (Onl.below b2).left b2.size L3.2, cap, a, T, L, ⟨L3.1, M3, H2.out.rep, H2.out.few, H2.out.small, H2.out.ne, H2.out.above.1, H2.out.above.2.1, H2.out.above.2.2.1, Nat.le_trans hm0 (by have := b2.size; have := L3.2.size; omega), H2.out.above.2.2.2.2⟩, .inl rfl⟩
  · have e1 : decide (qi < 1) = false := by unfold okN at hok; rw [Bool.and_eq_true] at hok; simp at hok; simp; omega
    have e2 : decide (281474976710655 < qi) = false := by unfold okN at hok; rw [Bool.and_eq_true] at hok; simp at hok; simp; omega
    cases hs : (T qi).isSome
    · have hc16 : 16 ≤ L.length := by
        rcases hno with h | h | h
        · rw [hok] at h; cases h
        · rw [hs] at h; cases h
        · exact h
      have hE : openE T L.length qi = 16 := by unfold openE; rw [if_neg (by rw [hok]; decide), hs, if_neg (by decide), if_pos hc16]
      have hTT : openT T L.length qi = T := by unfold openT; rw [hE, if_neg (by decide)]
      have hCC : openC T L.length qi = L.length := by unfold openC; rw [hE, if_neg (by decide)]
      have hn : T qi = none := by cases h : T qi; rfl; rw [h] at hs; cases hs
      have ha1 : ai = -1 := by rw [hai]; exact h2.rep.at_none hn
      subst ha1
      have e3 : decide ((16 : Int) ≤ (L.length : Int)) = true := by simp; omega
      have HOP := Lib.hid (fun (W : World) (hW : Below w.heap.size w W) => (openX_any tb mb k qi W (h2.table.below hW) hid (by omega) : Calls Try.prog 17 #[.pointer (some ⟨tb, 0, none⟩), .int .i64 qi] W fun e w' => (∃ ev, e = .returned (.int .i64 ev)) ∧ LeftX W tb mb (k + 1) w'))
      have HC := Lib.hid (fun (W : World) (hW : Below w.heap.size w W) => (h2.mod.below hW).cell)
      clear hE hTT hCC h2 hai hok hno hs hc16 hn
      unfold actV
      go_enter Try.func12, Try.ntmps12
      go_upto_region 1 with fail
      obtain ⟨w1, hw1⟩ : ∃ w1, w1 = w.alloc (.cells #[.int .i64 qk, .int .i64 qi, .int .i64 qr, .string qa] 32) := ⟨_, rfl⟩
      rw [← hw1] at b1 N1 ⊢
      have hlt : w.heap.size < w1.heap.size := (Array.getElem?_eq_some_iff.1 N1).1
      have c1 : w1.cell? ⟨w.heap.size, 1, none⟩ = some (.int .i64 qi) := by simp [World.cell?, N1]
      clear hw1
      go_wp2_with fail
      refine (HA.out _ b1).mono ?_
      rintro e w2 ⟨rfl, b2⟩
      have N2 := (b2.block w.heap.size hlt).trans N1
      replace b2 := b1.trans (b2.mono b1.size)
      clear N1 b1 c1 hlt
      have c0 : w2.cell? ⟨w.heap.size, 0, none⟩ = some (.int .i64 qk) := by simp [World.cell?, N2]
      have c1 : w2.cell? ⟨w.heap.size, 1, none⟩ = some (.int .i64 qi) := by simp [World.cell?, N2]
      have c2 : w2.cell? ⟨w.heap.size, 2, none⟩ = some (.int .i64 qr) := by simp [World.cell?, N2]
      have c3 : w2.cell? ⟨w.heap.size, 3, none⟩ = some (.string qa) := by simp [World.cell?, N2]
      have hlt2 : w.heap.size < w2.heap.size := (Array.getElem?_eq_some_iff.1 N2).1
      have HN2 := Lib.hid N2
      clear N2
      have x0 := HC.out _ b2
      go_wp2_with fail
      refine (HOP.out _ b2).mono ?_
      rintro e w3 ⟨⟨ev, rfl⟩, L3⟩
      have M3 := (H2.out.mod.below b2).left L3.2 H2.out.ne.2.1 (fun g hg => (H2.out.ne.2.2 g hg).2)
      have b3 := (b2.mono hm0).trans (leftX_below L3 H2.out.above.2.1 (Nat.le_trans hm0 b2.size))
      go_wp2_with fail
      go_ret
      exact ⟨⟨_, rfl⟩, b3, (Onl.below b2).left b2.size L3.2, cap, a, T, L, ⟨L3.1, M3, H2.out.rep, H2.out.few, H2.out.small, H2.out.ne, H2.out.above.1, H2.out.above.2.1, H2.out.above.2.2.1, Nat.le_trans hm0 (by have := b2.size; have := L3.2.size; omega), H2.out.above.2.2.2.2⟩, .inl rfl⟩
    · have hE : openE T L.length qi = 12 := by unfold openE; rw [if_neg (by rw [hok]; decide), hs, if_pos rfl]
      have hTT : openT T L.length qi = T := by unfold openT; rw [hE, if_neg (by decide)]
      have hCC : openC T L.length qi = L.length := by unfold openC; rw [hE, if_neg (by decide)]
      obtain ⟨s, hTs⟩ := Option.isSome_iff_exists.1 hs
      obtain ⟨i, hi, _⟩ := h2.rep.at_some hTs
      rw [hi] at hai
      subst hai
      have e3 : decide ((0 : Int) ≤ (i : Int)) = true := by simp
      have HOP := Lib.hid (fun (W : World) (hW : Below w.heap.size w W) => (openX_any tb mb k qi W (h2.table.below hW) hid (by omega) : Calls Try.prog 17 #[.pointer (some ⟨tb, 0, none⟩), .int .i64 qi] W fun e w' => (∃ ev, e = .returned (.int .i64 ev)) ∧ LeftX W tb mb (k + 1) w'))
      have HC := Lib.hid (fun (W : World) (hW : Below w.heap.size w W) => (h2.mod.below hW).cell)
      clear hE hTT hCC h2 hok hno hs hi hTs
      unfold actV
      go_enter Try.func12, Try.ntmps12
      go_upto_region 1 with fail
      obtain ⟨w1, hw1⟩ : ∃ w1, w1 = w.alloc (.cells #[.int .i64 qk, .int .i64 qi, .int .i64 qr, .string qa] 32) := ⟨_, rfl⟩
      rw [← hw1] at b1 N1 ⊢
      have hlt : w.heap.size < w1.heap.size := (Array.getElem?_eq_some_iff.1 N1).1
      have c1 : w1.cell? ⟨w.heap.size, 1, none⟩ = some (.int .i64 qi) := by simp [World.cell?, N1]
      clear hw1
      go_wp2_with fail
      refine (HA.out _ b1).mono ?_
      rintro e w2 ⟨rfl, b2⟩
      have N2 := (b2.block w.heap.size hlt).trans N1
      replace b2 := b1.trans (b2.mono b1.size)
      clear N1 b1 c1 hlt
      have c0 : w2.cell? ⟨w.heap.size, 0, none⟩ = some (.int .i64 qk) := by simp [World.cell?, N2]
      have c1 : w2.cell? ⟨w.heap.size, 1, none⟩ = some (.int .i64 qi) := by simp [World.cell?, N2]
      have c2 : w2.cell? ⟨w.heap.size, 2, none⟩ = some (.int .i64 qr) := by simp [World.cell?, N2]
      have c3 : w2.cell? ⟨w.heap.size, 3, none⟩ = some (.string qa) := by simp [World.cell?, N2]
      have hlt2 : w.heap.size < w2.heap.size := (Array.getElem?_eq_some_iff.1 N2).1
      have HN2 := Lib.hid N2
      clear N2
      have x0 := HC.out _ b2
      go_wp2_with fail
      refine (HOP.out _ b2).mono ?_
      rintro e w3 ⟨⟨ev, rfl⟩, L3⟩
      have M3 := (H2.out.mod.below b2).left L3.2 H2.out.ne.2.1 (fun g hg => (H2.out.ne.2.2 g hg).2)
      have b3 := (b2.mono hm0).trans (leftX_below L3 H2.out.above.2.1 (Nat.le_trans hm0 b2.size))
      go_wp2_with fail
      go_ret
      exact ⟨⟨_, rfl⟩, b3, (Onl.below b2).left b2.size L3.2, cap, a, T, L, ⟨L3.1, M3, H2.out.rep, H2.out.few, H2.out.small, H2.out.ne, H2.out.above.1, H2.out.above.2.1, H2.out.above.2.2.1, Nat.le_trans hm0 (by have := b2.size; have := L3.2.size; omega), H2.out.above.2.2.2.2⟩, .inl rfl⟩
set_option maxHeartbeats 8000000 in
theorem sdx_open_ok (m tb mb k mp cap : Nat) (a : Option Addr) (T : Int → Option Ss) (L : List Me) (q : Sa) (w : World) (h2 : TwoX m w tb mb k mp cap a T L) (hid : InR q.id) (hk : k < 100000) (hq : wrap64 ((IntKind.u64.wrap q.k).tmod 5) = 0) (hok : okN q.id = true) (hn : T q.id = none) (h16 : L.length < 16) :
    Calls Try.prog 12 #[.pointer (some ⟨mp, 0, none⟩), .pointer (some ⟨tb, 0, none⟩), actV q] w fun e w' => (∃ bv, e = .returned (.bool bv)) ∧ DoX m w w' tb mb k mp a := by
  have H2 := Lib.hid h2
  obtain ⟨qk, qi, qr, qa⟩ := q
  simp only at hid hq hok hn
  have b1 := (Below.refl w.heap.size w).alloc (Nat.le_refl _) (.cells #[.int .i64 qk, .int .i64 qi, .int .i64 qr, .string qa] 32)
  have N1 := heap_alloc_new w (.cells #[.int .i64 qk, .int .i64 qi, .int .i64 qr, .string qa] 32)
  have hl1000 : L.length ≤ 1000 := by have := h2.few; omega
  have HA := Lib.hid (fun (W : World) (hW : Below w.heap.size w W) => at_any mp cap a L qi W (h2.mod.below hW) hl1000)
  have hm0 := h2.above.2.2.2.1
  rw [h2.rep.at_none hn] at HA
  have e1 : decide (qi < 1) = false := by unfold okN at hok; rw [Bool.and_eq_true] at hok; simp at hok; simp; omega
  have e2 : decide (281474976710655 < qi) = false := by unfold okN at hok; rw [Bool.and_eq_true] at hok; simp at hok; simp; omega
  have e3 : decide ((16 : Int) ≤ (L.length : Int)) = false := by simp; omega
  have hE : openE T L.length qi = 0 := by unfold openE; rw [if_neg (by rw [hok]; decide), hn, if_neg (by decide), if_neg (by omega)]
  have hTT : openT T L.length qi = updS T qi (some Ss.zero) := by unfold openT; rw [hE, if_pos rfl]
  have hCC : openC T L.length qi = L.length + 1 := by unfold openC; rw [hE, if_pos rfl]
  have HOP := Lib.hid (fun (W : World) (hW : TbX W tb mb k) => (openX_any tb mb k qi W hW hid (by omega) : Calls Try.prog 17 #[.pointer (some ⟨tb, 0, none⟩), .int .i64 qi] W fun e w' => (∃ ev, e = .returned (.int .i64 ev)) ∧ LeftX W tb mb (k + 1) w'))
  have HM := Lib.hid h2.mod
  have HIN := Lib.hid (fun j h3 h4 => h2.rep.ins hn Ss.zero j h3 h4)
  have HOQ := Lib.hid hok
  clear hE hTT hCC h2 hok hn
  unfold actV
  go_enter Try.func12, Try.ntmps12
  go_upto_region 1 with fail
  obtain ⟨w1, hw1⟩ : ∃ w1, w1 = w.alloc (.cells #[.int .i64 qk, .int .i64 qi, .int .i64 qr, .string qa] 32) := ⟨_, rfl⟩
  rw [← hw1] at b1 N1 ⊢
  have hlt : w.heap.size < w1.heap.size := (Array.getElem?_eq_some_iff.1 N1).1
  have c1 : w1.cell? ⟨w.heap.size, 1, none⟩ = some (.int .i64 qi) := by simp [World.cell?, N1]
  clear hw1
  go_wp2_with fail
  refine (HA.out _ b1).mono ?_
  rintro e w2 ⟨rfl, b2⟩
  have N2 := (b2.block w.heap.size hlt).trans N1
  replace b2 := b1.trans (b2.mono b1.size)
  clear N1 b1 c1 hlt
  have c0 : w2.cell? ⟨w.heap.size, 0, none⟩ = some (.int .i64 qk) := by simp [World.cell?, N2]
  have c1 : w2.cell? ⟨w.heap.size, 1, none⟩ = some (.int .i64 qi) := by simp [World.cell?, N2]
  have c2 : w2.cell? ⟨w.heap.size, 2, none⟩ = some (.int .i64 qr) := by simp [World.cell?, N2]
  have c3 : w2.cell? ⟨w.heap.size, 3, none⟩ = some (.string qa) := by simp [World.cell?, N2]
  have hlt2 : w.heap.size < w2.heap.size := (Array.getElem?_eq_some_iff.1 N2).1
  have HN2 := Lib.hid N2
  clear N2
  have x0 := (HM.out.below b2).cell
  go_upto_block 2 with fail
  go_cut [9] (fun iv wr => ∃ j : Nat, j ≤ L.length ∧ iv = .int .i64 (j : Int) ∧ Hid (∀ q e, q < j → L[q]? = some e → e.1 < qi) ∧ Hid (∀ e, L[j]? = some e → qi ≤ e.1) ∧ Below w2.heap.size w2 wr)
  case first =>
    go_wp2_with fail
    go_loopw [9] (fun iv wr => ∃ j : Nat, j ≤ L.length ∧ iv = .int .i64 j ∧ Hid (∀ q e, q < j → L[q]? = some e → e.1 < qi) ∧ Below w2.heap.size w2 wr) (fun iv _ => L.length - (intOf iv).toNat)
    case atStart => exact ⟨0, by omega, rfl, Lib.hid (fun q e h => (by omega)), Below.refl _ _⟩
    case round =>
      obtain ⟨j, hj, rfl, HLO, bk⟩ := hrel
      have hkN := (bk.block w.heap.size hlt2).trans HN2.out
      have k1 : wr.cell? ⟨w.heap.size, 1, none⟩ = some (.int .i64 qi) := by simp [World.cell?, hkN]
      have hbr := b2.trans (bk.mono b2.size)
      have hMr := HM.out.below hbr
      have y0 := hMr.cell
      have j0 : (0 : Int) ≤ (j : Int) := by omega
      have t2 : IntKind.i64.wrap ((j : Int) + 1) = (j : Int) + 1 := IntWalk.i64_in _ (by omega)
      clear c0 c1 c2 c3 x0
      have hex : (∃ e, L[j]? = some e ∧ e.1 < qi ∧ j < L.length) ∨ (∃ e, L[j]? = some e ∧ qi ≤ e.1 ∧ j < L.length) ∨ j = L.length := by
        by_cases hlt : j < L.length
        · obtain ⟨e, he⟩ : ∃ e, L[j]? = some e := ⟨L[j], by simp [hlt]⟩
          by_cases h : e.1 < qi
          · exact .inl ⟨e, he, h, hlt⟩
          · exact .inr (.inl ⟨e, he, by omega, hlt⟩)
        · exact .inr (.inr (by omega))
      rcases hex with ⟨e, he, hlq, hjl⟩ | hex
      · obtain ⟨g, rfl, z0, z1, z2⟩ := hMr.cells j e he
        have f1 : decide ((j : Int) < (L.length : Int)) = true := by simp; omega
        have f2 : decide (e.1 < qi) = true := by simpa using hlq
        have hji : (j : Int) < (L.length : Int) := by omega
        have HL2 : Hid (∀ q x, q < j + 1 → L[q]? = some x → x.1 < qi) := Lib.hid (fun q x hq hx => by
          by_cases hqj : q = j
          · subst hqj; rw [he] at hx; injection hx with hx; rw [← hx]; exact hlq
          · exact HLO.out q x (by omega) hx)
        clear hMr hkN hbr z1 z2 he hlq
        go_upto_region 6 with fail
        go_quiet (fail)
        go_wp2_with fail
        go_roundw
        case rel => exact ⟨j + 1, by omega, by go_num, HL2, by first | exact bk | exact (bk.trans ((drewN_below10 _ _).mono bk.size))⟩
        case measure => simp [intOf]; omega
      · have HHI : Hid (∀ e, L[j]? = some e → qi ≤ e.1) := Lib.hid (fun x hx => by
          rcases hex with ⟨e, he, h, _⟩ | h
          · rw [he] at hx; injection hx with hx; rw [← hx]; exact h
          · rw [h, List.getElem?_eq_none (Nat.le_refl _)] at hx; cases hx)
        have HJN : Hid (j ≤ L.length) := Lib.hid hj
        rcases hex with ⟨e, he, hlq, hjl⟩ | hex
        · obtain ⟨g, rfl, z0, z1, z2⟩ := hMr.cells j e he
          have f1 : decide ((j : Int) < (L.length : Int)) = true := by simp; omega
          have f2 : decide (e.1 < qi) = false := by simp; omega
          have hji : (j : Int) < (L.length : Int) := by omega
          clear hMr hbr z1 z2 he hlq
          go_upto_region 6 with fail
          go_quiet (fail)
          go_wp2_with fail
          go_meet
          exact ⟨j, HJN.out, rfl, HLO, HHI, by first | exact bk | exact (bk.trans ((drewN_below10 _ _).mono bk.size))⟩
        · have f1 : decide ((j : Int) < (L.length : Int)) = false := by simp; omega
          clear hMr hbr hex
          go_upto_region 6 with fail
          have HC6 : Hid (∀ W : World, Below wr.drew.heap.size wr.drew W → W.cell? ⟨mp, 0, none⟩ = some (Value.slice a L.length cap)) := Lib.hid fun W hW => (HM.out.below (b2.trans ((bk.trans (((Below.refl _ wr).drew.trans (hW.mono (Nat.le_refl _))).mono bk.size)).mono b2.size))).cell
          have HD6 : Hid (∀ W : World, Below wr.drew.heap.size wr.drew W → Below w2.heap.size w2 W) := Lib.hid fun W hW => bk.trans (((Below.refl _ wr).drew.trans (hW.mono (Nat.le_refl _))).mono bk.size)
          have HLS := Lib.hid f1
          go_cut [50] (fun p wx => p = .bool false ∧ Below w2.heap.size w2 wx)
          case first =>
            refine wp_region_steps (FR6 mp a L.length cap j) (fun w w' => Below w.heap.size w w') (by kernel_rfl) (by kernel_rfl) (by kernel_rfl) (Below.refl _ _) ?_ (fun u v w h1 h2 => h1.trans (h2.mono h1.size)) ?_ ?_
            · intro i v w w' _ h1 h2
              exact FR6_keep i h1
            · intro i o ho x w1 hR hF
              match i, ho with
              | 0, ho =>
                obtain rfl := Option.some.inj ho
                exact gstep_move rfl (wanted0 rfl) _ rfl _ (eval_of 9 _ (by kernel_rfl) rfl) ⟨_, rfl, rfl, Below.refl _ _⟩
              | 1, ho =>
                obtain rfl := Option.some.inj ho
                exact gstep_move rfl (wanted0 rfl) _ rfl _ (eval_of 0 _ (by kernel_rfl) rfl) ⟨_, rfl, rfl, Below.refl _ _⟩
              | 2, ho =>
                obtain rfl := Option.some.inj ho
                exact gstep_nil rfl (wanted0 rfl) _ rfl _ (eval_at 32 1 _ (by kernel_rfl) (show 32 < 220 by decide) (hF 1 (by kernel_rfl))) ⟨_, rfl, rfl, Below.refl _ _⟩
              | 3, ho =>
                obtain rfl := Option.some.inj ho
                exact gstep_field rfl (wanted0 rfl) _ _ _ rfl _ (eval_at 33 2 _ (by kernel_rfl) (show 33 < 220 by decide) (hF 2 (by kernel_rfl))) _ (run_mdf w1 _) ⟨_, rfl, rfl, Below.refl _ _⟩
              | 4, ho =>
                obtain rfl := Option.some.inj ho
                exact gstep_load rfl (wanted0 rfl) _ _ rfl _ (eval_at 34 3 _ (by kernel_rfl) (show 34 < 220 by decide) (hF 3 (by kernel_rfl))) _ (run_loadMs w1 _ _ _ _ (HC6.out w1 hR)) ⟨_, rfl, rfl, Below.refl _ _⟩
              | 5, ho =>
                obtain rfl := Option.some.inj ho
                exact gstep_len rfl (wanted0 rfl) _ rfl _ _ _ (eval_at 35 4 _ (by kernel_rfl) (show 35 < 220 by decide) (hF 4 (by kernel_rfl))) ⟨_, rfl, rfl, Below.refl _ _⟩
              | 6, ho =>
                obtain rfl := Option.some.inj ho
                exact gstep_bin rfl (wanted0 rfl) _ _ _ _ _ rfl _ _ (eval_at 31 0 _ (by kernel_rfl) (show 31 < 220 by decide) (hF 0 (by kernel_rfl))) (eval_at 36 5 _ (by kernel_rfl) (show 36 < 220 by decide) (hF 5 (by kernel_rfl))) _ (run_lssF w1 _ _ HLS.out _ _) ⟨_, rfl, rfl, Below.refl _ _⟩
              | 7, ho =>
                obtain rfl := Option.some.inj ho
                exact gstep_move rfl (wanted0 rfl) _ rfl _ (eval_at 37 6 _ (by kernel_rfl) (show 37 < 220 by decide) (hF 6 (by kernel_rfl))) ⟨_, rfl, rfl, Below.refl _ _⟩
              | 8, ho =>
                obtain rfl := Option.some.inj ho
                exact gstep_skip rfl (wanted_at 38 7 true _ false rfl (by kernel_rfl) (show 38 < 220 by decide) (hF 7 (by kernel_rfl)) rfl) ⟨_, rfl, rfl, Below.refl _ _⟩
              | 9, ho =>
                obtain rfl := Option.some.inj ho
                exact gstep_skip rfl (wanted_at 38 7 true _ false rfl (by kernel_rfl) (show 38 < 220 by decide) (hF 7 (by kernel_rfl)) rfl) ⟨_, rfl, rfl, Below.refl _ _⟩
              | 10, ho =>
                obtain rfl := Option.some.inj ho
                exact gstep_skip rfl (wanted_at 38 7 true _ false rfl (by kernel_rfl) (show 38 < 220 by decide) (hF 7 (by kernel_rfl)) rfl) ⟨_, rfl, rfl, Below.refl _ _⟩
              | 11, ho =>
                obtain rfl := Option.some.inj ho
                exact gstep_skip rfl (wanted_at 38 7 true _ false rfl (by kernel_rfl) (show 38 < 220 by decide) (hF 7 (by kernel_rfl)) rfl) ⟨_, rfl, rfl, Below.refl _ _⟩
              | 12, ho =>
                obtain rfl := Option.some.inj ho
                exact gstep_skip rfl (wanted_at 38 7 true _ false rfl (by kernel_rfl) (show 38 < 220 by decide) (hF 7 (by kernel_rfl)) rfl) ⟨_, rfl, rfl, Below.refl _ _⟩
              | 13, ho =>
                obtain rfl := Option.some.inj ho
                exact gstep_skip rfl (wanted_at 38 7 true _ false rfl (by kernel_rfl) (show 38 < 220 by decide) (hF 7 (by kernel_rfl)) rfl) ⟨_, rfl, rfl, Below.refl _ _⟩
              | 14, ho =>
                obtain rfl := Option.some.inj ho
                exact gstep_skip rfl (wanted_at 38 7 true _ false rfl (by kernel_rfl) (show 38 < 220 by decide) (hF 7 (by kernel_rfl)) rfl) ⟨_, rfl, rfl, Below.refl _ _⟩
              | 15, ho =>
                obtain rfl := Option.some.inj ho
                exact gstep_skip rfl (wanted_at 38 7 true _ false rfl (by kernel_rfl) (show 38 < 220 by decide) (hF 7 (by kernel_rfl)) rfl) ⟨_, rfl, rfl, Below.refl _ _⟩
              | 16, ho =>
                obtain rfl := Option.some.inj ho
                exact gstep_skip rfl (wanted_at 38 7 true _ false rfl (by kernel_rfl) (show 38 < 220 by decide) (hF 7 (by kernel_rfl)) rfl) ⟨_, rfl, rfl, Below.refl _ _⟩
              | 17, ho =>
                obtain rfl := Option.some.inj ho
                exact gstep_skip rfl (wanted_at 38 7 true _ false rfl (by kernel_rfl) (show 38 < 220 by decide) (hF 7 (by kernel_rfl)) rfl) ⟨_, rfl, rfl, Below.refl _ _⟩
              | 18, ho =>
                obtain rfl := Option.some.inj ho
                exact gstep_skip rfl (wanted_at 38 7 true _ false rfl (by kernel_rfl) (show 38 < 220 by decide) (hF 7 (by kernel_rfl)) rfl) ⟨_, rfl, rfl, Below.refl _ _⟩
              | 19, ho =>
                obtain rfl := Option.some.inj ho
                exact gstep_pick rfl (wanted0 rfl) _ _ _ rfl false (eval_at 38 7 _ (by kernel_rfl) (show 38 < 220 by decide) (hF 7 (by kernel_rfl))) _ (by rw [if_neg (by decide)]; exact rfl) ⟨_, rfl, rfl, Below.refl _ _⟩
              | n + 20, ho => simp at ho
            · intro x w1 hR hF
              have h19 : x 19 = .bool false := hF 19 (by decide)
              simp only [putAll, Act.put, List.setIfInBounds_toArray, List.set_cons_succ, List.set_cons_zero]
              go_wp2_with fail
              go_meet
              exact ⟨h19, HD6.out w1 hR⟩
          case rest =>
            obtain ⟨rfl, b66⟩ := hcut
            go_wp2_with fail
            go_meet
            exact ⟨j, HJN.out, rfl, HLO, HHI, b66⟩
  case rest =>
    clear hq
    obtain ⟨j, hj, rfl, HLO, HHI, bk⟩ := hcut
    obtain ⟨wq, hwq⟩ : ∃ wq, wq = wc := ⟨_, rfl⟩
    subst hwq
    have HJN : Hid (j ≤ L.length) := Lib.hid hj
    have hcap := HM.out.cap_le
    have HNL : Hid (L.length ≤ cap ∧ L.length ≤ 1000) := Lib.hid ⟨hcap.1, hl1000⟩
    have hbq := b2.trans (bk.mono b2.size)
    have HMQ := Lib.hid (HM.out.below hbq)
    have HBQ := Lib.hid hbq
    have hNq := Lib.hid ((bk.block w.heap.size hlt2).trans HN2.out)
    have hsq : w.heap.size < wq.heap.size := (Array.getElem?_eq_some_iff.1 hNq.out).1
    go_upto_region 8 with fail
    go_cut [10] (fun v w5 => ∃ g5 c10, v = .slice (some ⟨g5, 0, none⟩) (L.length - j) c10 ∧ Below wq.heap.size wq w5 ∧ (∀ W : World, Below w5.heap.size w5 W → ∀ i u, (meCells (L.drop j))[i]? = some u → W.cell? ((⟨g5, 0, none⟩ : Addr).add i) = some u))
    case first =>
      have x1 := HMQ.out.cell
      have hmq := HMQ.out.ltm
      have hmne : ¬ mp = wq.heap.size := by omega
      have hmne2 : ¬ wq.heap.size = mp := by omega
      have hj8 : (j : Int) ≤ (L.length : Int) := by omega
      have RM := World.ownsRow_made (base := wq.heap.size) (e := 48) (size := 3) wq #[] 0 (Nat.le_refl _) (Nat.zero_le _) rfl
      obtain ⟨i1, hi1, hz1, hz2, hz3⟩ := info_parts info_me
      rcases HM.out.form with ⟨rfl, hLn, rfl⟩ | ⟨g, rfl⟩
      · have HZ : Hid (L.length = 0 ∧ j = 0 ∧ L.drop j = []) := Lib.hid (by subst hLn; exact ⟨rfl, by simpa using hj, by simp⟩)
        have hj0 := HZ.out.2.1
        have hL0 := HZ.out.1
        rw [hL0] at x1
        subst hj0
        clear hLn hL0
        go_wp2_with (at_builtin; refine wpList_append_own_none rfl _ _ _ rfl wq.heap.size 48 i1 3 und_mes hi1 (.slice (some ⟨wq.heap.size, 0, none⟩) 0 0) 0 [] rfl RM rfl ?_; go_frame)
        have bA5 := (Below.refl _ wq).alloc (Nat.le_refl _) (.cells #[] 48)
        go_meet
        exact ⟨wq.heap.size, 0, by rw [HZ.out.1], bA5, fun W hW i u hu => by rw [HZ.out.2.2] at hu; simp [meCells] at hu⟩
      · by_cases hcj : cap = j
        · subst hcj
          have HZ : Hid (L.drop cap = []) := Lib.hid (List.drop_of_length_le hcap.1)
          have HZ0 : Hid (L.length - cap = 0) := Lib.hid (by omega)
          have HNA : Hid (∀ q u, ([] : List Value)[q]? = some u → (wq.alloc (.cells #[] 48)).cell? ((⟨g, 0, none⟩ : Addr).add q) = some u) := Lib.hid (fun q u hq => by simp at hq)
          go_wp2_with (at_builtin; refine wpList_append_own _ rfl _ _ _ rfl wq.heap.size 48 i1 _ 3 32 und_mes hi1 hz1 hz2 hz3 rfl (by decide) (.slice (some ⟨wq.heap.size, 0, none⟩) 0 0) 0 [] rfl RM ⟨g, 0, none⟩ 0 0 ([]) rfl rfl (fun q u hq => HNA.out q u hq) (fun u hu => by cases hu) (by unfold maxLen; omega) (by omega) (by simp) ?_; intro v5 w5 hown5 hgrow5 hiff5; go_frame)
          rw [Nat.zero_add, List.nil_append] at hown5
          have hv5 : ∃ g5 c5, v5 = .slice (some ⟨g5, 0, none⟩) 0 c5 := by
            rcases hown5.2 with ⟨h3, _⟩ | ⟨g5, c5, cur, h3, _⟩
            · have := (hiff5.1 h3).1; cases this
            · exact ⟨g5, c5, h3⟩
          obtain ⟨g5, c10, rfl⟩ := hv5
          have bA5 := (Below.refl _ wq).alloc (Nat.le_refl _) (.cells #[] 48)
          have b5 : Below wq.heap.size wq w5 := bA5.grown hgrow5 bA5.size (fun q hq => by simp [Value.ownBlock] at hq; omega)
          go_meet
          exact ⟨g5, c10, by rw [HZ0.out], b5, fun W hW i u hu => by rw [HZ.out] at hu; simp [meCells] at hu⟩
        · have hj4 : ¬ cap = j := hcj
          have hj5 : ¬ j = cap := fun e => hcj e.symm
          have hj7 : j < cap := by omega
          have hj6 : (j : Int) ≤ (cap : Int) := by omega
          have HNA : Hid (∀ q u, (meCells (L.drop j))[q]? = some u → (wq.alloc (.cells #[] 48)).cell? ((⟨g, j * 3, none⟩ : Addr).add q) = some u) := Lib.hid (fun q u hq => by
            rw [meCells_drop] at hq
            have hlt := (List.getElem?_eq_some_iff.1 hq).1
            rw [meCells_len] at hlt
            rw [show (⟨g, j * 3, none⟩ : Addr).add q = ⟨g, j * 3 + q, none⟩ by simp [Addr.add], ((Below.refl wq.heap.size wq).alloc (Nat.le_refl _) _).cell (p := ⟨g, j * 3 + q, none⟩) (HMQ.out.ltg rfl), HMQ.out.row.cellAt (j * 3 + q) hlt, hq])
          go_wp2_with (at_builtin; refine wpList_append_own _ rfl _ _ _ rfl wq.heap.size 48 i1 _ 3 32 und_mes hi1 hz1 hz2 hz3 rfl (by decide) (.slice (some ⟨wq.heap.size, 0, none⟩) 0 0) 0 [] rfl RM ⟨g, j * 3, none⟩ (L.length - j) (cap - j) (meCells (L.drop j)) rfl (by rw [meCells_len, List.length_drop]) (fun q u hq => HNA.out q u hq) (meCells_one _) (by unfold maxLen; omega) (by omega) (by simp) ?_; intro v5 w5 hown5 hgrow5 hiff5; go_frame)
          rw [Nat.zero_add, List.nil_append] at hown5
          have hv5 : ∃ g5 c5, v5 = .slice (some ⟨g5, 0, none⟩) (L.length - j) c5 := by
            rcases hown5.2 with ⟨h3, _⟩ | ⟨g5, c5, cur, h3, _⟩
            · have := (hiff5.1 h3).1; cases this
            · exact ⟨g5, c5, h3⟩
          obtain ⟨g5, c10, rfl⟩ := hv5
          have bA5 := (Below.refl _ wq).alloc (Nat.le_refl _) (.cells #[] 48)
          have b5 : Below wq.heap.size wq w5 := bA5.grown hgrow5 bA5.size (fun q hq => by simp [Value.ownBlock] at hq; omega)
          go_meet
          exact ⟨g5, c10, rfl, b5, (fun W hW i u hu => by
            have hlt := (List.getElem?_eq_some_iff.1 hu).1
            have hg5 := (hown5.lt g5 rfl).2
            rw [show (⟨g5, 0, none⟩ : Addr).add i = ⟨g5, i, none⟩ by rw [Addr.add_lit, Nat.zero_add], hW.cell (p := ⟨g5, i, none⟩) hg5, hown5.cellAt i (by rw [meCells_len, List.length_drop] at hlt; omega), hu])⟩
    case rest =>
      obtain ⟨g5, c10, rfl, b55, hod⟩ := hcut
      obtain ⟨w5, hw5⟩ : ∃ w5, w5 = wc := ⟨_, rfl⟩
      subst hw5
      have b5 : Below w.heap.size w w5 := HBQ.out.trans (b55.mono HBQ.out.size)
      have N5 := (b55.block w.heap.size hsq).trans hNq.out
      obtain ⟨ad, had⟩ : ∃ ad : Addr, ad = ⟨g5, 0, none⟩ := ⟨_, rfl⟩
      rw [← had] at hod ⊢
      have HOD0 := Lib.hid hod
      clear hod had b55 hbq hsq
      have HB5 := Lib.hid b5
      have HN5 : Hid (w5.heap[w.heap.size]? = some (.cells #[.int .i64 qk, .int .i64 qi, .int .i64 qr, .string qa] 32 (0, 0))) := Lib.hid N5
      have hlt5 : w.heap.size < w5.heap.size := (Array.getElem?_eq_some_iff.1 N5).1
      obtain ⟨wd, hwd⟩ : ∃ wd, wd = w5 := ⟨_, rfl⟩
      subst hwd
      have HDR : Hid (∀ W : World, Below wd.drew.heap.size wd.drew W → Below w.heap.size w W) := Lib.hid fun W hW => HB5.out.trans (((Below.refl _ wd).drew.trans (hW.mono (Nat.le_refl _))).mono HB5.out.size)
      have HCE : Hid (∀ W : World, Below wd.drew.heap.size wd.drew W → W.cell? ⟨mp, 0, none⟩ = some (Value.slice a L.length cap) ∧ W.cell? ⟨w.heap.size, 1, none⟩ = some (.int .i64 qi) ∧ W.frozen? ⟨mp, 0, none⟩ = false) := Lib.hid fun W hW => by
        have hW' : Below wd.heap.size wd W := (Below.refl _ wd).drew.trans (hW.mono (Nat.le_refl _))
        have hN := (hW'.block w.heap.size hlt5).trans HN5.out
        exact ⟨(HM.out.below (HDR.out W hW)).cell, by simp [World.cell?, hN], (HM.out.below (HDR.out W hW)).frz⟩
      have HNO : Hid ((a : Option Addr) = none → L.length = 0 ∧ cap = 0) := Lib.hid fun h => by
        rcases HM.out.form with ⟨_, h3, h4⟩ | ⟨g', h3⟩
        · exact ⟨by rw [h3]; rfl, h4⟩
        · rw [h] at h3; cases h3
      have HLT : Hid ((meCells (L.take j)).length = j * 3) := Lib.hid (by rw [meCells_len, List.length_take, Nat.min_eq_left HJN.out])
      have HLD : Hid ((meCells (L.drop j)).length = (L.length - j) * 3) := Lib.hid (by rw [meCells_len, List.length_drop])
      have HLE : Hid (j + 1 + (L.length - j) = L.length + 1) := Lib.hid (by have := HJN.out; omega)
      have HOL : Hid (∀ W : World, Below wd.drew.heap.size wd.drew W → ∀ b, (a : Option Addr) = some b → ∀ i u, (meCells (L.take j))[i]? = some u → W.cell? (b.add i) = some u) := Lib.hid fun W hW b hb i u hu => by
        rcases HM.out.form with ⟨h3, _, _⟩ | ⟨g', h3⟩
        · rw [hb] at h3; cases h3
        · rw [hb] at h3
          obtain rfl : b = ⟨g', 0, none⟩ := Option.some.inj h3
          have h1 := meCells_take L j i u hu
          have hlt := (List.getElem?_eq_some_iff.1 h1).1
          rw [meCells_len] at hlt
          have hm := HM.out.below (HDR.out W hW)
          rw [hb] at hm
          rw [show (⟨g', 0, none⟩ : Addr).add i = ⟨g', i, none⟩ by rw [Addr.add_lit, Nat.zero_add], hm.row.cellAt i hlt, h1]
      have HOD : Hid (∀ W : World, Below wd.drew.heap.size wd.drew W → ∀ i u, (meCells (L.drop j))[i]? = some u → W.cell? (ad.add i) = some u) := Lib.hid fun W hW i u hu => HOD0.out W ((Below.refl _ wd).drew.trans (hW.mono (Nat.le_refl _))) i u hu
      clear b5 N5
      go_upto_region 9 with fail
      refine wp_region_inv_last 17 (IFJ (FOp mp w.heap.size a L.length cap j qi ad c10) (JOp wd.drew L j qi)) (by kernel_rfl) (by kernel_rfl) (by kernel_rfl) (by kernel_rfl) (by kernel_rfl) ?_ ?_ ?_
      · intro x
        exact ⟨fun j hj => (by cases hj), Below.refl _ _, (by simp), (by simp), (by simp)⟩
      · intro i o hi ho b x w1 hI hbi hW
        have hF : ∀ k, Region.waitsFor .any _ i k = true → FOp mp w.heap.size a L.length cap j qi ad c10 k (x k) := fun k hk => hI.1 k (hW k hk)
        match i, ho with
        | 0, ho =>
          obtain rfl := Option.some.inj ho
          exact gstep_move rfl (wanted0 rfl) _ rfl _ (eval_of 0 _ (by kernel_rfl) rfl) ⟨_, rfl, IFJ.step hI rfl (JOp.pure hI.2 (by decide))⟩
        | 1, ho =>
          obtain rfl := Option.some.inj ho
          exact gstep_move rfl (wanted0 rfl) _ rfl _ (eval_of 0 _ (by kernel_rfl) rfl) ⟨_, rfl, IFJ.step hI rfl (JOp.pure hI.2 (by decide))⟩
        | 2, ho =>
          obtain rfl := Option.some.inj ho
          exact gstep_nil rfl (wanted0 rfl) _ rfl _ (eval_at 62 1 _ (by kernel_rfl) (show 62 < 220 by decide) (hF 1 (by kernel_rfl))) ⟨_, rfl, IFJ.step hI rfl (JOp.pure hI.2 (by decide))⟩
        | 3, ho =>
          obtain rfl := Option.some.inj ho
          exact gstep_field rfl (wanted0 rfl) _ _ _ rfl _ (eval_at 63 2 _ (by kernel_rfl) (show 63 < 220 by decide) (hF 2 (by kernel_rfl))) _ (run_mdf w1 _) ⟨_, rfl, IFJ.step hI rfl (JOp.pure hI.2 (by decide))⟩
        | 4, ho =>
          obtain rfl := Option.some.inj ho
          exact gstep_load rfl (wanted0 rfl) _ _ rfl _ (eval_at 64 3 _ (by kernel_rfl) (show 64 < 220 by decide) (hF 3 (by kernel_rfl))) _ (run_loadMs w1 _ _ _ _ (HCE.out w1 hI.2.1).1) ⟨_, rfl, IFJ.step hI rfl (JOp.pure hI.2 (by decide))⟩
        | 5, ho =>
          obtain rfl := Option.some.inj ho
          exact gstep_move rfl (wanted0 rfl) _ rfl _ (eval_of 9 _ (by kernel_rfl) rfl) ⟨_, rfl, IFJ.step hI rfl (JOp.pure hI.2 (by decide))⟩
        | 6, ho =>
          obtain rfl := Option.some.inj ho
          exact gstep_move rfl (wanted0 rfl) _ rfl _ (eval_of 9 _ (by kernel_rfl) rfl) ⟨_, rfl, IFJ.step hI rfl (JOp.pure hI.2 (by decide))⟩
        | 7, ho =>
          obtain rfl := Option.some.inj ho
          exact gstep_slice3 rfl (wanted0 rfl) _ _ _ _ rfl _ _ _ (eval_at 65 4 _ (by kernel_rfl) (show 65 < 220 by decide) (hF 4 (by kernel_rfl))) (eval_at 66 5 _ (by kernel_rfl) (show 66 < 220 by decide) (hF 5 (by kernel_rfl))) (eval_at 67 6 _ (by kernel_rfl) (show 67 < 220 by decide) (hF 6 (by kernel_rfl))) _ (run_cut3 w1 _ _ _ _ HJN.out HNL.out HNO.out) ⟨_, rfl, IFJ.step hI rfl (JOp.pure hI.2 (by decide))⟩
        | 8, ho =>
          obtain rfl := Option.some.inj ho
          exact gstep_field rfl (wanted0 rfl) _ _ _ rfl _ (eval_of 5 _ (by kernel_rfl) rfl) _ (run_fA1 w1 _) ⟨_, rfl, IFJ.step hI rfl (JOp.pure hI.2 (by decide))⟩
        | 9, ho =>
          obtain rfl := Option.some.inj ho
          exact gstep_load rfl (wanted0 rfl) _ _ rfl _ (eval_at 69 8 _ (by kernel_rfl) (show 69 < 220 by decide) (hF 8 (by kernel_rfl))) _ (run_loadI w1 _ _ (HCE.out w1 hI.2.1).2.1) ⟨_, rfl, IFJ.step hI rfl (JOp.pure hI.2 (by decide))⟩
        | 10, ho =>
          obtain rfl := Option.some.inj ho
          exact gstep_build1 rfl (wanted0 rfl) _ _ _ rfl _ (eval_at 70 9 _ (by kernel_rfl) (show 70 < 220 by decide) (hF 9 (by kernel_rfl))) _ (run_bEnt w1 _) ⟨_, rfl, IFJ.step hI rfl (JOp.pure hI.2 (by decide))⟩
        | 11, ho =>
          obtain rfl := Option.some.inj ho
          exact gstep_row1 rfl (wanted0 rfl) _ _ rfl _ (eval_at 71 10 _ (by kernel_rfl) (show 71 < 220 by decide) (hF 10 (by kernel_rfl))) _ _ (run_row1 w1 _) ⟨_, rfl, IFJ.step hI trivial (JOp.one hI.2 hbi)⟩
        | 12, ho =>
          obtain rfl := Option.some.inj ho
          obtain ⟨i1, hi1, hz1, hz2, hz3⟩ := info_parts info_me
          have hb1 : b 11 = true := hW 11 (by kernel_rfl)
          obtain ⟨g1, hx1, hg1⟩ := JOp.at11 hI.2 hb1 hbi
          refine gstep_grow rfl (wanted0 rfl) rfl _ _ _ rfl 48 i1 _ 3 32 und_mes hi1 hz1 hz2 hz3 rfl (by decide) _ j j (meCells (L.take j)) (eval_at 68 7 _ (by kernel_rfl) (show 68 < 220 by decide) (hF 7 (by kernel_rfl))) (fun h => by have := HNO.out h; have := HJN.out; omega) HLT.out (fun b hb i u hu => HOL.out w1 hI.2.1 b hb i u hu) ⟨g1, 0, none⟩ 1 1 (meCells [(qi, Ss.zero)]) (eval_at 72 11 _ (by kernel_rfl) (show 72 < 220 by decide) hx1) rfl (World.news_of_block hg1) (meCells_one _) (by omega) (by have := HJN.out; have := HNL.out; unfold maxLen; omega) (by have := HJN.out; have := HNL.out; omega) ?_
          intro v' w' ho hg
          exact ⟨_, rfl, IFJ.step hI trivial (JOp.two hI.2 hb1 hbi ho hg)⟩
        | 13, ho =>
          obtain rfl := Option.some.inj ho
          exact gstep_move rfl (wanted0 rfl) _ rfl _ (eval_of 10 _ (by kernel_rfl) rfl) ⟨_, rfl, IFJ.step hI rfl (JOp.pure hI.2 (by decide))⟩
        | 14, ho =>
          obtain rfl := Option.some.inj ho
          obtain ⟨i1, hi1, hz1, hz2, hz3⟩ := info_parts info_me
          have hb2 : b 12 = true := hW 12 (by kernel_rfl)
          have hown := JOp.at12 hI.2 hb2 hbi
          refine gstep_append rfl (wanted0 rfl) _ _ _ rfl wd.drew.heap.size 48 i1 _ 3 32 und_mes hi1 hz1 hz2 hz3 rfl (by decide) _ (j + 1) (meCells (L.take j ++ [(qi, Ss.zero)])) (eval_at 73 12 _ (by kernel_rfl) (show 73 < 220 by decide) rfl) hown ad (L.length - j) c10 (meCells (L.drop j)) (eval_at 74 13 _ (by kernel_rfl) (show 74 < 220 by decide) (hF 13 (by kernel_rfl))) HLD.out (fun i u hu => HOD.out w1 hI.2.1 i u hu) (meCells_one _) (by have := HJN.out; have := HNL.out; unfold maxLen; omega) (by have := HJN.out; have := HNL.out; omega) hI.2.1.size ?_
          intro v' w' ho hg
          exact ⟨_, rfl, IFJ.step hI trivial (JOp.three hI.2 hb2 hbi hown (HLE.out ▸ ho) hg)⟩
        | 15, ho =>
          obtain rfl := Option.some.inj ho
          exact gstep_nil rfl (wanted0 rfl) _ rfl _ (eval_at 61 0 _ (by kernel_rfl) (show 61 < 220 by decide) (hF 0 (by kernel_rfl))) ⟨_, rfl, IFJ.step hI rfl (JOp.pure hI.2 (by decide))⟩
        | 16, ho =>
          obtain rfl := Option.some.inj ho
          exact gstep_field rfl (wanted0 rfl) _ _ _ rfl _ (eval_at 76 15 _ (by kernel_rfl) (show 76 < 220 by decide) (hF 15 (by kernel_rfl))) _ (run_mdf w1 _) ⟨_, rfl, IFJ.step hI rfl (JOp.pure hI.2 (by decide))⟩
        | n + 17, ho => omega
      · intro o ho b x w9 hI hA
        obtain rfl := Option.some.inj ho
        have hF : ∀ k, k < 17 → FOp mp w.heap.size a L.length cap j qi ad c10 k (x k) := fun k hk => hI.1 k (hA k hk)
        have hrow := JOp.at14 hI.2 (hA 14 (by decide))
        have hform : ∃ g9 c9, x 14 = .slice (some ⟨g9, 0, none⟩) (L.length + 1) c9 := by
          rcases hrow.2 with ⟨_, h3⟩ | ⟨g9, c9, cur, h3, _⟩
          · omega
          · exact ⟨g9, c9, h3⟩
        obtain ⟨g9, c9, hx14⟩ := hform
        rw [hx14] at hrow
        refine gstep_store rfl (wanted0 rfl) _ _ _ rfl _ _ (eval_at 77 16 _ (by kernel_rfl) (show 77 < 220 by decide) (hF 16 (by decide))) (eval_at 75 14 _ (by kernel_rfl) (show 75 < 220 by decide) hx14) _ (run_storeMs w9 _ _ _ _ _ (HCE.out w9 hI.2.1).1 (HCE.out w9 hI.2.1).2.2) ?_
        have b9 := hI.2.1
        simp only [putAll, Act.put, List.setIfInBounds_toArray, List.set_cons_succ, List.set_cons_zero]
        clear hF hA hI
        have b9' := HDR.out _ b9
        have hlen : (L.take j ++ (qi, Ss.zero) :: L.drop j).length = L.length + 1 := by
          have := HJN.out
          rw [List.length_append, List.length_take, List.length_cons, List.length_drop, Nat.min_eq_left (by omega)]; omega
        have M9 := HM.out.below b9'
        have hmpw : mp < wd.heap.size := Nat.lt_of_lt_of_le HM.out.ltm HB5.out.size
        have hg9 : wd.heap.size ≤ g9 := (hrow.lt g9 rfl).1
        have TB9 : TbX (w9.setCell ⟨mp, 0, none⟩ (.slice (some ⟨g9, 0, none⟩) (L.length + 1) c9)) tb mb k := by
          have hT9 := H2.out.table.below b9'
          exact hT9.keep (Below.heap_setCell w9 ⟨mp, 0, none⟩ _ tb H2.out.ne.1) (Below.heap_setCell w9 ⟨mp, 0, none⟩ _ mb H2.out.ne.2.1)
        have MO9 : MoW (w9.setCell ⟨mp, 0, none⟩ (.slice (some ⟨g9, 0, none⟩) (L.length + 1) c9)) mp (some ⟨g9, 0, none⟩) c9 (L.take j ++ (qi, Ss.zero) :: L.drop j) := by
          rw [← hlen] at hrow ⊢
          refine ⟨?_, (ownsRow_less hrow (Nat.zero_le _)).kept (row := some mp) ⟨rfl, rfl, rfl, by simp, fun k _ hk => heap_setCell_other w9 ⟨mp, 0, none⟩ k _ (fun e => hk (by simp [e]))⟩ (.inr (by simp [Value.ownBlock]; omega)), .inr ⟨g9, rfl⟩⟩
          have := bset (i := 0) (u := .slice (some ⟨g9, 0, none⟩) (L.take j ++ (qi, Ss.zero) :: L.drop j).length c9) M9.box
          simpa using this
        have N9 := (b9.block w.heap.size (by exact hlt5)).trans (show wd.drew.heap[w.heap.size]? = _ from HN5.out)
        have hwm : w.heap.size ≠ mp := by have := HM.out.ltm; omega
        have c1' : (w9.setCell ⟨mp, 0, none⟩ (.slice (some ⟨g9, 0, none⟩) (L.length + 1) c9)).cell? ⟨w.heap.size, 1, none⟩ = some (.int .i64 qi) := by
          have h5 : (w9.setCell ⟨mp, 0, none⟩ (.slice (some ⟨g9, 0, none⟩) (L.length + 1) c9)).heap[w.heap.size]? = _ := (Below.heap_setCell w9 ⟨mp, 0, none⟩ _ w.heap.size hwm).trans N9
          simp [World.cell?, h5]
        have bx : Below m w (w9.setCell ⟨mp, 0, none⟩ (.slice (some ⟨g9, 0, none⟩) (L.length + 1) c9)) := (b9'.mono hm0).setCell (p := ⟨mp, 0, none⟩) H2.out.above.2.2.1 _
        have ox : Onl w (w9.setCell ⟨mp, 0, none⟩ (.slice (some ⟨g9, 0, none⟩) (L.length + 1) c9)) mb mp a := (Onl.below b9').box _
        have hmbs : mb < wd.heap.size := Nat.lt_of_lt_of_le H2.out.table.mlt HB5.out.size
        have htbs : tb < wd.heap.size := Nat.lt_of_lt_of_le H2.out.table.lt HB5.out.size
        have hwds : m ≤ wd.heap.size := Nat.le_trans hm0 HB5.out.size
        obtain ⟨wx, hwx⟩ : ∃ wx, wx = w9.setCell ⟨mp, 0, none⟩ (.slice (some ⟨g9, 0, none⟩) (L.length + 1) c9) := ⟨_, rfl⟩
        rw [← hwx] at TB9 MO9 c1' bx ox ⊢
        have HMO := Lib.hid MO9
        have HRI := Lib.hid (HIN.out j HLO.out HHI.out)
        clear hwx hrow M9 b9 b9' N9 MO9 hx14
        go_wp2_with fail
        refine (HOP.out _ TB9).mono ?_
        rintro e w10 ⟨⟨ev, rfl⟩, L10⟩
        have M10 := HMO.out.left L10.2 H2.out.ne.2.1 (fun g' h => by injection h with h; injection h with h _ _; omega)
        have b10 := bx.trans (leftX_below L10 H2.out.above.2.1 (Nat.le_trans hm0 bx.size))
        go_wp2_with fail
        go_ret
        refine ⟨⟨_, rfl⟩, b10, ox.left bx.size L10.2, c9, _, _, _, ⟨L10.1, M10, HRI.out, by rw [hlen]; omega, fun x s hx => ?_, ⟨H2.out.ne.1, H2.out.ne.2.1, fun g' h => ?_⟩, H2.out.above.1, H2.out.above.2.1, H2.out.above.2.2.1, ?_, fun g' h => ?_⟩, .inr (fun g' h => ?_)⟩
        · by_cases e : x = qi
          · rw [e, updS_same] at hx; injection hx with hx; rw [← hx]; exact ⟨⟨by unfold InR Ss.zero; simp, by unfold Ss.zero; decide, .inl rfl⟩, by rw [e]; exact HOQ.out⟩
          · rw [updS_other e] at hx; exact H2.out.small x s hx
        · injection h with h; injection h with h _ _; omega
        · exact Nat.le_trans hm0 b10.size
        · injection h with h; injection h with h _ _; omega
        · injection h with h; injection h with h _ _; have := HB5.out.size; omega
/-- Any act of both. -/
theorem dx_all (m tb mb k mp cap : Nat) (a : Option Addr) (T : Int → Option Ss) (L : List Me) (q : Sa) (w : World) (h2 : TwoX m w tb mb k mp cap a T L) (hid : InR q.id) (hrq : InR q.req) (hqa : q.ans.size ≤ 1000) (hk : k < 100000) :
    Calls Try.prog 12 #[.pointer (some ⟨mp, 0, none⟩), .pointer (some ⟨tb, 0, none⟩), actV q] w fun e w' => (∃ bv, e = .returned (.bool bv)) ∧ DoX m w w' tb mb k mp a := by
  obtain ⟨p, hp5, hp⟩ := pick5 q.k
  have hq' : p = 0 ∨ p = 1 ∨ p = 2 ∨ p = 3 ∨ p = 4 := by omega
  rcases hq' with rfl | rfl | rfl | rfl | rfl
  · cases hok : okN q.id
    · exact sdx_open_no m tb mb k mp cap a T L q w h2 hid hk hp (.inl hok)
    · cases hT : (T q.id).isSome
      · by_cases hc : 16 ≤ L.length
        · exact sdx_open_no m tb mb k mp cap a T L q w h2 hid hk hp (.inr (.inr hc))
        · exact sdx_open_ok m tb mb k mp cap a T L q w h2 hid hk hp hok (by cases h : T q.id; rfl; rw [h] at hT; cases hT) (by omega)
      · exact sdx_open_no m tb mb k mp cap a T L q w h2 hid hk hp (.inr (.inl hT))
  · exact sdx_close m tb mb k mp cap a T L q w h2 hid hk hp
  · exact sdx_keep m tb mb k mp cap a T L q 2 w h2 hid hrq hqa hk hp (.inl rfl)
  · exact sdx_keep m tb mb k mp cap a T L q 3 w h2 hid hrq hqa hk hp (.inr rfl)
  · exact sdx_seen m tb mb k mp cap a T L q w h2 hid hp
end Go.Proofs.Ytckengglamkaaaa
