/- A store beside its device, nothing amiss with the power: Open, Put and Lose in one statement each. No conditions beyond those in each statement. -/
import Derived.Test.YtiknfifiglooeaaDoorChunkMs
import Derived.Test.YtiknfifiglooeaaDoorChunkTx
namespace Go.Proofs.YtiknfifiglooeaaDoor
open Go Go.RowKit Go.Proofs.Tryd
set_option linter.unusedVariables false
set_option maxRecDepth 100000

theorem listF_in (r : Rc) : (listF r).Good ∨ listF r = ls0 := by
  unfold listF
  split
  · rename_i h
    refine .inl ⟨h.2.2, ?_, rdSm_in _ _⟩
    have := numF_most 6 281474976710655 (by decide) (some r.data.data.toList)
    exact this
  · exact .inr rfl
theorem cpC_in (C : Ct) (q : Nat) : (cpC C q).Good ∨ cpC C q = ls0 := listF_in _
theorem opS_in {C : Ct} {base ar n : Nat} {p : Ls × Int} (h : p.1.Good ∨ p.1 = ls0) (h2 : p.2 = 0 ∨ p.2 = 1) (ha : ar ≤ 1) : ((opS C base ar n p).1.Good ∨ (opS C base ar n p).1 = ls0) ∧ ((opS C base ar n p).2 = 0 ∨ (opS C base ar n p).2 = 1) := by
  unfold opS
  split
  · exact ⟨cpC_in _ _, by show (ar : Int) = 0 ∨ (ar : Int) = 1; omega⟩
  · exact ⟨h, h2⟩
theorem opnC_in (C : Ct) (base : Nat) : ((opnC C base).1.Good ∨ (opnC C base).1 = ls0) ∧ ((opnC C base).2 = 0 ∨ (opnC C base).2 = 1) := by
  have h0 : (((ls0, 0) : Ls × Int).1.Good ∨ ((ls0, 0) : Ls × Int).1 = ls0) ∧ (((ls0, 0) : Ls × Int).2 = 0 ∨ ((ls0, 0) : Ls × Int).2 = 1) := ⟨.inr rfl, .inl rfl⟩
  have h1 := opS_in (C := C) (base := base) (ar := 0) (n := 0) h0.1 h0.2 (by omega)
  have h2 := opS_in (C := C) (base := base) (ar := 0) (n := 1) h1.1 h1.2 (by omega)
  have h3 := opS_in (C := C) (base := base) (ar := 1) (n := 0) h2.1 h2.2 (by omega)
  exact opS_in (C := C) (base := base) (ar := 1) (n := 1) h3.1 h3.2 (by omega)
/-- A store and its device. -/
structure StC (m : Nat) (E : Nat → Prop) (w : World) (b B M base : Nat) (l : Ls) (sv : Value) (ar : Nat) (D : Dv) : Prop where
  sto : StoW m E w b B (base : Int) l sv (ar : Int) D
  calm : Calm D
  len : D.bs.length = M
  room : base + 132 ≤ M
  many : M ≤ 4096
  ar : ar ≤ 1
  lg : l.Good ∨ l = ls0
section
variable {m : Nat} {E : Nat → Prop} {w x : World} {b B M base : Nat} {l : Ls} {sv : Value} {ar : Nat} {D D' : Dv}
theorem StC.below (h : StC m E w b B M base l sv ar D) (hb : Below w.heap.size w x) : StC m E x b B M base l sv ar D := { h with sto := h.sto.below hb }
theorem StC.dev (h : StC m E w b B M base l sv ar D) : DevW m E w B D := h.sto.dev
theorem StC.w0 (h : StC m E w b B M base l sv ar D) : D.writes = 0 := h.calm.writes
theorem StC.turn (h : StC m E w b B M base l sv ar D) (hd : DevW m E x B D') (hk : Kept E w x) (hs : w.heap.size ≤ x.heap.size) (hc : Calm D') (hl : D'.bs.length = D.bs.length) : StC m E x b B M base l sv ar D' :=
  { h with sto := h.sto.turn hd hk (fun _ h => h) hs, calm := hc, len := hl.trans h.len }
/-- The device with its E, and what lies in the store's own blocks. -/
theorem st_open (hd : DevW m E w B D) (hc : Calm D) (hl : D.bs.length = M) (hr : base + 132 ≤ M) (hM : M ≤ 4096) (hm : m ≤ w.heap.size) (ht : Tabs w) :
    Calls Tryd.prog 34 #[.pointer (some ⟨B, 0, none⟩), .int .i64 (base : Int)] w fun e w' => ∃ b sv ar, e = .returned (.tuple #[.pointer (some ⟨b, 0, none⟩), .int .i64 0]) ∧ w.heap.size ≤ b ∧ ((ar : Nat) : Int) = (opnC (cont D) base).2 ∧
      StC m (fun k => E k ∨ (w.heap.size ≤ k ∧ k < w'.heap.size)) w' b B M base (opnC (cont D) base).1 sv ar D ∧ Below w.heap.size w w' := by
  have hop := openF_cont (D := D) (base := base) hc.down (by omega)
  obtain ⟨hin, har⟩ := opnC_in (cont D) base
  rcases hq : opnC (cont D) base with ⟨l, a⟩
  rw [hq] at hin har
  simp only at hin har
  rw [hq] at hop
  refine (copen_any (base : Int) hd ⟨by omega, by omega⟩ (by omega) (by omega) ht (by rw [hc.writes]; decide)).mono ?_
  rw [hop]
  rintro e w' ⟨hb, ⟨h1, _⟩ | ⟨_, b, sv, rfl, hbb, hcs, hrow⟩⟩
  · exact absurd rfl h1
  simp only at hcs hrow ⊢
  obtain ⟨ar, rfl⟩ : ∃ ar : Nat, (ar : Int) = a := ⟨a.toNat, by omega⟩
  refine ⟨b, sv, ar, rfl, hbb, rfl, ⟨⟨hd.growAllC hb, hcs, .inr ⟨hbb, hcs.lt⟩, Nat.le_trans hm hbb, ?_, ?_, ?_, ⟨by omega, by omega⟩, by omega⟩, hc, hl, hr, hM, by omega, hin⟩, hb⟩
  · refine SmR.of_row hrow ?_ ?_
    · rcases hin with h | h
      · have := h.in; omega
      · rw [h]; decide
    · rcases hin with h | h
      · exact h.sums
      · rw [h]; intro z hz; cases hz
  · intro g hg
    obtain ⟨h1, h2⟩ := World.ownsRow.lt hrow g hg
    refine ⟨.inr ⟨h1, h2⟩, fun e => ?_⟩
    subst e
    obtain ⟨cs, hcs'⟩ := ownsRow_block hrow hg
    unfold CsB at hcs
    rw [hcs'] at hcs
    simp at hcs
  · rcases hin with h | h
    · exact h.bytes
    · rw [h]; decide
/-- The area that the next snapshot takes. -/
def nxtA (l : Ls) (ar : Nat) : Nat := if l.index = 0 then 0 else 1 - ar
theorem nxtA_le (l : Ls) (ar : Nat) : nxtA l ar ≤ 1 := by unfold nxtA; split <;> omega
theorem nxtA_eq (h : ar ≤ 1) : nextA l.index (ar : Int) = (nxtA l ar : Int) := by
  unfold nextA nxtA
  split
  · rfl
  · omega
theorem st_put (i t : Int) (s : ByteArray) (h : StC m E w b B M base l sv ar D) (hg : (ofL i t s).Good) (hi : l.index < i) (hs : s.size ≤ 100000000) (hm : m ≤ w.heap.size) (ht : ∀ x, Below m w x → Tabs x) :
    Calls Tryd.prog 36 #[.pointer (some ⟨b, 0, none⟩), .int .i64 i, .int .i64 t, .string s] w fun e w' => e = .returned (.int .i64 0) ∧ ∃ E' sv' D', (∀ j, E j → E' j) ∧
      StC m E' w' b B M base (ofL i t s) sv' (nxtA l ar) D' ∧ cont D' = putC (cont D) (base + nxtA l ar * 66) i t s ∧ Below m w w' ∧ Kept (fun j => E j ∧ j ≠ b) w w' := by
  have hna := nxtA_le l ar
  have hne := nxtA_eq (l := l) h.ar
  obtain ⟨D', e1, c1, n1, k1⟩ := put_cont (D := D) (base := (base : Int)) (i0 := l.index) (area := (ar : Int)) (a := base + nxtA l ar * 66) h.calm.toLive hg (by rw [hne]; omega) (by have := h.len; have := h.room; omega) (by have := h.len; have := h.many; omega)
  have hbad : (ofL i t s).bad l.index = false := by
    unfold Ls.bad
    have := hg.valid
    rw [this]
    simp
    show l.index < i
    exact hi
  obtain ⟨i0, t0, n0, ss0⟩ := l
  refine (cput_any (ss0 := ss0) i t s hs h.sto hm ht (by rw [h.w0]; decide)).mono ?_
  rintro e w' ⟨c, rfl, hp, hb, hk⟩
  rcases hp with ⟨h1, _⟩ | ⟨_, rfl, E', hE, hp⟩
  · rw [hbad] at h1; cases h1
  simp only at hp e1 hne
  rw [e1] at hp
  rw [e1]
  rcases hp with ⟨_, sv', hp⟩ | ⟨h1, _⟩
  · rw [hne] at hp
    exact ⟨rfl, E', sv', D', hE, ⟨hp, c1, n1.trans h.len, h.room, h.many, hna, .inl hg⟩, k1, hb, hk⟩
  · exact absurd rfl h1
theorem st_put_bad (i t : Int) (s : ByteArray) (h : StC m E w b B M base l sv ar D) (hg : (ofL i t s).bad l.index = true) (hs : s.size ≤ 100000000) (hm : m ≤ w.heap.size) (ht : ∀ x, Below m w x → Tabs x) :
    Calls Tryd.prog 36 #[.pointer (some ⟨b, 0, none⟩), .int .i64 i, .int .i64 t, .string s] w fun e w' => e = .returned (.int .i64 1) ∧ StC m E w' b B M base l sv ar D ∧ Below m w w' ∧ Kept (fun j => E j ∧ j ≠ b) w w' := by
  obtain ⟨i0, t0, n0, ss0⟩ := l
  refine (cput_any (ss0 := ss0) i t s hs h.sto hm ht (by rw [h.w0]; decide)).mono ?_
  rintro e w' ⟨c, rfl, hp, hb, hk⟩
  rcases hp with ⟨_, rfl, hp⟩ | ⟨h1, _⟩
  · exact ⟨rfl, { h with sto := hp }, hb, hk⟩
  · simp only at hg; rw [hg] at h1; cases h1
theorem st_lose (k : Nat) (h : StC m E w b B M base l sv ar D) (hk : k < M) (hm : m ≤ w.heap.size) :
    Calls Tryd.prog 40 #[.pointer (some ⟨B, 0, none⟩), .int .i64 (k : Int)] w fun e w' => e = .returned (.tuple #[]) ∧ ∃ D', StC m E w' b B M base l sv ar D' ∧ cont D' = put2 (cont D) k (rc0, 2) ∧ Below m w w' ∧ Kept E w w' := by
  obtain ⟨c1, n1, k1⟩ := lose_cont (D := D) (k := k) h.calm (by rw [h.len]; exact hk)
  refine (devw_lose (k : Int) hm h.dev).mono ?_
  rintro e w' ⟨rfl, hd, hb, hkp⟩
  have hsz : w.heap.size ≤ w'.heap.size := hb.size
  exact ⟨rfl, _, h.turn hd hkp hsz c1 n1, k1, hb, hkp⟩
/-- Hurt, from the contents. -/
theorem st_chunkF (h : StC m E w b B M base l sv ar D) {k : Nat} (hk : k < 64) : chunkF D (base : Int) (ar : Int) l k = chunkC (cont D) (base + ar * 66 + 2) l k :=
  chunkF_cont h.calm.down (by omega) (by have := h.len; have := h.room; have := h.ar; omega)
end
/-- Law 7's example. -/
theorem head7_any (w : World) (hT : ∀ x, Below w.heap.size w x → Tabs x) : Calls Tryd.prog 27 #[] w fun e w' => e = .returned (.bool true) ∧ Below w.heap.size w w' := by
  have HT := Lib.hid hT
  clear hT
  go_enter Tryd.func27, Tryd.ntmps27
  go_wp2_with fail
  refine (new_any 200 w).mono ?_
  rintro e w1 ⟨B, rfl, hd, hb1⟩
  have X1 : DevW w.heap.size (fun _ => False) w1 B (Dv.new ((200 : Nat) : Int)) := devw_new hd (Nat.le_refl _) (fun j hj => hj.elim) hb1.size
  clear hd
  obtain ⟨c1, n1, k1⟩ := new_calm 200 (by decide)
  have HC1 := Lib.hid c1
  have HN1 := Lib.hid n1
  have HK1 := Lib.hid k1
  clear c1 n1 k1
  have HO := Lib.hid (st_open (M := 200) (base := 3) X1 HC1.out HN1.out (by decide) (by decide) hb1.size (HT.out _ hb1))
  have hopn : opnC (cont (Dv.new ((200 : Nat) : Int))) 3 = (ls0, 0) := opnC_zero (fun ar n _ _ => by rw [cpC_rc0 (x := 0) (by rw [HK1.out])]; rfl)
  rw [hopn] at HO
  clear hopn X1
  go_wp2_with fail
  refine HO.out.mono ?_
  rintro e w2 ⟨b, sv, ar, rfl, hbb, har, S2, hb2⟩
  have har' : ar = 0 := by simpa using har
  subst har'
  have B2 := hb1.trans (hb2.mono hb1.size)
  clear har HO hbb hb2
  have HS2 := Lib.hid S2
  have HB2 := Lib.hid B2
  have HB1 := Lib.hid hb1
  clear S2 B2 hb1
  go_wp2_with fail
  refine (text7_any 900 1 (by decide) w2).mono ?_
  rintro e w3 ⟨s, rfl, hsz, hb3⟩
  have S3 := HS2.out.below hb3
  have B3 := HB2.out.trans (hb3.mono HB2.out.size)
  have hg : (ofL 1 1 s).Good := ofL_good2 ⟨by decide, by decide⟩ ⟨by decide, by decide⟩ (by omega)
  have HG := Lib.hid hg
  have HSZ := Lib.hid hsz
  have HP := Lib.hid (st_put 1 1 s S3 hg (by decide) (by omega) B3.size (fun x hx => HT.out x (B3.trans hx)))
  have HB3 := Lib.hid B3
  clear S3 B3 hb3 hg hsz HS2 HB2
  go_wp2_with fail
  refine HP.out.mono ?_
  rintro e w4 ⟨rfl, E4, sv4, D4, hE4, S4, k4, hb4, hk4⟩
  rw [show nxtA ls0 0 = 0 from rfl] at S4 k4
  have HS4 := Lib.hid S4
  have HK4 := Lib.hid k4
  have HB4 := Lib.hid (HB3.out.trans hb4)
  clear S4 k4 hb4 hk4 hE4 HP HB3
  go_wp2_with fail
  refine (st_lose 6 HS4.out (by decide) HB4.out.size).mono ?_
  rintro e w5 ⟨rfl, D5, S5, k5, hb5, hk5⟩
  have B5 := HB4.out.trans hb5
  have hlen : (ofL 1 1 s).sums.length = 3 := by
    have := sumsOf_length s
    rw [HSZ.out] at this
    exact this
  have hn3 : cutN s.size = 3 := by rw [HSZ.out]; rfl
  have hck : ∀ k, k < 3 → chunkF D5 ((3 : Nat) : Int) ((0 : Nat) : Int) (ofL 1 1 s) k = chunkC (cont D5) 5 (ofL 1 1 s) k := fun k hk => st_chunkF S5 (by omega)
  have h0 : (chunkF D5 ((3 : Nat) : Int) ((0 : Nat) : Int) (ofL 1 1 s) 0).2 = 0 := by
    rw [hck 0 (by omega), chunkC_good (by rw [k5, put2_other (by decide), HK4.out]; exact putC_ck (a := 3) (k := 0) (by omega)) (by omega)]
  have h1 : (chunkF D5 ((3 : Nat) : Int) ((0 : Nat) : Int) (ofL 1 1 s) 1).2 = 6 := by
    rw [hck 1 (by omega), chunkC_lost (by rw [k5]; exact put2_same _ _ _)]
  have h2 : (chunkF D5 ((3 : Nat) : Int) ((0 : Nat) : Int) (ofL 1 1 s) 2).2 = 0 := by
    rw [hck 2 (by omega), chunkC_good (by rw [k5, put2_other (by decide), HK4.out]; exact putC_ck (a := 3) (k := 2) (by omega)) (by omega)]
  have hhu : hurtK D5 ((3 : Nat) : Int) ((0 : Nat) : Int) (ofL 1 1 s) 3 = [1] := by
    rw [hurtK_miss (by rw [h2]; decide), hurtK_hit h1, hurtK_miss (by rw [h0]; decide)]
    rfl
  have HU := Lib.hid (churt_any S5.sto (by show (1 : Int) ≠ 0; decide) (HT.out _ B5) (by rw [S5.w0]; decide))
  rw [hlen, hhu] at HU
  have HB5 := Lib.hid B5
  clear hck h0 h1 h2 hhu hlen hn3 S5 k5 hb5 hk5 B5
  go_wp2_with fail
  refine HU.out.mono ?_
  rintro e w6 ⟨v, rfl, hrow, hb6⟩
  obtain ⟨g, cap, rfl, hg, hcell⟩ := row_ints hrow rfl (by decide)
  have hc0 := hcell 0 (by decide)
  simp only [Nat.zero_add, List.getD_cons_zero] at hc0
  have B6 := HB5.out.trans (hb6.mono HB5.out.size)
  clear hcell hrow HU
  go_wp2_with fail
  go_ret
  exact ⟨rfl, B6⟩
end Go.Proofs.YtiknfifiglooeaaDoor
