/- WatchApart: a session alone, and among others. No conditions beyond those in each statement. -/
import Derived.Test.YtbbdokfankgllaaDoorWActsW
import Derived.Test.YtbbdokfankgllaaDoorWApM
namespace Go.Proofs.YtbbdokfankgllaaDoor
open Go.RowKit Go.Maps Go.Shelf
set_option linter.unusedVariables false
set_option linter.unusedSimpArgs false
set_option maxRecDepth 100000

/-- Two books, each with its model. -/
structure TwoW (w0 w : World) (base ba ma bb mb kk : Nat) (OA OB : Nat → Prop) (A B : Sb) : Prop where
  pa : PairW w base ba ma kk OA A.ws A.es A.n A.ws A.es A.n
  pb : PairW w base bb mb kk OB B.ws B.es B.n B.ws B.es B.n
  disj : ∀ b, OA b → ¬ OB b
  bel : Below w0.heap.size w0 w
  lo : w0.heap.size ≤ base
section
variable {w0 w w' : World} {base ba ma bb mb kk k2 : Nat} {OA OB O' : Nat → Prop} {A B S' : Sb}
theorem TwoW.below (h : TwoW w0 w base ba ma bb mb kk OA OB A B) (hb : Below w.heap.size w w') : TwoW w0 w' base ba ma bb mb kk OA OB A B :=
  ⟨h.pa.below hb, h.pb.below hb, h.disj, h.bel.trans (hb.mono h.bel.size), h.lo⟩
theorem TwoW.mono (h : TwoW w0 w base ba ma bb mb kk OA OB A B) (hk : kk ≤ k2) : TwoW w0 w base ba ma bb mb k2 OA OB A B :=
  ⟨h.pa.mono hk, h.pb.mono hk, h.disj, h.bel, h.lo⟩
theorem TwoW.stepA (h : TwoW w0 w base ba ma bb mb kk OA OB A B) (hp : PairW w' base ba ma k2 O' S'.ws S'.es S'.n S'.ws S'.es S'.n) (hf : FrO w w' OA O') (hk : kk ≤ k2) : TwoW w0 w' base ba ma bb mb k2 O' OB S' B := by
  have hla := h.pa.lo
  have hlb := h.pb.lo
  refine ⟨hp, (h.pb.keep (fun b hb => hf.keep b (hlb.1 b hb).2 (fun e => h.disj b e hb)) hf.size).mono hk, fun b h1 h2 => ?_, h.bel.trans ((hf.below (fun b hb => (hla.1 b hb).1) hla.2).mono h.lo), h.lo⟩
  rcases hf.own b h1 with e | e
  · exact h.disj b e h2
  · have := (hlb.1 b h2).2; omega
theorem TwoW.stepB (h : TwoW w0 w base ba ma bb mb kk OA OB A B) (hp : PairW w' base bb mb k2 O' S'.ws S'.es S'.n S'.ws S'.es S'.n) (hf : FrO w w' OB O') (hk : kk ≤ k2) : TwoW w0 w' base ba ma bb mb k2 OA O' A S' := by
  have hla := h.pa.lo
  have hlb := h.pb.lo
  refine ⟨(h.pa.keep (fun b hb => hf.keep b (hla.1 b hb).2 (fun e => h.disj b hb e)) hf.size).mono hk, hp, fun b h1 h2 => ?_, h.bel.trans ((hf.below (fun b hb => (hlb.1 b hb).1) hlb.2).mono h.lo), h.lo⟩
  rcases hf.own b h2 with e | e
  · exact h.disj b h1 e
  · have := (hla.1 b h1).2; omega
theorem BkW.less {bb' : Nat} {vw ve vm : Value} {Ws : List Wa} {Es : List Ev} {k c : Nat} {N : Int → Option Int} {b0 : Nat} (h : BkW w base bb' vw ve vm Ws Es k c N) (hb : b0 ≤ base) : BkW w b0 bb' vw ve vm Ws Es k c N :=
  ⟨h.box, ownsRow_less h.ws hb, ownsRow_less h.es hb, h.last.imp id (fun ⟨q, h1, h2, h3⟩ => ⟨q, h1, h2, Nat.le_trans hb h3⟩), Nat.le_trans hb h.lo.1, Nat.le_trans hb h.lo.2⟩
end
set_option maxHeartbeats 32000000 in
theorem apart_walk (a : Option Addr) (cap : Nat) (qs : List Aq) (ss : Int) (w : World) (hA : Acts11 w (.slice a qs.length cap) qs) :
    Calls Tryd.prog 4 #[.slice a qs.length cap, .int .i64 ss] w fun e w' => e = .returned (.bool true) ∧ Below w.heap.size w w' := by
  have HH := Lib.hid (fun W => head_any W)
  have HACT := Lib.hid hA
  have hqm : qs.length ≤ 9223372036854775807 := by obtain ⟨_, _, _, hm, _⟩ := hA; unfold maxLen at hm; omega
  obtain ⟨m3, hm3⟩ : ∃ m3 : Int, m3 = ss % 4 := ⟨_, rfl⟩
  have hand3 : bits .and .i64 ss 3 = m3 := by
    have h127 : (BitVec.ofInt 64 3).toNat = 2 ^ 2 - 1 := by decide
    have key : (BitVec.ofInt 64 ss &&& BitVec.ofInt 64 3).toNat = (ss % ((2 ^ 64 : Nat) : Int)).toNat % 2 ^ 2 := by
      rw [BitVec.toNat_and, BitVec.toNat_ofInt, h127, Nat.and_two_pow_sub_one_eq_mod]
    show IntKind.i64.wrap ((BitVec.ofInt 64 ss &&& BitVec.ofInt 64 3).toNat : Nat) = m3
    rw [key, IntKind.wrap_i64]
    omega
  obtain ⟨z, hz⟩ : ∃ z : Int, z = 1 + m3 := ⟨_, rfl⟩
  have hzw : IntKind.i64.wrap (1 + m3) = z := by rw [hz]; exact IntWalk.i64_in _ (by omega)
  clear hA hm3 hz
  go_enter Tryd.func4, Tryd.ntmps4
  go_wp2_with fail
  refine (HH.out _).mono ?_
  rintro e w2 ⟨rfl, b2⟩
  have HF := Lib.hid (few11_any a cap qs w2 (HACT.out.below b2))
  have HB2 := Lib.hid b2
  clear b2 HH
  go_wp2_with fail
  refine HF.out.mono ?_
  rintro e w3 ⟨rfl, b3⟩
  have HB3 : Hid (Below w.heap.size w w3) := Lib.hid (HB2.out.trans (b3.mono HB2.out.size))
  clear b3 HF HB2
  cases hfew : few11 qs with
  | false =>
    go_wp2_with fail
    go_ret
    exact ⟨rfl, HB3.out⟩
  | true =>
    have HFEW := Lib.hid hfew
    clear hfew
    by_cases h30 : qs.length ≤ 30
    · have d30 : decide ((30 : Int) < (qs.length : Int)) = false := by simp; omega
      have HN := Lib.hid (fun W => bnew_any W)
      go_wp2_with fail
      refine (HN.out _).mono ?_
      rintro e w4 ⟨rfl, hk4, b4⟩
      obtain ⟨ba, hba⟩ : ∃ ba, ba = w3.heap.size := ⟨_, rfl⟩
      rw [← hba] at hk4 ⊢
      have HB4 : Hid (Below w.heap.size w w4) := Lib.hid (HB3.out.trans (b4.mono HB3.out.size))
      have HBA : Hid (w.heap.size ≤ ba) := Lib.hid (by rw [hba]; exact HB3.out.size)
      have HK4 := Lib.hid hk4
      clear hk4 b4 hba HB3
      go_wp2_with fail
      refine (HN.out _).mono ?_
      rintro e w5 ⟨rfl, hk5, b5⟩
      obtain ⟨bb, hbb⟩ : ∃ bb, bb = w4.heap.size := ⟨_, rfl⟩
      have hlt4 := HK4.out.lt
      have hk5' := hk5.less (b0 := ba) (by omega)
      rw [← hbb] at hk5' ⊢
      have HB5 : Hid (Below w.heap.size w w5) := Lib.hid (HB4.out.trans (b5.mono HB4.out.size))
      have HA5 := Lib.hid (HK4.out.below b5)
      have HK5 := Lib.hid hk5'
      have HAB : Hid (ba < bb) := Lib.hid (by omega)
      clear hk5 hk5' b5 hbb HB4 HK4 hlt4 HN
      have hpa := pair_new HA5.out
      have bA := (Below.refl w5.heap.size w5).alloc (Nat.le_refl _) (.cells #[.slice none 0 0, .slice none 0 0, .map none] 32)
      have hs5 : (w5.alloc (.cells #[.slice none 0 0, .slice none 0 0, .map none] 32)).heap.size = w5.heap.size + 1 := Array.size_push _
      have hlb := HK5.out.lt
      go_upto_region 9 with fail
      obtain ⟨w6, hw6⟩ : ∃ w6, w6 = w5.alloc (.cells #[.slice none 0 0, .slice none 0 0, .map none] 32) := ⟨_, rfl⟩
      obtain ⟨ma, hma⟩ : ∃ ma, ma = w5.heap.size := ⟨_, rfl⟩
      rw [← hw6, ← hma] at hpa hs5
      rw [← hw6] at bA ⊢
      rw [← hma] at hlb
      rw [← hma]
      have hpb := pair_new (HK5.out.below bA)
      have bB := (Below.refl w6.heap.size w6).alloc (Nat.le_refl _) (.cells #[.slice none 0 0, .slice none 0 0, .map none] 32)
      have HTW : Hid (TwoW w (w6.alloc (.cells #[.slice none 0 0, .slice none 0 0, .map none] 32)) ba ba ma bb w6.heap.size 0 (fun b => b = ba ∨ b = ma) (fun b => b = bb ∨ b = w6.heap.size) sb0 sb0) := Lib.hid
        ⟨hpa.below bB, hpb, fun b h1 h2 => by have := HAB.out; have := hpa.lo.1 b h1; omega, HB5.out.trans ((bA.trans (bB.mono bA.size)).mono HB5.out.size), HBA.out⟩
      clear hpa hpb bA bB hs5 hlb hw6 hma HA5 HK5 HB5 HAB HBA
      go_upto_region 10 with fail
      obtain ⟨w7, hw7⟩ : ∃ w7, w7 = w6.alloc (.cells #[.slice none 0 0, .slice none 0 0, .map none] 32) := ⟨_, rfl⟩
      obtain ⟨mb, hmb⟩ : ∃ mb, mb = w6.heap.size := ⟨_, rfl⟩
      rw [← hw7, ← hmb] at HTW
      rw [← hw7, ← hmb]
      clear hw7 hmb
      go_wp2_with fail
      clear hand3 hzw
      go_loopw [37] (fun iv wr => ∃ (j : Nat) (OA OB : Nat → Prop) (A B : Sb), j ≤ qs.length ∧ iv = .int .i64 j ∧ Hid (TwoW w wr ba ba ma bb mb (160 * j) OA OB A B) ∧ Hid (SbOk A (160 * j)) ∧ Hid (SbOk B (160 * j)) ∧ Hid (PrjS z A B) ∧ Hid (A.ws.length ≤ j ∧ B.ws.length ≤ j)) (fun iv _ => qs.length - (intOf iv).toNat)
      case atStart => exact ⟨0, _, _, sb0, sb0, by omega, rfl, HTW, Lib.hid sb0_ok, Lib.hid sb0_ok, Lib.hid (PrjS.refl z sb0), Lib.hid (by simp [sb0])⟩
      case round =>
        obtain ⟨j, OA, OB, A, B, hj, rfl, HT, HSA, HSB, HPR, HLN⟩ := hrel
        clear HTW
        by_cases hlt : j < qs.length
        · have hlt2 : decide ((j : Int) < (qs.length : Int)) = true := by simp; omega
          obtain ⟨hok, hpv, ga, off, rfl, h0, h1, h2, h3, h4, h5⟩ := act11_at HACT.out HT.out.bel hlt
          have hf12 := (few11_at HFEW.out hlt).1
          have hpw := fun (W : World) (hW : Below w.heap.size w W) => (act11_at HACT.out hW hlt).2.1
          have HPV := Lib.hid hpv
          have t2 : IntKind.i64.wrap ((j : Int) + 1) = (j : Int) + 1 := IntWalk.i64_in _ (by omega)
          have hj0 : (0 : Int) ≤ (j : Int) := by omega
          have hji : (j : Int) < (qs.length : Int) := by omega
          clear hok
          generalize qs.getD j aq0 = y at *
          obtain ⟨fa, fcap, hfv, _, hfm, _⟩ := hpv.1
          obtain ⟨q, pv⟩ := y
          simp only at *
          subst hfv
          have HPW := Lib.hid hpw
          clear hpv hfm hpw
          have bA := (Below.refl _ wr).alloc (Nat.le_refl _) (.cells #[.int .i64 q.k, .int .i64 q.ses, .int .i64 q.n, .slice fa q.path.length fcap, .bool q.kids, .bool q.once] 35)
          have N8 := heap_alloc_new wr (.cells #[.int .i64 q.k, .int .i64 q.ses, .int .i64 q.n, .slice fa q.path.length fcap, .bool q.kids, .bool q.once] 35)
          go_upto_region 13 with fail
          obtain ⟨w8, hw8⟩ : ∃ w8, w8 = wr.alloc (.cells #[.int .i64 q.k, .int .i64 q.ses, .int .i64 q.n, .slice fa q.path.length fcap, .bool q.kids, .bool q.once] 35) := ⟨_, rfl⟩
          obtain ⟨xb, hxb⟩ : ∃ xb, xb = wr.heap.size := ⟨_, rfl⟩
          have HT8 := Lib.hid (HT.out.below bA)
          have hla := HT.out.pa.lo
          have hlb := HT.out.pb.lo
          rw [← hw8] at bA N8 HT8 ⊢
          rw [← hxb] at N8 ⊢
          have HNA : Hid (Oth w8 OA xb) := Lib.hid ⟨(Array.getElem?_eq_some_iff.1 N8).1, fun e => by have := (hla.1 xb e).2; omega⟩
          have c0 : w8.cell? ⟨xb, 0, none⟩ = some (.int .i64 q.k) := by simp [World.cell?, N8]
          have c1 : w8.cell? ⟨xb, 1, none⟩ = some (.int .i64 q.ses) := by simp [World.cell?, N8]
          have c2 : w8.cell? ⟨xb, 2, none⟩ = some (.int .i64 q.n) := by simp [World.cell?, N8]
          have c3 : w8.cell? ⟨xb, 3, none⟩ = some (.slice fa q.path.length fcap) := by simp [World.cell?, N8]
          have c4 : w8.cell? ⟨xb, 4, none⟩ = some (.bool q.kids) := by simp [World.cell?, N8]
          have c5 : w8.cell? ⟨xb, 5, none⟩ = some (.bool q.once) := by simp [World.cell?, N8]
          have hdo := do_any ba ba ma (160 * j) OA A q fa fcap ((j : Int) + 1) w8 HT8.out.pa HSA.out (by omega) ⟨HPV.out.1.below bA, HPV.out.2⟩ hf12
          have HDO := Lib.hid hdo
          have HN8 := Lib.hid N8
          have HXW : Hid (∀ b, OB b → b < xb) := Lib.hid (fun b hb => by rw [hxb]; exact (hlb.1 b hb).2)
          clear hw8 hxb h0 h1 h2 h3 h4 h5 N8 HT bA HPV hdo hla hlb
          go_wp2_with fail
          refine HDO.out.mono ?_
          rintro e w9 ⟨rfl, O9, hp9, hf9⟩
          obtain ⟨kx, ox⟩ := HNA.out.keep hf9
          have N9 := kx.trans HN8.out
          have HT9 := Lib.hid (HT8.out.stepA hp9 hf9 (by omega))
          have HSA9 : Hid (SbOk (doS q ((j : Int) + 1) A) (160 * (j + 1))) := Lib.hid ((HSA.out.step q _ hf12).mono (by omega))
          clear c0 c1 c2 c3 c4 c5 kx ox hp9 hf9 HDO HNA HN8 HXW HT8
          have c0 : w9.cell? ⟨xb, 0, none⟩ = some (.int .i64 q.k) := by simp [World.cell?, N9]
          have c1 : w9.cell? ⟨xb, 1, none⟩ = some (.int .i64 q.ses) := by simp [World.cell?, N9]
          have c2 : w9.cell? ⟨xb, 2, none⟩ = some (.int .i64 q.n) := by simp [World.cell?, N9]
          have c3 : w9.cell? ⟨xb, 3, none⟩ = some (.slice fa q.path.length fcap) := by simp [World.cell?, N9]
          have c4 : w9.cell? ⟨xb, 4, none⟩ = some (.bool q.kids) := by simp [World.cell?, N9]
          have c5 : w9.cell? ⟨xb, 5, none⟩ = some (.bool q.once) := by simp [World.cell?, N9]
          clear N9
          have hand7 : bits .and .i64 q.ses 7 = sesO q := i64_and7 q.ses
          obtain ⟨ow, how⟩ : ∃ ow : Bool, ow = (sesO q == z) := ⟨_, rfl⟩
          have eow : (sesO q == z) = ow := how.symm
          obtain ⟨ku, hk7, hkv⟩ := pick7 q.k
          have HDK : Hid (kdo q = (ku : Int)) := Lib.hid hkv
          obtain ⟨fr, hfr⟩ : ∃ fr : Bool, fr = (decide (2 ≤ ku) && decide (ku ≤ 4)) := ⟨_, rfl⟩
          have HFR := Lib.hid hfr
          have HOW := Lib.hid how
          clear how
          go_upto_region 15 with fail
          go_cut [12] (fun v wx => v = .bool fr ∧ wx = w9)
          case first =>
            have hor : ku = 0 ∨ ku = 1 ∨ ku = 2 ∨ ku = 3 ∨ ku = 4 ∨ ku = 5 ∨ ku = 6 := by omega
            clear hk7 HDK HFR HOW
            rcases hor with rfl | rfl | rfl | rfl | rfl | rfl | rfl <;> (subst hfr; go_wp2_with fail; go_meet; exact ⟨rfl, rfl⟩)
          case rest =>
            obtain ⟨rfl, hwc⟩ := hcut
            obtain rfl := hwc.symm
            clear hfr hkv hk7
            cases ow with
            | true =>
              have hdo := do_any ba bb mb (160 * j + 80) OB B q fa fcap ((j : Int) + 1) w9 HT9.out.pb (HSB.out.mono (by omega)) (by omega) (HPW.out w9 HT9.out.bel) hf12
              have HDO2 := Lib.hid hdo
              have HB2 : Hid (SbOk (doS q ((j : Int) + 1) B) (160 * (j + 1))) := Lib.hid ((HSB.out.step q _ hf12).mono (by omega))
              have HPR2 : Hid (PrjS z (doS q ((j : Int) + 1) A) (doS q ((j : Int) + 1) B)) := Lib.hid (prj_both HPR.out HSA.out HSB.out (by have := HLN.out.1; omega) (by have := HLN.out.2; omega) q _ hf12)
              have HLN2 : Hid ((doS q ((j : Int) + 1) A).ws.length ≤ j + 1 ∧ (doS q ((j : Int) + 1) B).ws.length ≤ j + 1) := Lib.hid ⟨doS_len HLN.out.1 q _, doS_len HLN.out.2 q _⟩
              clear hdo
              go_wp2_with fail
              refine HDO2.out.mono ?_
              rintro e w10 ⟨rfl, O10, hp10, hf10⟩
              have HT10 := Lib.hid (HT9.out.stepB hp10 hf10 (by omega))
              clear hp10 hf10 HDO2 HT9 c0 c1 c2 c3 c4 c5
              go_wp2_with fail
              go_roundw
              case rel => exact ⟨j + 1, O9, O10, _, _, by omega, by go_num, Lib.hid (HT10.out.mono (by omega)), Lib.hid (HSA9.out.mono (by omega)), Lib.hid (HB2.out.mono (by omega)), HPR2, HLN2⟩
              case measure => simp [intOf]; omega
            | false =>
              cases fr with
              | true =>
                have hdo := do_any ba bb mb (160 * j + 80) OB B q fa fcap ((j : Int) + 1) w9 HT9.out.pb (HSB.out.mono (by omega)) (by omega) (HPW.out w9 HT9.out.bel) hf12
                have HDO2 := Lib.hid hdo
                have HB2 : Hid (SbOk (doS q ((j : Int) + 1) B) (160 * (j + 1))) := Lib.hid ((HSB.out.step q _ hf12).mono (by omega))
                have HPR2 : Hid (PrjS z (doS q ((j : Int) + 1) A) (doS q ((j : Int) + 1) B)) := Lib.hid (prj_both HPR.out HSA.out HSB.out (by have := HLN.out.1; omega) (by have := HLN.out.2; omega) q _ hf12)
                have HLN2 : Hid ((doS q ((j : Int) + 1) A).ws.length ≤ j + 1 ∧ (doS q ((j : Int) + 1) B).ws.length ≤ j + 1) := Lib.hid ⟨doS_len HLN.out.1 q _, doS_len HLN.out.2 q _⟩
                clear hdo
                go_wp2_with fail
                refine HDO2.out.mono ?_
                rintro e w10 ⟨rfl, O10, hp10, hf10⟩
                have HT10 := Lib.hid (HT9.out.stepB hp10 hf10 (by omega))
                clear hp10 hf10 HDO2 HT9 c0 c1 c2 c3 c4 c5
                go_wp2_with fail
                go_roundw
                case rel => exact ⟨j + 1, O9, O10, _, _, by omega, by go_num, Lib.hid (HT10.out.mono (by omega)), Lib.hid (HSA9.out.mono (by omega)), Lib.hid (HB2.out.mono (by omega)), HPR2, HLN2⟩
                case measure => simp [intOf]; omega
              | false =>
                have hsz : sesO q ≠ z := by
                  have := HOW.out
                  simpa using this.symm
                have hnf : ¬ (kdo q = 2 ∨ kdo q = 3 ∨ kdo q = 4) := fun h => by
                  have h1 := HFR.out
                  have h2 := HDK.out
                  rw [h2] at h
                  have h3 : ku = 2 ∨ ku = 3 ∨ ku = 4 := by omega
                  rcases h3 with h3 | h3 | h3 <;> (rw [h3] at h1; revert h1; decide)
                have HPR2 : Hid (PrjS z (doS q ((j : Int) + 1) A) B) := Lib.hid (prj_left HPR.out HSA.out q _ hsz hnf)
                have HLN2 : Hid ((doS q ((j : Int) + 1) A).ws.length ≤ j + 1 ∧ B.ws.length ≤ j + 1) := Lib.hid ⟨doS_len HLN.out.1 q _, by have := HLN.out.2; omega⟩
                clear hsz hnf c0 c1 c2 c3 c4 c5
                go_wp2_with fail
                go_roundw
                case rel => exact ⟨j + 1, O9, OB, _, B, by omega, by go_num, Lib.hid (HT9.out.mono (by omega)), HSA9, Lib.hid (HSB.out.mono (by omega)), HPR2, HLN2⟩
                case measure => simp [intOf]; omega
        · have hlt2 : decide ((j : Int) < (qs.length : Int)) = false := by simp; omega
          have hpa := HT.out.pa
          have hpb := HT.out.pb
          obtain ⟨vw, ve, vm, k1, c1, uw, ue, um, k', c', hka, _⟩ := hpa
          obtain ⟨vw2, ve2, vm2, k2, c2, uw2, ue2, um2, k2', c2', hkb, _⟩ := hpb
          have ha := events_any ba ba vw ve vm A.ws A.es k1 c1 A.n z wr hka (by have := HSA.out.les; omega)
          have hb := fun (W : World) (hW : Below wr.heap.size wr W) => events_any ba bb vw2 ve2 vm2 B.ws B.es k2 c2 B.n z W (hkb.below hW) (by have := HSB.out.les; omega)
          have hes := HPR.out.es
          unfold pE at hes
          obtain ⟨F, hF⟩ : ∃ F, F = B.es.filter fun x => x.ses == z := ⟨_, rfl⟩
          rw [hes, ← hF] at ha
          rw [← hF] at hb
          have HFL : Hid (F.length ≤ 100000) := Lib.hid (by rw [hF]; exact Nat.le_trans (List.length_filter_le ..) (by have := HSB.out.les; omega))
          have HEA := Lib.hid ha
          have HEB := Lib.hid hb
          have HBW : Hid (Below w.heap.size w wr) := Lib.hid HT.out.bel
          clear hka hkb ha hb hes hF HT HSA HSB HPR HLN
          go_wp2_with fail
          refine HEA.out.mono ?_
          rintro e w10 ⟨va, rfl, hra, b10⟩
          obtain ⟨pa, ca, rfl, hpa, _⟩ := evV_form hra
          have HEB2 := Lib.hid (HEB.out w10 b10)
          have HRA := Lib.hid hra
          have HPA := Lib.hid hpa
          have HB10 : Hid (Below w.heap.size w w10) := Lib.hid (HBW.out.trans (b10.mono HBW.out.size))
          clear hra hpa b10 HEA HEB HBW
          go_wp2_with fail
          refine HEB2.out.mono ?_
          rintro e w11 ⟨vb, rfl, hrb, b11⟩
          obtain ⟨pb, cb, rfl, hpb, _⟩ := evV_form hrb
          have HRA2 := Lib.hid (HRA.out.below b11)
          have HRB := Lib.hid hrb
          have HPB := Lib.hid hpb
          have HB11 : Hid (Below w.heap.size w w11) := Lib.hid (HB10.out.trans (b11.mono HB10.out.size))
          obtain ⟨lo1, hlo1⟩ : ∃ lo1, lo1 = wr.heap.size := ⟨_, rfl⟩
          obtain ⟨lo2, hlo2⟩ : ∃ lo2, lo2 = w10.heap.size := ⟨_, rfl⟩
          rw [← hlo1] at HRA2
          rw [← hlo2] at HRB
          clear hrb hpb b11 HRA HEB2 HB10 hlo1 hlo2
          go_wp2_with fail
          go_loopw [91] (fun iv wx => ∃ i : Nat, i ≤ F.length ∧ iv = .int .i64 i ∧ Hid (ERow wx lo1 (.slice pa F.length ca) F) ∧ Hid (ERow wx lo2 (.slice pb F.length cb) F) ∧ Hid (Below w.heap.size w wx)) (fun iv _ => F.length - (intOf iv).toNat)
          case atStart => exact ⟨0, by omega, rfl, HRA2, HRB, HB11⟩
          case round =>
            obtain ⟨i, hi, rfl, HR1, HR2, HBX⟩ := hrel
            clear HRA2 HRB HB11
            by_cases hli : i < F.length
            · have hli2 : decide ((i : Int) < (F.length : Int)) = true := by simp; omega
              have ti : IntKind.i64.wrap ((i : Int) + 1) = (i : Int) + 1 := IntWalk.i64_in _ (by have := HFL.out; omega)
              have hi0 : (0 : Int) ≤ (i : Int) := by omega
              have hii : (i : Int) < (F.length : Int) := by omega
              obtain ⟨y, hy⟩ : ∃ y, F[i]? = some y := ⟨F[i], by simp [hli]⟩
              obtain ⟨g1, rfl, _, _⟩ := HPA.out (by omega)
              obtain ⟨g2, rfl, _, _⟩ := HPB.out (by omega)
              have a0 := evC0 HR1.out hy rfl
              have a1 := evC1 HR1.out hy rfl
              have a2 := evC2 HR1.out hy rfl
              have a3 := evC3 HR1.out hy rfl
              have a4 := evC4 HR1.out hy rfl
              have d0 := evC0 HR2.out hy rfl
              have d1 := evC1 HR2.out hy rfl
              have d2 := evC2 HR2.out hy rfl
              have d3 := evC3 HR2.out hy rfl
              have d4 := evC4 HR2.out hy rfl
              have heq : ∀ W : World, (binOp .neq 50 (.agg #[.int .i64 y.ses, .int .i64 y.no, .string y.path, .int .i64 y.what, .int .i64 y.when]) (.agg #[.int .i64 y.ses, .int .i64 y.no, .string y.path, .int .i64 y.what, .int .i64 y.when])).run Tryd.prog W = .ok (.bool false) W := eq_evn y
              clear hy
              go_upto_region 26 with fail
              go_quiet (fail)
              have b9 : Below wr.heap.size wr (wr.drewN nq) := below_drewN (Below.refl _ wr) nq
              have H1 := Lib.hid (HR1.out.below b9)
              have H2 := Lib.hid (HR2.out.below b9)
              have H3 : Hid (Below w.heap.size w (wr.drewN nq)) := Lib.hid (HBX.out.trans (b9.mono HBX.out.size))
              obtain ⟨w9, hw9⟩ : ∃ w9, w9 = wr.drewN nq := ⟨_, rfl⟩
              rw [← hw9] at H1 H2 H3 ⊢
              clear hw9 b9 heq a0 a1 a2 a3 a4 d0 d1 d2 d3 d4 HR1 HR2 HBX
              go_wp2_with fail
              go_roundw
              case rel => exact ⟨i + 1, by omega, by go_num, H1, H2, H3⟩
              case measure => simp [intOf]; omega
            · have hli2 : decide ((i : Int) < (F.length : Int)) = false := by simp; omega
              go_wp2_with fail
              go_ret
              exact ⟨rfl, HBX.out⟩
    · have d30 : decide ((30 : Int) < (qs.length : Int)) = true := by simp; omega
      go_wp2_with fail
      go_ret
      exact ⟨rfl, HB3.out⟩
end Go.Proofs.YtbbdokfankgllaaDoor
