/- SessApart: what one session asks turns no other one; no condition on the input. -/
import Derived.Test.YtckengglamkaaaaSessHead
import Derived.Test.YtckengglamkaaaaRows
import Derived.ProofKit
import Derived.OpenShut
import Derived.ShutString
import Derived.ChangeOld
import Derived.Deep.DeepHandedRow
import Derived.Lib.LaidTab
import Derived.Stop.LaidErr
import Derived.Lay
namespace Go.Proofs.Ytckengglamkaaaa.sessApart
open Go.ChangeShapes Go.WideShapes Go.ChangeAt Go.RowKit
open Go.ChangeMaps (open_string shut_string)
set_option linter.unusedVariables false
set_option maxRecDepth 100000
theorem i64_and15 (n : Int) : bits .and .i64 n 15 = n % 16 := by
  have h127 : (BitVec.ofInt 64 15).toNat = 2 ^ 4 - 1 := by decide
  have key : (BitVec.ofInt 64 n &&& BitVec.ofInt 64 15).toNat = (n % ((2 ^ 64 : Nat) : Int)).toNat % 2 ^ 4 := by
    rw [BitVec.toNat_and, BitVec.toNat_ofInt, h127, Nat.and_two_pow_sub_one_eq_mod]
  show IntKind.i64.wrap ((BitVec.ofInt 64 n &&& BitVec.ofInt 64 15).toNat : Nat) = n % 16
  rw [key, IntKind.wrap_i64]
  omega
theorem pick5 (z : Int) : ∃ q : Nat, q < 5 ∧ wrap64 ((IntKind.u64.wrap z).tmod 5) = (q : Int) := by
  have hw : IntKind.u64.wrap z = z % 18446744073709551616 := by simp [IntKind.wrap, IntKind.bits, IntKind.signed]
  have h0 : 0 ≤ IntKind.u64.wrap z := by omega
  have ht : (IntKind.u64.wrap z).tmod 5 = IntKind.u64.wrap z % 5 := Int.tmod_eq_emod_of_nonneg h0
  refine ⟨((z % 18446744073709551616) % 5).toNat, by omega, ?_⟩
  rw [ht]; unfold wrap64; omega
theorem openT_other {T : Int → Option Ss} {c : Nat} {id x : Int} (h : x ≠ id) : openT T c id x = T x := by
  unfold openT; split
  · exact updS_other h
  · rfl
theorem keepT_other {T : Int → Option Ss} {id x req : Int} {a : ByteArray} (h : x ≠ id) : keepT T id req a x = T x := by
  unfold keepT; split
  · exact updS_other h
  · rfl
def mine : Ss := ⟨7, ⟨#[109, 105, 110, 101]⟩⟩
theorem seen_mine {T : Int → Option Ss} {id : Int} (h : T id = some mine) : seenS T id 7 = (⟨#[109, 105, 110, 101]⟩, true, 0) := by
  unfold seenS; rw [h]; rfl
theorem open_mine (id : Int) (h1 : 1 ≤ id) (h2 : id ≤ 16) : openE noS 0 id = 0 ∧ openC noS 0 id = 1 ∧ openT noS 0 id = updS noS id (some Ss.zero) := by
  have e : openE noS 0 id = 0 := by
    unfold openE okN noS; simp; omega
  exact ⟨e, by unfold openC; rw [e]; rfl, by unfold openT; rw [e]; rfl⟩
theorem keep_mine (id : Int) : keepE (updS noS id (some Ss.zero)) id 7 ⟨#[109, 105, 110, 101]⟩ = 0 ∧ keepT (updS noS id (some Ss.zero)) id 7 ⟨#[109, 105, 110, 101]⟩ = updS (updS noS id (some Ss.zero)) id (some mine) := by
  have h1 : seenS (updS noS id (some Ss.zero)) id 7 = (⟨#[]⟩, false, 0) := by unfold seenS; rw [updS_same]; rfl
  have e : keepE (updS noS id (some Ss.zero)) id 7 ⟨#[109, 105, 110, 101]⟩ = 0 := by unfold keepE; rw [h1]; rfl
  exact ⟨e, by unfold keepT; rw [e]; rfl⟩
set_option maxHeartbeats 4000000 in
theorem walk (v0 : Value) (qs : List Sa) (a1 : Int) (w : World) (w0 : Acts10 w v0 qs) (w1 : (Lit.int .i64 a1).wf = true) :
    Calls Try.prog 8 #[v0, .int .i64 a1] w fun e w' => e = .returned (.bool true) ∧ Below w.heap.size w w' := by
  have HH := Lib.hid (head10_any w)
  have w0' := w0
  obtain ⟨xa, xc, hva, hxm, _⟩ := w0'
  subst hva
  have HA := Lib.hid w0
  have HF := Lib.hid (fun (W : World) (hb : Below w.heap.size w W) => few10_any xa xc qs W (w0.below hb))
  clear w0 w1
  by_cases hfw : few10 qs = false
  · rw [hfw] at HF
    go_enter Try.func8, Try.ntmps8
    go_wp2_with fail
    refine HH.out.mono ?_
    rintro e w1 ⟨rfl, b1⟩
    go_wp2_with fail
    refine (HF.out _ b1).mono ?_
    rintro e w2 ⟨rfl, b2⟩
    go_wp2_with fail
    go_ret
    exact ⟨rfl, b1.trans (b2.mono b1.size)⟩
  have hfew : few10 qs = true := by cases h : few10 qs; exact absurd h hfw; rfl
  rw [hfew] at HF
  have HFW := Lib.hid hfew
  have hq60 : qs.length ≤ 60 := by unfold few10 at hfew; rw [Bool.and_eq_true] at hfew; simpa using hfew.2
  clear hfw hfew hxm
  obtain ⟨m, hm16, hm⟩ : ∃ m : Nat, m < 16 ∧ bits .and .i64 a1 15 = (m : Int) := ⟨(a1 % 16).toNat, by omega, by rw [i64_and15]; omega⟩
  obtain ⟨id, hid, hid1, hid2⟩ : ∃ id : Int, IntKind.i64.wrap (1 + (m : Int)) = id ∧ 1 ≤ id ∧ id ≤ 16 := ⟨1 + m, by rw [IntWalk.i64_in _ (by omega)], by omega, by omega⟩
  have hidR : InR id := by unfold InR; omega
  obtain ⟨o1, o2, o3⟩ := open_mine id hid1 hid2
  obtain ⟨k1, k2⟩ := keep_mine id
  have O1 := Lib.hid o1
  have O2 := Lib.hid o2
  have O3 := Lib.hid o3
  have K1 := Lib.hid k1
  have K2 := Lib.hid k2
  clear hm16 o1 o2 o3 k1 k2
  go_enter Try.func8, Try.ntmps8
  go_wp2_with fail
  refine HH.out.mono ?_
  rintro e w1 ⟨rfl, b1⟩
  go_wp2_with fail
  refine (HF.out _ b1).mono ?_
  rintro e w2 ⟨rfl, b2⟩
  replace b2 := b1.trans (b2.mono b1.size)
  have HN := Lib.hid (new_any w2)
  go_wp2_with fail
  refine HN.out.mono ?_
  rintro e w3 ⟨tb, mb, rfl, H3, b3, ht, hmb⟩
  have hmw : w.heap.size ≤ mb := Nat.le_trans b2.size hmb
  replace b3 := b2.trans (b3.mono b2.size)
  have C := open_any tb mb 0 0 noS id w3 H3 hidR (by decide)
  rw [O1.out, O2.out, O3.out] at C
  have HC := Lib.hid C
  clear C HN b1 b2 ht hmb H3 HH HF
  go_wp2_with fail
  refine HC.out.mono ?_
  rintro e w4 ⟨rfl, L4⟩
  have b4 := b3.trans (left10_below L4 hmw b3.size)
  have C := keep_any tb mb 1 1 (updS noS id (some Ss.zero)) id 7 ⟨#[109, 105, 110, 101]⟩ w4 L4.1 hidR (by decide) (by decide)
  rw [K1.out, K2.out] at C
  have HC4 := Lib.hid C
  clear C HC b3 L4
  go_wp2_with fail
  refine HC4.out.mono ?_
  rintro e w5 ⟨rfl, L5⟩
  have b5 := b4.trans (left10_below L5 hmw b4.size)
  have H5 := L5.1
  have T5 : updS (updS noS id (some Ss.zero)) id (some mine) id = some mine := updS_same _ _ _
  clear L5 HC4 b4 hm hid
  go_wp2_with fail
  go_loopw [32] (fun iv wr => ∃ (j k c : Nat) (T : Int → Option Ss), j ≤ qs.length ∧ k ≤ 2 + j ∧ iv = .int .i64 j ∧ TbW wr tb mb k c T ∧ T id = some mine ∧ Below w.heap.size w wr) (fun iv _ => qs.length - (intOf iv).toNat)
  case atStart => exact ⟨0, 2, 1, _, by omega, by omega, rfl, H5, T5, b5⟩
  case round =>
    obtain ⟨j, k, c, T, hj, hk, rfl, HT, hTm, bk⟩ := hrel
    clear H5 T5 b5
    by_cases hlt : j < qs.length
    · have hlt2 : decide ((j : Int) < (qs.length : Int)) = true := by simp; omega
      obtain ⟨hok, g, off, rfl, h0, h1, h2, h3⟩ := act10_at HA.out bk hlt
      obtain ⟨hsz, _⟩ := few10_at HFW.out hlt
      have hidA := inR_of hok.id
      have t2 : IntKind.i64.wrap ((j : Int) + 1) = (j : Int) + 1 := IntWalk.i64_in _ (by omega)
      have hj0 : (0 : Int) ≤ (j : Int) := by omega
      have hji : (j : Int) < (qs.length : Int) := by omega
      clear hok
      generalize qs.getD j sa0 = x at *
      obtain ⟨ak, ai, ar, ad⟩ := x
      simp only at *
      have HT0 := Lib.hid HT
      have HTM := Lib.hid hTm
      have bA := bk.alloc bk.size (.cells #[.int .i64 ak, .int .i64 ai, .int .i64 ar, .string ad] 32)
      have H6 := HT.below ((Below.refl _ wr).alloc (Nat.le_refl _) (.cells #[.int .i64 ak, .int .i64 ai, .int .i64 ar, .string ad] 32))
      have N6 := heap_alloc_new wr (.cells #[.int .i64 ak, .int .i64 ai, .int .i64 ar, .string ad] 32)
      by_cases hai : ai = id
      · have e1 : (ai == id) = true := by simpa using hai
        clear HT hai
        go_wp2_with fail
        go_roundw
        case rel => exact ⟨j + 1, k, c, T, by omega, by omega, by go_num, H6, HTM.out, bA⟩
        case measure => simp [intOf]; omega
      · have e1 : (ai == id) = false := by simpa using hai
        have hne : id ≠ ai := fun e => hai e.symm
        have HNE := Lib.hid hne
        obtain ⟨q, hq5, hq⟩ := pick5 ak
        have HS6 : Hid (∀ (W : World) (k' c' : Nat) (T' : Int → Option Ss), TbW W tb mb k' c' T' → T' id = some mine → Calls Try.prog 16 #[.pointer (some ⟨tb, 0, none⟩), .int .i64 id, .int .i64 7] W fun e w' => e = .returned (.tuple #[.string ⟨#[109, 105, 110, 101]⟩, .bool true, .int .i64 0]) ∧ Below W.heap.size W w') := Lib.hid fun W k' c' T' hW hT' => by
          have := seen_any tb mb k' c' T' id 7 W hW hidR
          rw [seen_mine hT'] at this; exact this
        obtain ⟨w6, hw6⟩ : ∃ w6, w6 = wr.alloc (.cells #[.int .i64 ak, .int .i64 ai, .int .i64 ar, .string ad] 32) := ⟨_, rfl⟩
        rw [← hw6] at N6
        have c0 : w6.cell? ⟨wr.heap.size, 0, none⟩ = some (.int .i64 ak) := by simp [World.cell?, N6]
        have c1 : w6.cell? ⟨wr.heap.size, 1, none⟩ = some (.int .i64 ai) := by simp [World.cell?, N6]
        have c2 : w6.cell? ⟨wr.heap.size, 2, none⟩ = some (.int .i64 ar) := by simp [World.cell?, N6]
        have c3 : w6.cell? ⟨wr.heap.size, 3, none⟩ = some (.string ad) := by simp [World.cell?, N6]
        go_upto_region 12 with fail
        rw [← hw6] at bA H6 ⊢
        have HO := Lib.hid (open_any tb mb k c T ai w6 H6 hidA (by omega))
        have HCl := Lib.hid (close_any tb mb k c T ai w6 H6 hidA)
        have HKp := Lib.hid (keep_any tb mb k c T ai ar ad w6 H6 hidA (by omega) (by omega))
        have HO6 := Lib.hid H6
        clear HT hai hw6 N6 h0 h1 h2 h3 hsz hidA HT0 H6 hne hTm hid1 hid2 O1 O2 O3 K1 K2
        have hq' : q = 0 ∨ q = 1 ∨ q = 2 ∨ q = 3 ∨ q = 4 := by omega
        clear hq5
        rcases hq' with rfl | rfl | rfl | rfl | rfl
        · go_wp2_with fail
          refine HO.out.mono ?_
          rintro e w7 ⟨rfl, L7⟩
          have b7 := bA.trans (left10_below L7 hmw bA.size)
          have H7 := L7.1
          have T7 : _ = some mine := (openT_other (T := T) (c := c) HNE.out).trans HTM.out
          clear L7 HO HCl HKp c0 c1 c2 c3 HO6
          go_wp2_with fail
          refine (HS6.out _ _ _ _ H7 T7).mono ?_
          rintro e w8 ⟨rfl, b8⟩
          have H8 := H7.below b8
          replace b8 := b7.trans (b8.mono b7.size)
          clear H7 b7
          go_wp2_with fail
          go_roundw
          case rel => exact ⟨j + 1, _, _, _, by omega, by omega, by go_num, H8, T7, b8⟩
          case measure => simp [intOf]; omega
        · go_wp2_with fail
          refine HCl.out.mono ?_
          rintro e w7 ⟨rfl, L7⟩
          have b7 := bA.trans (left10_below L7 hmw bA.size)
          have H7 := L7.1
          have T7 : _ = some mine := (updS_other (T := T) (v := none) HNE.out).trans HTM.out
          clear L7 HO HCl HKp c0 c1 c2 c3 HO6
          go_wp2_with fail
          refine (HS6.out _ _ _ _ H7 T7).mono ?_
          rintro e w8 ⟨rfl, b8⟩
          have H8 := H7.below b8
          replace b8 := b7.trans (b8.mono b7.size)
          clear H7 b7
          go_wp2_with fail
          go_roundw
          case rel => exact ⟨j + 1, _, _, _, by omega, by omega, by go_num, H8, T7, b8⟩
          case measure => simp [intOf]; omega
        · go_wp2_with fail
          refine HKp.out.mono ?_
          rintro e w7 ⟨rfl, L7⟩
          have b7 := bA.trans (left10_below L7 hmw bA.size)
          have H7 := L7.1
          have T7 : _ = some mine := (keepT_other (T := T) (req := ar) (a := ad) HNE.out).trans HTM.out
          clear L7 HO HCl HKp c0 c1 c2 c3 HO6
          go_wp2_with fail
          refine (HS6.out _ _ _ _ H7 T7).mono ?_
          rintro e w8 ⟨rfl, b8⟩
          have H8 := H7.below b8
          replace b8 := b7.trans (b8.mono b7.size)
          clear H7 b7
          go_wp2_with fail
          go_roundw
          case rel => exact ⟨j + 1, _, _, _, by omega, by omega, by go_num, H8, T7, b8⟩
          case measure => simp [intOf]; omega
        · go_wp2_with fail
          refine HKp.out.mono ?_
          rintro e w7 ⟨rfl, L7⟩
          have b7 := bA.trans (left10_below L7 hmw bA.size)
          have H7 := L7.1
          have T7 : _ = some mine := (keepT_other (T := T) (req := ar) (a := ad) HNE.out).trans HTM.out
          clear L7 HO HCl HKp c0 c1 c2 c3 HO6
          go_wp2_with fail
          refine (HS6.out _ _ _ _ H7 T7).mono ?_
          rintro e w8 ⟨rfl, b8⟩
          have H8 := H7.below b8
          replace b8 := b7.trans (b8.mono b7.size)
          clear H7 b7
          go_wp2_with fail
          go_roundw
          case rel => exact ⟨j + 1, _, _, _, by omega, by omega, by go_num, H8, T7, b8⟩
          case measure => simp [intOf]; omega
        · have H7 := HO6.out
          have b7 := bA
          have T7 := HTM.out
          clear HO HCl HKp HO6 bA
          go_wp2_with fail
          refine (HS6.out _ _ _ _ H7 T7).mono ?_
          rintro e w8 ⟨rfl, b8⟩
          have H8 := H7.below b8
          replace b8 := b7.trans (b8.mono b7.size)
          clear H7 b7
          go_wp2_with fail
          go_roundw
          case rel => exact ⟨j + 1, _, _, _, by omega, by omega, by go_num, H8, T7, b8⟩
          case measure => simp [intOf]; omega
    · obtain rfl : j = qs.length := by omega
      have hlt2 : decide ((qs.length : Int) < (qs.length : Int)) = false := by simp
      have HHas := Lib.hid (has_any tb mb k c T id wr HT hidR)
      rw [hTm] at HHas
      clear HT hTm
      go_wp2_with fail
      refine HHas.out.mono ?_
      rintro e w7 ⟨rfl, b7⟩
      go_wp2_with fail
      go_ret
      exact ⟨rfl, bk.trans (b7.mono bk.size)⟩

theorem own : ownKnob Try.prog.godebug = none := by kernel_rfl
theorem laidOut : laidOutB Try.prog = true := by kernel_rfl

set_option maxRecDepth 100000 in
theorem lifted (os : Os) (started : os.Started) (H : Type) (enc : TypeId × Value → H) :
    ReturnsInHanded {} Try.checked os 8 .any (Rows.sessApartSpec.pre6 enc Try.prog Try.f8 Rows.sessApartRow.domain false) (Rows.sessApartSpec.post enc Try.prog Try.f8 false true false false) := by
  refine returnsInHanded_of_change (C := Try.checked) own started (by kernel_rfl) Try.func8
    (ChangeSpec.witness6 (enc := enc) (C := Try.checked) false ⟨#[], #[.slice none 0 0, .int .i64 0], []⟩ 8 (by kernel_rfl) (by kernel_rfl) (by kernel_rfl) (by kernel_rfl)) ?_
  intro W base args ds gs before hval0 hW hcnd _
  have hval : ∀ (j : Nat) t v, Try.f8.params[j]? = some t → args[j]? = some v → Value.okWide Try.prog W .any base t v := hval0
  have hW' := hW
  obtain ⟨p, q, hA0, hV, rfl, hfz, hnd⟩ := hW
  have hA : DataW.TrodAll enc Try.prog W 0 (fun _ => true) true Try.f8.params.toList args.toList ds p := hA0
  rw [Try.params8] at hA hval
  obtain ⟨v0, vs0, d0, ds0, p0, q0, hargs, rfl, rfl, h0, r0⟩ := trodAll_cons hA
  obtain ⟨v1, vs1, d1, ds1, p1, q1, rfl, rfl, rfl, h1, r1⟩ := trodAll_cons r0
  obtain ⟨rfl, rfl, rfl⟩ := trodAll_nil r1
  obtain rfl : args = #[v0, v1] := by cases args; simp_all
  obtain ⟨rfl, rfl⟩ := trodVars_none hV
  have k0 := h0
  have lt0 : ∀ x ∈ p0, x.block < W.heap.size := by obtain ⟨m, hm⟩ := k0; exact DataW.trod_lt m _ _ _ hm
  obtain ⟨z0, w0⟩ := acts10_of (hval 0 22 v0 rfl rfl) h0
  obtain ⟨a1, rfl, rfl, rfl, w1⟩ := open_int Try.underlying3 (hval 1 3 v1 rfl rfl) h1
  clear hA0 hval0
  refine (walk v0 z0 a1 W w0 w1).mono fun e W' ⟨he, bel⟩ => ?_
  subst he
  exact ⟨_, rfl, _, _, _, [], _, [], hW', trodAll_mk1 (shut_bool Try.underlying4 _), (trodAll_cons_mk (Below.trod laidOut (by kernel_rfl) (of_decide_eq_true (by kernel_rfl)) k0 bel lt0) (trodAll_cons_mk (shut_int Try.underlying3 w1) trodAll_mk0)), rfl, bel.frame _, fun h => by cases h⟩

theorem over : Rows.sessApartRow.holds Try.pinned (OpenSpec.ofChange Rows.sessApartSpec) :=
  OpenClaim.holds_of_wide 8 Try.f8 rfl rfl rfl rfl rfl rfl rfl ⟨rfl, rfl, rfl, rfl, rfl⟩ rfl rfl rfl rfl rfl (by kernel_rfl) Try.func8 (by kernel_rfl)
    (of_decide_eq_true (by kernel_rfl)) (by unfold Func.isWrapper; first | (rw [if_pos (by decide +kernel)]; kernel_rfl) | (rw [if_neg (by decide +kernel)]; exact ⟨rfl, rfl⟩))
    (fun os started H enc _ => lifted os started H enc)

theorem proved : Rows.SessApartSaid := over
end Go.Proofs.Ytckengglamkaaaa.sessApart
