/- SessOnce: a request's answer is kept till a later one's is; no condition on the input. -/
import Derived.Test.YtckengglamkaaaaSessHead
import Derived.Test.YtckengglamkaaaaRows
import Derived.ProofKit
import Derived.OpenShut
import Derived.ShutString
import Derived.ChangeOld
import Derived.Deep.DeepHandedRow
import Derived.Lib.LaidTab
import Derived.Stop.LaidErr
import Derived.Lay
namespace Go.Proofs.Ytckengglamkaaaa.sessOnce
open Go.ChangeShapes Go.WideShapes Go.ChangeAt Go.RowKit
open Go.ChangeMaps (open_string shut_string)
set_option linter.unusedVariables false
set_option maxRecDepth 100000
theorem i64_and31 (n : Int) : bits .and .i64 n 31 = n % 32 := by
  have h127 : (BitVec.ofInt 64 31).toNat = 2 ^ 5 - 1 := by decide
  have key : (BitVec.ofInt 64 n &&& BitVec.ofInt 64 31).toNat = (n % ((2 ^ 64 : Nat) : Int)).toNat % 2 ^ 5 := by
    rw [BitVec.toNat_and, BitVec.toNat_ofInt, h127, Nat.and_two_pow_sub_one_eq_mod]
  show IntKind.i64.wrap ((BitVec.ofInt 64 n &&& BitVec.ofInt 64 31).toNat : Nat) = n % 32
  rw [key, IntKind.wrap_i64]
  omega
theorem i64_and65535 (n : Int) : bits .and .i64 n 65535 = n % 65536 := by
  have h127 : (BitVec.ofInt 64 65535).toNat = 2 ^ 16 - 1 := by decide
  have key : (BitVec.ofInt 64 n &&& BitVec.ofInt 64 65535).toNat = (n % ((2 ^ 64 : Nat) : Int)).toNat % 2 ^ 16 := by
    rw [BitVec.toNat_and, BitVec.toNat_ofInt, h127, Nat.and_two_pow_sub_one_eq_mod]
  show IntKind.i64.wrap ((BitVec.ofInt 64 n &&& BitVec.ofInt 64 65535).toNat : Nat) = n % 65536
  rw [key, IntKind.wrap_i64]
  omega
/-- One session: the last request, its answer. -/
def oneS (id : Int) (l : Nat) (t : ByteArray) : Int → Option Ss := updS noS id (some ⟨(l : Int), t⟩)
theorem one_at (id : Int) (l : Nat) (t : ByteArray) : oneS id l t id = some ⟨(l : Int), t⟩ := updS_same _ _ _
theorem one_seen (id : Int) (l : Nat) (t : ByteArray) (r : Int) : seenS (oneS id l t) id r = if okN r = false then (⟨#[]⟩, false, 1) else if r < (l : Int) then (⟨#[]⟩, false, 18) else if r = (l : Int) then (t, true, 0) else (⟨#[]⟩, false, 0) := by
  unfold seenS; rw [one_at]
theorem okN_nat (q : Nat) (h : q ≤ 100) : okN (q : Int) = decide (1 ≤ q) := by
  unfold okN
  by_cases h1 : 1 ≤ q
  · have e1 : (1 : Int) ≤ (q : Int) := by omega
    have e2 : (q : Int) ≤ 281474976710655 := by omega
    simp [e1, e2, h1]
  · have e1 : ¬ (1 : Int) ≤ (q : Int) := by omega
    simp [e1, h1]
theorem one_keep (id : Int) (l : Nat) (t : ByteArray) (q : Nat) (s : ByteArray) (hs : s.size ≤ 400) (hq : q < 32) :
    (q < 1 ∧ keepE (oneS id l t) id q s = 1 ∧ keepT (oneS id l t) id q s = oneS id l t) ∨
    (1 ≤ q ∧ q ≤ l ∧ keepE (oneS id l t) id q s = 18 ∧ keepT (oneS id l t) id q s = oneS id l t) ∨
    (1 ≤ q ∧ l < q ∧ keepE (oneS id l t) id q s = 0 ∧ keepT (oneS id l t) id q s = oneS id q s) := by
  have hsn := one_seen id l t (q : Int)
  have hok := okN_nat q (by omega)
  by_cases h1 : q < 1
  · have e0 : okN (q : Int) = false := by rw [hok]; simp; omega
    rw [if_pos e0] at hsn
    have e : keepE (oneS id l t) id q s = 1 := by unfold keepE; rw [hsn]; rfl
    exact .inl ⟨h1, e, by unfold keepT; rw [e, if_neg (by decide)]⟩
  · have e0 : okN (q : Int) = true := by rw [hok]; simp; omega
    rw [if_neg (by rw [e0]; decide)] at hsn
    by_cases h2 : q ≤ l
    · have e : keepE (oneS id l t) id q s = 18 := by
        by_cases h3 : q < l
        · rw [if_pos (by omega)] at hsn
          unfold keepE; rw [hsn]; rfl
        · have h4 : q = l := by omega
          rw [if_neg (by omega), if_pos (by omega)] at hsn
          unfold keepE; rw [hsn]; rfl
      exact .inr (.inl ⟨by omega, h2, e, by unfold keepT; rw [e, if_neg (by decide)]⟩)
    · rw [if_neg (by omega), if_neg (by omega)] at hsn
      have e : keepE (oneS id l t) id q s = 0 := by
        unfold keepE; rw [hsn]
        simp only
        rw [if_neg (by decide), if_neg (by decide), if_neg (by omega)]
      refine .inr (.inr ⟨by omega, by omega, e, ?_⟩)
      unfold keepT; rw [e, if_pos rfl]
      funext x; unfold oneS updS
      by_cases hx : x = id
      · rw [if_pos hx, if_pos hx]
      · rw [if_neg hx, if_neg hx, if_neg hx]
/-- What is asked behind an act: the last one, the one ahead, the next one. -/
theorem one_now (id : Int) (l : Nat) (t : ByteArray) (h : 1 ≤ l) (h2 : l ≤ 31) : seenS (oneS id l t) id (l : Int) = (t, true, 0) ∧ seenS (oneS id l t) id ((l : Int) + 1) = (⟨#[]⟩, false, 0) ∧ ∃ r : Int, (r == 0) = false ∧ seenS (oneS id l t) id ((l : Int) - 1) = (⟨#[]⟩, false, r) := by
  refine ⟨?_, ?_, ?_⟩
  · rw [one_seen, okN_nat l (by omega), if_neg (by simp; omega), if_neg (by omega), if_pos rfl]
  · have := okN_nat (l + 1) (by omega)
    rw [one_seen, show ((l : Int) + 1) = ((l + 1 : Nat) : Int) by omega, this, if_neg (by simp), if_neg (by omega), if_neg (by omega)]
  · have e : ((l : Int) - 1) = ((l - 1 : Nat) : Int) := by omega
    rw [one_seen, e, okN_nat (l - 1) (by omega)]
    by_cases h3 : l = 1
    · exact ⟨1, by decide, by rw [if_pos (by simp; omega)]⟩
    · exact ⟨18, by decide, by rw [if_neg (by simp; omega), if_pos (by omega)]⟩
/-- The text at a place, none behind the end. -/
def strAt (ss : List ByteArray) (j : Nat) : ByteArray := if j < ss.length then ss.getD j ByteArray.empty else ⟨#[]⟩
theorem strs_at {w x : World} {a : Option Addr} {cap k : Nat} {ss : List ByteArray} (h : Strs w (.slice a ss.length cap) ss) (hb : Below w.heap.size w x) (hk : k < ss.length) : ∃ g off, a = some ⟨g, off, none⟩ ∧ x.cell? ⟨g, off + k, none⟩ = some (.string (ss.getD k ByteArray.empty)) := by
  obtain ⟨_, _, e0, _, h, _⟩ := h.below hb
  obtain ⟨rfl, rfl⟩ : a = _ ∧ cap = _ := by simpa using e0
  rcases h with h | ⟨g, off, rfl, hg, hc⟩
  · omega
  · exact ⟨g, off, rfl, hc k hk⟩
set_option maxHeartbeats 8000000 in
theorem walk (a0 : Int) (v1 : Value) (qs : List Int) (v2 : Value) (ss : List ByteArray) (w : World) (w0 : (Lit.int .i64 a0).wf = true) (w1 : IntsR w v1 qs) (w2 : Strs w v2 ss) :
    Calls Try.prog 6 #[.int .i64 a0, v1, v2] w fun e w' => e = .returned (.bool true) ∧ Below w.heap.size w w' := by
  have HH := Lib.hid (head10_any w)
  have i1 := w1.1
  have I1 := Lib.hid i1
  obtain ⟨xa, xc, hva, _, hxm, _⟩ := i1
  have HS := Lib.hid w2
  obtain ⟨ya, yc, hvb, hym, _, hss⟩ := w2
  have HSS := Lib.hid hss
  clear w0 w1 hss
  subst hva hvb
  unfold maxLen at hym
  have hxl : qs.length ≤ 9223372036854775807 := by unfold maxLen at hxm; omega
  by_cases hq30 : 30 < qs.length
  · have d1 : decide ((30 : Int) < (qs.length : Int)) = true := by simp; omega
    go_enter Try.func6, Try.ntmps6
    go_wp2_with fail
    refine HH.out.mono ?_
    rintro e w1 ⟨rfl, b1⟩
    go_wp2_with fail
    go_ret
    exact ⟨rfl, b1⟩
  have d1 : decide ((30 : Int) < (qs.length : Int)) = false := by simp; omega
  by_cases hs30 : 30 < ss.length
  · have d2 : decide ((30 : Int) < (ss.length : Int)) = true := by simp; omega
    go_enter Try.func6, Try.ntmps6
    go_wp2_with fail
    refine HH.out.mono ?_
    rintro e w1 ⟨rfl, b1⟩
    go_wp2_with fail
    go_ret
    exact ⟨rfl, b1⟩
  have d2 : decide ((30 : Int) < (ss.length : Int)) = false := by simp; omega
  obtain ⟨m, hm16, hm⟩ : ∃ m : Nat, m < 65536 ∧ bits .and .i64 a0 65535 = (m : Int) := ⟨(a0 % 65536).toNat, by omega, by rw [i64_and65535]; omega⟩
  obtain ⟨id, hid, hid1, hid2⟩ : ∃ id : Int, IntKind.i64.wrap (1 + (m : Int)) = id ∧ 1 ≤ id ∧ id ≤ 65536 := ⟨1 + m, by rw [IntWalk.i64_in _ (by omega)], by omega, by omega⟩
  have hidR : InR id := by unfold InR; omega
  have O1 : Hid (openE noS 0 id = 0 ∧ openC noS 0 id = 1 ∧ openT noS 0 id = oneS id 0 ⟨#[]⟩) := by
    have e : openE noS 0 id = 0 := by unfold openE okN noS; simp; omega
    exact Lib.hid ⟨e, by unfold openC; rw [e]; rfl, by unfold openT; rw [e]; rfl⟩
  have hq30' : qs.length ≤ 30 := by omega
  clear hm16 hxm hxl hq30 hs30
  go_enter Try.func6, Try.ntmps6
  go_wp2_with fail
  refine HH.out.mono ?_
  rintro e w1 ⟨rfl, b1⟩
  have HN := Lib.hid (new_any w1)
  go_wp2_with fail
  refine HN.out.mono ?_
  rintro e w3 ⟨tb, mb, rfl, H3, b3, ht, hmb⟩
  have hmw : w.heap.size ≤ mb := Nat.le_trans b1.size hmb
  replace b3 := b1.trans (b3.mono b1.size)
  have C := open_any tb mb 0 0 noS id w3 H3 hidR (by decide)
  rw [O1.out.1, O1.out.2.1, O1.out.2.2] at C
  have HC := Lib.hid C
  clear C HN b1 ht hmb H3 HH
  go_wp2_with fail
  refine HC.out.mono ?_
  rintro e w4 ⟨rfl, L4⟩
  have b4 := b3.trans (left10_below L4 hmw b3.size)
  have H4 := L4.1
  clear HC b3 L4 d1 d2 O1 hm hid
  go_wp2_with fail
  go_loopw [8, 9, 43] (fun lv tv iv wr => ∃ (j k l : Nat) (t : ByteArray), j ≤ qs.length ∧ k ≤ 1 + j ∧ l ≤ 31 ∧ lv = .int .i64 l ∧ tv = .string t ∧ iv = .int .i64 j ∧ TbW wr tb mb k 1 (oneS id l t) ∧ Below w.heap.size w wr) (fun _ _ iv _ => qs.length - (intOf iv).toNat)
  case atStart => exact ⟨0, 1, 0, _, by omega, by omega, by omega, rfl, rfl, rfl, H4, b4⟩
  case round =>
    obtain ⟨j, k, l, t, hj, hk, hl, rfl, rfl, rfl, HT, bk⟩ := hrel
    clear H4 b4
    by_cases hlt : j < qs.length
    · have hlt2 : decide ((j : Int) < (qs.length : Int)) = true := by simp; omega
      have hcellx : ∃ gg off, xa = some ⟨gg, off, none⟩ ∧ wr.cell? ⟨gg, off + j, none⟩ = some (.int .i64 (qs.getD j 0)) := by
        obtain ⟨_, _, hv, _, _, h3⟩ := IntsA.below I1.out bk
        injection hv with ha _ _
        obtain ⟨gg, off, h4, _, h5⟩ := h3.resolve_left (by omega)
        exact ⟨gg, off, ha.trans h4, h5 j hlt⟩
      obtain ⟨gg, off, rfl, hc1⟩ := hcellx
      obtain ⟨z, hz⟩ : ∃ z, z = qs.getD j 0 := ⟨_, rfl⟩
      rw [← hz] at hc1
      obtain ⟨q, hq, hq32⟩ : ∃ q : Nat, bits .and .i64 z 31 = (q : Int) ∧ q < 32 := ⟨(z % 32).toNat, by rw [i64_and31]; omega, by omega⟩
      have t2 : IntKind.i64.wrap ((j : Int) + 1) = (j : Int) + 1 := IntWalk.i64_in _ (by omega)
      have hj0 : (0 : Int) ≤ (j : Int) := by omega
      have hji : (j : Int) < (qs.length : Int) := by omega
      clear hz
      have HK : ∀ s : ByteArray, s.size ≤ 400 → Hid (∀ W : World, Below wr.heap.size wr W → Calls Try.prog 19 #[.pointer (some ⟨tb, 0, none⟩), .int .i64 id, .int .i64 (q : Int), .string s] W fun e w' => e = .returned (.int .i64 (keepE (oneS id l t) id q s)) ∧ Left10 W tb mb (k + 1) 1 (keepT (oneS id l t) id q s) w') := fun s hs => Lib.hid (fun W hW => keep_any tb mb k 1 _ id q s W (HT.below hW) hidR (by omega) (by omega))
      have HSN := Lib.hid (fun (W : World) (k' l' : Nat) (t' : ByteArray) (h1 : 1 ≤ l') (h2 : l' ≤ 31) (hW : TbW W tb mb k' 1 (oneS id l' t')) => (by
        have h := seen_any tb mb k' 1 (oneS id l' t') id (l' : Int) W hW hidR
        rw [(one_now id l' t' h1 h2).1] at h; exact h : Calls Try.prog 16 #[.pointer (some ⟨tb, 0, none⟩), .int .i64 id, .int .i64 (l' : Int)] W fun e w' => e = .returned (.tuple #[.string t', .bool true, .int .i64 0]) ∧ Below W.heap.size W w'))
      have HSX := Lib.hid (fun (W : World) (k' l' : Nat) (t' : ByteArray) (h1 : 1 ≤ l') (h2 : l' ≤ 31) (hW : TbW W tb mb k' 1 (oneS id l' t')) => (by
        have h := seen_any tb mb k' 1 (oneS id l' t') id ((l' : Int) + 1) W hW hidR
        rw [(one_now id l' t' h1 h2).2.1] at h; exact h : Calls Try.prog 16 #[.pointer (some ⟨tb, 0, none⟩), .int .i64 id, .int .i64 ((l' : Int) + 1)] W fun e w' => e = .returned (.tuple #[.string ⟨#[]⟩, .bool false, .int .i64 0]) ∧ Below W.heap.size W w'))
      have HSP := Lib.hid (fun (W : World) (k' l' : Nat) (t' : ByteArray) (h1 : 1 ≤ l') (h2 : l' ≤ 31) (hW : TbW W tb mb k' 1 (oneS id l' t')) => (by
        have h := seen_any tb mb k' 1 (oneS id l' t') id ((l' : Int) - 1) W hW hidR
        obtain ⟨r, hr, hs⟩ := (one_now id l' t' h1 h2).2.2
        rw [hs] at h; exact ⟨r, hr, h⟩ : ∃ r : Int, (r == 0) = false ∧ Calls Try.prog 16 #[.pointer (some ⟨tb, 0, none⟩), .int .i64 id, .int .i64 ((l' : Int) - 1)] W fun e w' => e = .returned (.tuple #[.string ⟨#[]⟩, .bool false, .int .i64 r]) ∧ Below W.heap.size W w'))
      clear HT
      --GEN--
      by_cases hjs : j < ss.length
      · have d3 : decide ((j : Int) < (ss.length : Int)) = true := by simp; omega
        have hjs2 : (j : Int) < (ss.length : Int) := by omega
        obtain ⟨g2', off2, rfl, hc2⟩ := strs_at HS.out bk hjs
        have hsz := HSS.out (ss.getD j ByteArray.empty) (by rw [List.getD_eq_getElem?_getD, List.getElem?_eq_getElem hjs]; exact List.getElem_mem hjs)
        obtain ⟨s, hs⟩ : ∃ s, s = ss.getD j ByteArray.empty := ⟨_, rfl⟩
        rw [← hs] at hc2 hsz
        unfold maxLen at hsz
        clear hs
        by_cases hs4 : 400 < s.size
        · have d4 : decide ((400 : Int) < (s.size : Int)) = true := by simp; omega
          clear HK HSN HSX HSP
          go_wp2_with fail
          go_ret
          exact ⟨rfl, bk⟩
        have d4 : decide ((400 : Int) < (s.size : Int)) = false := by simp; omega
        have HKs := HK s (by omega)
        have hcs := one_keep id l t q s (by omega) hq32
        rcases hcs with ⟨h1, hE, hTT⟩ | ⟨h1, h2, hE, hTT⟩ | ⟨h1, h2, hE, hTT⟩
        · have f1 : decide ((q : Int) < 1) = true := by simp; omega
          rw [hE, hTT] at HKs
          clear HK hE hTT
          go_wp2_with fail
          refine (HKs.out _ (Below.refl _ _)).mono ?_
          rintro e w7 ⟨rfl, L7⟩
          have b7 := bk.trans (left10_below L7 hmw bk.size)
          have H7 := L7.1
          clear L7 HKs hc1
          by_cases hl0 : l = 0
          · subst hl0
            go_wp2_with fail
            go_roundw
            case rel => exact ⟨j + 1, _, 0, t, by omega, by omega, by omega, rfl, rfl, by go_num, H7, b7⟩
            case measure => simp [intOf]; omega
          have f2 : ((l : Int) == 0) = false := by simp; omega
          have g1 : IntKind.i64.wrap ((l : Int) - 1) = (l : Int) - 1 := IntWalk.i64_in _ (by omega)
          have g2 : IntKind.i64.wrap ((l : Int) + 1) = (l : Int) + 1 := IntWalk.i64_in _ (by omega)
          go_wp2_with fail
          refine (HSN.out _ _ l t (by omega) (by omega) H7).mono ?_
          rintro e w8 ⟨rfl, b8⟩
          have H8 := H7.below b8
          replace b8 := b7.trans (b8.mono b7.size)
          clear H7 b7
          obtain ⟨r, hr, HSPc⟩ := HSP.out _ _ l t (by omega) (by omega) H8
          have HSPh := Lib.hid HSPc
          clear HSPc
          go_wp2_with fail
          refine HSPh.out.mono ?_
          rintro e w9 ⟨rfl, b9⟩
          have H9 := H8.below b9
          replace b9 := b8.trans (b9.mono b8.size)
          clear H8 b8 HSPh
          go_wp2_with fail
          refine (HSX.out _ _ l t (by omega) (by omega) H9).mono ?_
          rintro e w10 ⟨rfl, b10⟩
          have H10 := H9.below b10
          replace b10 := b9.trans (b10.mono b9.size)
          have ey : ((t : ByteArray).toList == (t : ByteArray).toList) = true := by simp
          clear H9 b9
          go_wp2_with fail
          go_roundw
          case rel => exact ⟨j + 1, _, l, t, by omega, by omega, by omega, rfl, rfl, by go_num, H10, b10⟩
          case measure => simp [intOf]; omega
        · have f1 : decide ((q : Int) < 1) = false := by simp; omega
          have f3 : decide ((q : Int) ≤ (l : Int)) = true := by simp; omega
          have f2 : ((l : Int) == 0) = false := by simp; omega
          have g1 : IntKind.i64.wrap ((l : Int) - 1) = (l : Int) - 1 := IntWalk.i64_in _ (by omega)
          have g2 : IntKind.i64.wrap ((l : Int) + 1) = (l : Int) + 1 := IntWalk.i64_in _ (by omega)
          rw [hE, hTT] at HKs
          clear HK hE hTT
          go_wp2_with fail
          refine (HKs.out _ (Below.refl _ _)).mono ?_
          rintro e w7 ⟨rfl, L7⟩
          have b7 := bk.trans (left10_below L7 hmw bk.size)
          have H7 := L7.1
          clear L7 HKs hc1
          go_wp2_with fail
          refine (HSN.out _ _ l t (by omega) (by omega) H7).mono ?_
          rintro e w8 ⟨rfl, b8⟩
          have H8 := H7.below b8
          replace b8 := b7.trans (b8.mono b7.size)
          clear H7 b7
          obtain ⟨r, hr, HSPc⟩ := HSP.out _ _ l t (by omega) (by omega) H8
          have HSPh := Lib.hid HSPc
          clear HSPc
          go_wp2_with fail
          refine HSPh.out.mono ?_
          rintro e w9 ⟨rfl, b9⟩
          have H9 := H8.below b9
          replace b9 := b8.trans (b9.mono b8.size)
          clear H8 b8 HSPh
          go_wp2_with fail
          refine (HSX.out _ _ l t (by omega) (by omega) H9).mono ?_
          rintro e w10 ⟨rfl, b10⟩
          have H10 := H9.below b10
          replace b10 := b9.trans (b10.mono b9.size)
          have ey : ((t : ByteArray).toList == (t : ByteArray).toList) = true := by simp
          clear H9 b9
          go_wp2_with fail
          go_roundw
          case rel => exact ⟨j + 1, _, l, t, by omega, by omega, by omega, rfl, rfl, by go_num, H10, b10⟩
          case measure => simp [intOf]; omega
        · have f1 : decide ((q : Int) < 1) = false := by simp; omega
          have f3 : decide ((q : Int) ≤ (l : Int)) = false := by simp; omega
          have f2 : ((q : Int) == 0) = false := by simp; omega
          have g1 : IntKind.i64.wrap ((q : Int) - 1) = (q : Int) - 1 := IntWalk.i64_in _ (by omega)
          have g2 : IntKind.i64.wrap ((q : Int) + 1) = (q : Int) + 1 := IntWalk.i64_in _ (by omega)
          rw [hE, hTT] at HKs
          clear HK hE hTT
          go_wp2_with fail
          refine (HKs.out _ (Below.refl _ _)).mono ?_
          rintro e w7 ⟨rfl, L7⟩
          have b7 := bk.trans (left10_below L7 hmw bk.size)
          have H7 := L7.1
          clear L7 HKs hc1
          go_wp2_with fail
          refine (HSN.out _ _ q s (by omega) (by omega) H7).mono ?_
          rintro e w8 ⟨rfl, b8⟩
          have H8 := H7.below b8
          replace b8 := b7.trans (b8.mono b7.size)
          clear H7 b7
          obtain ⟨r, hr, HSPc⟩ := HSP.out _ _ q s (by omega) (by omega) H8
          have HSPh := Lib.hid HSPc
          clear HSPc
          go_wp2_with fail
          refine HSPh.out.mono ?_
          rintro e w9 ⟨rfl, b9⟩
          have H9 := H8.below b9
          replace b9 := b8.trans (b9.mono b8.size)
          clear H8 b8 HSPh
          go_wp2_with fail
          refine (HSX.out _ _ q s (by omega) (by omega) H9).mono ?_
          rintro e w10 ⟨rfl, b10⟩
          have H10 := H9.below b10
          replace b10 := b9.trans (b10.mono b9.size)
          have ey : ((s : ByteArray).toList == (s : ByteArray).toList) = true := by simp
          clear H9 b9
          go_wp2_with fail
          go_roundw
          case rel => exact ⟨j + 1, _, q, s, by omega, by omega, by omega, rfl, rfl, by go_num, H10, b10⟩
          case measure => simp [intOf]; omega
      · have d3 : decide ((j : Int) < (ss.length : Int)) = false := by simp; omega
        have hz0 : ByteArray.size ⟨#[]⟩ ≤ 400 := by decide
        obtain ⟨s, hs⟩ : ∃ s : ByteArray, s = ⟨#[]⟩ := ⟨_, rfl⟩
        have hsz : s.size = 0 := by rw [hs]; rfl
        have HKs := HK ⟨#[]⟩ hz0
        have hcs := one_keep id l t q ⟨#[]⟩ hz0 hq32
        rcases hcs with ⟨h1, hE, hTT⟩ | ⟨h1, h2, hE, hTT⟩ | ⟨h1, h2, hE, hTT⟩
        · have f1 : decide ((q : Int) < 1) = true := by simp; omega
          rw [hE, hTT] at HKs
          clear HK hE hTT
          go_wp2_with fail
          refine (HKs.out _ (Below.refl _ _)).mono ?_
          rintro e w7 ⟨rfl, L7⟩
          have b7 := bk.trans (left10_below L7 hmw bk.size)
          have H7 := L7.1
          clear L7 HKs hc1
          by_cases hl0 : l = 0
          · subst hl0
            go_wp2_with fail
            go_roundw
            case rel => exact ⟨j + 1, _, 0, t, by omega, by omega, by omega, rfl, rfl, by go_num, H7, b7⟩
            case measure => simp [intOf]; omega
          have f2 : ((l : Int) == 0) = false := by simp; omega
          have g1 : IntKind.i64.wrap ((l : Int) - 1) = (l : Int) - 1 := IntWalk.i64_in _ (by omega)
          have g2 : IntKind.i64.wrap ((l : Int) + 1) = (l : Int) + 1 := IntWalk.i64_in _ (by omega)
          go_wp2_with fail
          refine (HSN.out _ _ l t (by omega) (by omega) H7).mono ?_
          rintro e w8 ⟨rfl, b8⟩
          have H8 := H7.below b8
          replace b8 := b7.trans (b8.mono b7.size)
          clear H7 b7
          obtain ⟨r, hr, HSPc⟩ := HSP.out _ _ l t (by omega) (by omega) H8
          have HSPh := Lib.hid HSPc
          clear HSPc
          go_wp2_with fail
          refine HSPh.out.mono ?_
          rintro e w9 ⟨rfl, b9⟩
          have H9 := H8.below b9
          replace b9 := b8.trans (b9.mono b8.size)
          clear H8 b8 HSPh
          go_wp2_with fail
          refine (HSX.out _ _ l t (by omega) (by omega) H9).mono ?_
          rintro e w10 ⟨rfl, b10⟩
          have H10 := H9.below b10
          replace b10 := b9.trans (b10.mono b9.size)
          have ey : ((t : ByteArray).toList == (t : ByteArray).toList) = true := by simp
          clear H9 b9
          go_wp2_with fail
          go_roundw
          case rel => exact ⟨j + 1, _, l, t, by omega, by omega, by omega, rfl, rfl, by go_num, H10, b10⟩
          case measure => simp [intOf]; omega
        · have f1 : decide ((q : Int) < 1) = false := by simp; omega
          have f3 : decide ((q : Int) ≤ (l : Int)) = true := by simp; omega
          have f2 : ((l : Int) == 0) = false := by simp; omega
          have g1 : IntKind.i64.wrap ((l : Int) - 1) = (l : Int) - 1 := IntWalk.i64_in _ (by omega)
          have g2 : IntKind.i64.wrap ((l : Int) + 1) = (l : Int) + 1 := IntWalk.i64_in _ (by omega)
          rw [hE, hTT] at HKs
          clear HK hE hTT
          go_wp2_with fail
          refine (HKs.out _ (Below.refl _ _)).mono ?_
          rintro e w7 ⟨rfl, L7⟩
          have b7 := bk.trans (left10_below L7 hmw bk.size)
          have H7 := L7.1
          clear L7 HKs hc1
          go_wp2_with fail
          refine (HSN.out _ _ l t (by omega) (by omega) H7).mono ?_
          rintro e w8 ⟨rfl, b8⟩
          have H8 := H7.below b8
          replace b8 := b7.trans (b8.mono b7.size)
          clear H7 b7
          obtain ⟨r, hr, HSPc⟩ := HSP.out _ _ l t (by omega) (by omega) H8
          have HSPh := Lib.hid HSPc
          clear HSPc
          go_wp2_with fail
          refine HSPh.out.mono ?_
          rintro e w9 ⟨rfl, b9⟩
          have H9 := H8.below b9
          replace b9 := b8.trans (b9.mono b8.size)
          clear H8 b8 HSPh
          go_wp2_with fail
          refine (HSX.out _ _ l t (by omega) (by omega) H9).mono ?_
          rintro e w10 ⟨rfl, b10⟩
          have H10 := H9.below b10
          replace b10 := b9.trans (b10.mono b9.size)
          have ey : ((t : ByteArray).toList == (t : ByteArray).toList) = true := by simp
          clear H9 b9
          go_wp2_with fail
          go_roundw
          case rel => exact ⟨j + 1, _, l, t, by omega, by omega, by omega, rfl, rfl, by go_num, H10, b10⟩
          case measure => simp [intOf]; omega
        · have f1 : decide ((q : Int) < 1) = false := by simp; omega
          have f3 : decide ((q : Int) ≤ (l : Int)) = false := by simp; omega
          have f2 : ((q : Int) == 0) = false := by simp; omega
          have g1 : IntKind.i64.wrap ((q : Int) - 1) = (q : Int) - 1 := IntWalk.i64_in _ (by omega)
          have g2 : IntKind.i64.wrap ((q : Int) + 1) = (q : Int) + 1 := IntWalk.i64_in _ (by omega)
          rw [hE, hTT] at HKs
          clear HK hE hTT
          go_wp2_with fail
          refine (HKs.out _ (Below.refl _ _)).mono ?_
          rintro e w7 ⟨rfl, L7⟩
          have b7 := bk.trans (left10_below L7 hmw bk.size)
          have H7 := L7.1
          clear L7 HKs hc1
          go_wp2_with fail
          refine (HSN.out _ _ q ⟨#[]⟩ (by omega) (by omega) H7).mono ?_
          rintro e w8 ⟨rfl, b8⟩
          have H8 := H7.below b8
          replace b8 := b7.trans (b8.mono b7.size)
          clear H7 b7
          obtain ⟨r, hr, HSPc⟩ := HSP.out _ _ q ⟨#[]⟩ (by omega) (by omega) H8
          have HSPh := Lib.hid HSPc
          clear HSPc
          go_wp2_with fail
          refine HSPh.out.mono ?_
          rintro e w9 ⟨rfl, b9⟩
          have H9 := H8.below b9
          replace b9 := b8.trans (b9.mono b8.size)
          clear H8 b8 HSPh
          go_wp2_with fail
          refine (HSX.out _ _ q ⟨#[]⟩ (by omega) (by omega) H9).mono ?_
          rintro e w10 ⟨rfl, b10⟩
          have H10 := H9.below b10
          replace b10 := b9.trans (b10.mono b9.size)
          have ey : ((⟨#[]⟩ : ByteArray).toList == (⟨#[]⟩ : ByteArray).toList) = true := by simp
          clear H9 b9
          go_wp2_with fail
          go_roundw
          case rel => exact ⟨j + 1, _, q, ⟨#[]⟩, by omega, by omega, by omega, rfl, rfl, by go_num, H10, b10⟩
          case measure => simp [intOf]; omega
    · obtain rfl : j = qs.length := by omega
      have hlt2 : decide ((qs.length : Int) < (qs.length : Int)) = false := by simp
      go_wp2_with fail
      go_ret
      exact ⟨rfl, bk⟩

theorem own : ownKnob Try.prog.godebug = none := by kernel_rfl
theorem laidOut : laidOutB Try.prog = true := by kernel_rfl

set_option maxRecDepth 100000 in
theorem lifted (os : Os) (started : os.Started) (H : Type) (enc : TypeId × Value → H) :
    ReturnsInHanded {} Try.checked os 6 .any (Rows.sessOnceSpec.pre6 enc Try.prog Try.f6 Rows.sessOnceRow.domain false) (Rows.sessOnceSpec.post enc Try.prog Try.f6 false true false false) := by
  refine returnsInHanded_of_change (C := Try.checked) own started (by kernel_rfl) Try.func6
    (ChangeSpec.witness6 (enc := enc) (C := Try.checked) false ⟨#[], #[.int .i64 0, .slice none 0 0, .slice none 0 0], []⟩ 8 (by kernel_rfl) (by kernel_rfl) (by kernel_rfl) (by kernel_rfl)) ?_
  intro W base args ds gs before hval0 hW hcnd _
  have hval : ∀ (j : Nat) t v, Try.f6.params[j]? = some t → args[j]? = some v → Value.okWide Try.prog W .any base t v := hval0
  have hW' := hW
  obtain ⟨p, q, hA0, hV, rfl, hfz, hnd⟩ := hW
  have hA : DataW.TrodAll enc Try.prog W 0 (fun _ => true) true Try.f6.params.toList args.toList ds p := hA0
  rw [Try.params6] at hA hval
  obtain ⟨v0, vs0, d0, ds0, p0, q0, hargs, rfl, rfl, h0, r0⟩ := trodAll_cons hA
  obtain ⟨v1, vs1, d1, ds1, p1, q1, rfl, rfl, rfl, h1, r1⟩ := trodAll_cons r0
  obtain ⟨v2, vs2, d2, ds2, p2, q2, rfl, rfl, rfl, h2, r2⟩ := trodAll_cons r1
  obtain ⟨rfl, rfl, rfl⟩ := trodAll_nil r2
  obtain rfl : args = #[v0, v1, v2] := by cases args; simp_all
  obtain ⟨rfl, rfl⟩ := trodVars_none hV
  obtain ⟨a0, rfl, rfl, rfl, w0⟩ := open_int Try.underlying3 (hval 0 3 v0 rfl rfl) h0
  have k1 := h1
  have lt1 : ∀ x ∈ p1, x.block < W.heap.size := by obtain ⟨m, hm⟩ := k1; exact DataW.trod_lt m _ _ _ hm
  obtain ⟨z1, w1⟩ := ints_of (hval 1 42 v1 rfl rfl) h1
  have k2 := h2
  have lt2 : ∀ x ∈ p2, x.block < W.heap.size := by obtain ⟨m, hm⟩ := k2; exact DataW.trod_lt m _ _ _ hm
  obtain ⟨z2, w2⟩ := strs_of (hval 2 56 v2 rfl rfl) h2
  clear hA0 hval0
  refine (walk a0 v1 z1 v2 z2 W w0 w1 w2).mono fun e W' ⟨he, bel⟩ => ?_
  subst he
  exact ⟨_, rfl, _, _, _, [], _, [], hW', trodAll_mk1 (shut_bool Try.underlying4 _), (trodAll_cons_mk (shut_int Try.underlying3 w0) (trodAll_cons_mk (Below.trod laidOut (by kernel_rfl) (of_decide_eq_true (by kernel_rfl)) k1 bel lt1) (trodAll_cons_mk (Below.trod laidOut (by kernel_rfl) (of_decide_eq_true (by kernel_rfl)) k2 bel lt2) trodAll_mk0))), rfl, bel.frame _, fun h => by cases h⟩

theorem over : Rows.sessOnceRow.holds Try.pinned (OpenSpec.ofChange Rows.sessOnceSpec) :=
  OpenClaim.holds_of_wide 6 Try.f6 rfl rfl rfl rfl rfl rfl rfl ⟨rfl, rfl, rfl, rfl, rfl⟩ rfl rfl rfl rfl rfl (by kernel_rfl) Try.func6 (by kernel_rfl)
    (of_decide_eq_true (by kernel_rfl)) (by unfold Func.isWrapper; first | (rw [if_pos (by decide +kernel)]; kernel_rfl) | (rw [if_neg (by decide +kernel)]; exact ⟨rfl, rfl⟩))
    (fun os started H enc _ => lifted os started H enc)

theorem proved : Rows.SessOnceSaid := over
end Go.Proofs.Ytckengglamkaaaa.sessOnce
