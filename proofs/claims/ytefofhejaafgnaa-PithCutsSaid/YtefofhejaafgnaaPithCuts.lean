/- PithCuts: what was laid of at most 20 parts (with texts of at most 300 bytes) is read whole, and neither a piece of it nor it with a byte more is; no condition on the input. -/
import Derived.Test.YtefofhejaafgnaaCutsMath
namespace Go.Proofs.Ytefofhejaafgnaa.pithCuts
open Go.ChangeShapes Go.WideShapes Go.ChangeAt Go.RowKit
open Go.ChangeMaps (open_string shut_string)
set_option linter.unusedVariables false

theorem i64_and65535 (n : Int) : bits .and .i64 n 65535 = n % 65536 := by
  have h127 : (BitVec.ofInt 64 65535).toNat = 2 ^ 16 - 1 := by decide
  have key : (BitVec.ofInt 64 n &&& BitVec.ofInt 64 65535).toNat = (n % ((2 ^ 64 : Nat) : Int)).toNat % 2 ^ 16 := by
    rw [BitVec.toNat_and, BitVec.toNat_ofInt, h127, Nat.and_two_pow_sub_one_eq_mod]
  show IntKind.i64.wrap ((BitVec.ofInt 64 n &&& BitVec.ofInt 64 65535).toNat : Nat) = n % 65536
  rw [key, IntKind.wrap_i64]
  omega

theorem run_str_u8 (W : World) (q : Nat) (hq : q < 256) :
    (convert 24 9 (.slice (some ⟨W.heap.size, 0, none⟩) 1 1)).run Try.prog (W.alloc (.cells #[.int .u8 (q : Int)] 5)) = .ok (.string ⟨#[UInt8.ofNat q]⟩) (W.alloc (.cells #[.int .u8 (q : Int)] 5)) := by
  have h := run_str_one W q
  rwa [show (q : Int) % 256 = (q : Int) by omega] at h

/-- The parts, at most 20, as they lie in memory. -/
def At (w : World) (b off len1 : Nat) (ps : List Pt) : Prop := b < w.heap.size ∧ ∀ j, j < len1 →
  (w.cell? ⟨b, off + j * 3, none⟩ = some (.int .i64 (ps.getD j pt0).k) ∧ w.cell? ⟨b, off + j * 3 + 1, none⟩ = some (.int .i64 (ps.getD j pt0).n) ∧ w.cell? ⟨b, off + j * 3 + 2, none⟩ = some (.string (ps.getD j pt0).s)) ∧
  (-9223372036854775808 ≤ (ps.getD j pt0).n ∧ (ps.getD j pt0).n ≤ 9223372036854775807) ∧ (ps.getD j pt0).s.size ≤ maxLen
theorem At.below {w w' : World} {b off len1 : Nat} {ps : List Pt} (h : At w b off len1 ps) (k : Below w.heap.size w w') : At w' b off len1 ps := by
  obtain ⟨hb, hc⟩ := h
  refine ⟨Nat.lt_of_lt_of_le hb k.size, fun j hj => ?_⟩
  obtain ⟨⟨c0, c1, c2⟩, h2⟩ := hc j hj
  refine ⟨⟨?_, ?_, ?_⟩, h2⟩
  · rw [k.cell (p := ⟨b, off + j * 3, none⟩) hb]; exact c0
  · rw [k.cell (p := ⟨b, off + j * 3 + 1, none⟩) hb]; exact c1
  · rw [k.cell (p := ⟨b, off + j * 3 + 2, none⟩) hb]; exact c2

set_option maxHeartbeats 1000000 in
/-- The statement's own 'all': every part read, and whether that was all. -/
theorem all_any (t : ByteArray) (b3 b off len1 cap1 : Nat) (ps : List Pt) (w : World) (ht : t.size ≤ 140737488355328) (hps : ps.length = len1) (h1 : len1 ≤ 20) (hat : At w b off len1 ps)
    (hb3 : w.cell? ⟨b3, 0, none⟩ = some (.slice (some ⟨b, off, none⟩) len1 cap1)) (hb3l : b3 < w.heap.size) :
    Calls Try.prog 25 #[.string t, .pointer (some ⟨b3, 0, none⟩)] w fun e w' => e = .returned (.int .i64 (doneF (readAll ps (some t.data.toList)))) ∧ Below w.heap.size w w' := by
  have HAT := Lib.hid hat
  have HPS := Lib.hid hps
  have hrd := read_any t w
  obtain ⟨V, hV⟩ : ∃ V, V = doneF (readAll ps (some t.data.toList)) := ⟨_, rfl⟩
  rw [← hV]
  have HV := Lib.hid hV
  clear hat hps hV
  have HRD := Lib.hid hrd
  clear hrd
  go_enter Try.func25, Try.ntmps25
  go_wp2_with fail
  refine HRD.out.mono ?_
  rintro e w2 ⟨rfl, hr2, hb2, hs2⟩
  have hr : Rs w2 w.heap.size (some t.data.toList) := ⟨by simpa using hr2, by rw [← Lib.size_eq]; exact ht⟩
  have hcb : w2.cell? ⟨b3, 0, none⟩ = some (.slice (some ⟨b, off, none⟩) len1 cap1) := (hb2.cell (p := ⟨b3, 0, none⟩) hb3l).trans hb3
  obtain ⟨rb, hrbe⟩ : ∃ rb, rb = w.heap.size := ⟨_, rfl⟩
  rw [← hrbe] at hr ⊢
  have HRB := Lib.hid hrbe
  have hrb : w.heap.size ≤ rb := by omega
  clear hr2 hs2 hrbe
  go_wp2_with fail
  go_loopw [11] (fun i wr => ∃ k : Nat, k ≤ len1 ∧ i = .int .i64 k ∧ Rs wr rb (readAll (ps.take k) (some t.data.toList)) ∧ Below w.heap.size w wr) (fun i _ => len1 - (intOf i).toNat)
  case atStart => exact ⟨0, Nat.zero_le _, rfl, hr, hb2⟩
  case round =>
    obtain ⟨k, hk, rfl, hrr, hbw⟩ := hrel
    clear hr hcb
    by_cases hlt : k < len1
    · obtain ⟨hbb, hcc⟩ := HAT.out
      obtain ⟨⟨c0, c1, c2⟩, ⟨b0, b1⟩, b2⟩ := hcc k hlt
      rw [← hbw.cell (p := ⟨b, off + k * 3, none⟩) hbb] at c0
      rw [← hbw.cell (p := ⟨b, off + k * 3 + 1, none⟩) hbb] at c1
      rw [← hbw.cell (p := ⟨b, off + k * 3 + 2, none⟩) hbb] at c2
      have HES := Lib.hid (readAll_snoc ps k (some t.data.toList) (by rw [HPS.out]; exact hlt))
      generalize ps.getD k pt0 = p at *
      obtain ⟨pk, pn, s⟩ := p
      simp only at c0 c1 c2 b0 b1 b2
      clear hcc hbb
      generalize readAll (ps.take k) (some t.data.toList) = st at *
      have hrr2 := hrr.below ((Below.refl _ wr).alloc (Nat.le_refl _) (.cells #[.int .i64 pk, .int .i64 pn, .string s] 26))
      have hbe := hbw.alloc hbw.size (.cells #[.int .i64 pk, .int .i64 pn, .string s] 26)
      go_wp2_with fail
      refine (read_rs rb st pk pn s _ hrr2).mono ?_
      rintro e w4 ⟨rfl, hr4, hg4⟩
      rw [← HES.out] at hr4
      have hb4 := hbe.grown hg4 hbe.size (by intro k hk; simp at hk; rw [← hk]; exact hrb)
      clear hrr hrr2 hg4 hbe hbw
      go_wp2_with fail
      go_roundw
      case rel => exact ⟨k + 1, by omega, by go_num, hr4, hb4⟩
      case measure => simp [intOf]; omega
    · have hkk : ps.take k = ps := List.take_of_length_le (by rw [HPS.out]; omega)
      rw [hkk] at hrr
      have HD := Lib.hid (done_rs rb _ _ hrr)
      rw [← HV.out] at HD
      go_wp2_with fail
      refine HD.out.mono ?_
      rintro e w4 ⟨rfl, rfl⟩
      go_wp2_with fail
      go_ret
      exact ⟨rfl, hbw⟩

set_option maxHeartbeats 1000000 in
theorem walk_long (a1 : Option Addr) (len1 cap1 : Nat) (x1 x2 : Int) (w : World) (hl : 20 < len1 ∨ len1 = 0) (hcap : len1 ≤ maxLen) :
    Calls Try.prog 8 #[.slice a1 len1 cap1, .int .i64 x1, .int .u8 x2] w fun e w' => e = .returned (.bool true) ∧ Below w.heap.size w w' := by
  unfold maxLen at hcap
  have h0 := (Below.refl w.heap.size w).alloc (Nat.le_refl _) (.cells #[.slice a1 len1 cap1] 22)
  have hc0 : (w.alloc (.cells #[.slice a1 len1 cap1] 22)).cell? ⟨w.heap.size, 0, none⟩ = some (.slice a1 len1 cap1) := by simp
  by_cases h20 : 20 < len1
  · have hd2 : decide ((20 : Int) < (len1 : Int)) = true := by simp; omega
    clear hl
    go_enter Try.func8, Try.ntmps8
    go_wp2_with fail
    refine (head_any _).mono ?_
    rintro e w1 ⟨rfl, hb⟩
    have hc1 : w1.cell? ⟨w.heap.size, 0, none⟩ = some (.slice a1 len1 cap1) := (hb.cell (p := ⟨w.heap.size, 0, none⟩) (by simp)).trans hc0
    have hbe := h0.trans (hb.mono (by simp))
    clear hb h0 hc0
    go_wp2_with fail
    go_ret
    exact ⟨rfl, hbe⟩
  · have hz : len1 = 0 := by omega
    subst hz
    clear hl
    go_enter Try.func8, Try.ntmps8
    go_wp2_with fail
    refine (head_any _).mono ?_
    rintro e w1 ⟨rfl, hb⟩
    have hc1 : w1.cell? ⟨w.heap.size, 0, none⟩ = some (.slice a1 0 cap1) := (hb.cell (p := ⟨w.heap.size, 0, none⟩) (by simp)).trans hc0
    have hbe := h0.trans (hb.mono (by simp))
    clear hb h0 hc0
    go_wp2_with fail
    go_ret
    exact ⟨rfl, hbe⟩

set_option maxHeartbeats 4000000 in
theorem walk_some (b off len1 cap1 : Nat) (ps : List Pt) (x1 x2 : Int) (w : World) (hps : ps.length = len1) (h1 : len1 ≤ 20) (hpos : 0 < len1) (hat : At w b off len1 ps) (hx2 : 0 ≤ x2 ∧ x2 ≤ 255) :
    Calls Try.prog 8 #[.slice (some ⟨b, off, none⟩) len1 cap1, .int .i64 x1, .int .u8 x2] w fun e w' => e = .returned (.bool true) ∧ Below w.heap.size w w' := by
  have hd2 : decide ((20 : Int) < (len1 : Int)) = false := by simp; omega
  have hd3 : ((len1 : Int) == 0) = false := by rw [beq_eq_false_iff_ne]; omega
  have HAT := Lib.hid hat
  have HPS := Lib.hid hps
  have h0 := (Below.refl w.heap.size w).alloc (Nat.le_refl _) (.cells #[.slice (some ⟨b, off, none⟩) len1 cap1] 22)
  have hc0 : (w.alloc (.cells #[.slice (some ⟨b, off, none⟩) len1 cap1] 22)).cell? ⟨w.heap.size, 0, none⟩ = some (.slice (some ⟨b, off, none⟩) len1 cap1) := by simp
  clear hat hps
  go_enter Try.func8, Try.ntmps8
  go_wp2_with fail
  refine (head_any _).mono ?_
  rintro e w1 ⟨rfl, hb⟩
  have hc1 : w1.cell? ⟨w.heap.size, 0, none⟩ = some (.slice (some ⟨b, off, none⟩) len1 cap1) := (hb.cell (p := ⟨w.heap.size, 0, none⟩) (by simp)).trans hc0
  have hbe := h0.trans (hb.mono (by simp))
  have hl1 : w.heap.size < w1.heap.size := by have := hb.size; simp at this; omega
  have HAT1 := Lib.hid (HAT.out.below hbe)
  clear hb h0 hc0 HAT
  go_wp2_with fail
  go_loopw [23] (fun i wr => ∃ k : Nat, k ≤ len1 ∧ i = .int .i64 k ∧ Hid (∀ j, j < k → (ps.getD j pt0).s.size ≤ 300) ∧ Below w1.heap.size w1 wr) (fun i _ => len1 - (intOf i).toNat)
  case atStart => exact ⟨0, Nat.zero_le _, rfl, fun j hj => absurd hj (by omega), Below.refl _ _⟩
  case round =>
    obtain ⟨k, hk, rfl, HLT, hbw⟩ := hrel
    by_cases hlt : k < len1
    · obtain ⟨hbb, hcc⟩ := HAT1.out.below hbw
      obtain ⟨⟨c0, c1, c2⟩, ⟨b0, b1⟩, b2⟩ := hcc k hlt
      have HG := Lib.hid (show ∀ j, j < k + 1 → (ps.getD k pt0).s.size ≤ 300 → (ps.getD j pt0).s.size ≤ 300 by
        intro j hj h3
        by_cases hjk : j = k
        · rw [hjk]; exact h3
        · exact HLT.out j (by omega))
      clear hcc
      generalize ps.getD k pt0 = p at *
      obtain ⟨pk, pn, s⟩ := p
      simp only at c0 c1 c2 b0 b1 b2 HG
      unfold maxLen at b2
      have hbe2 := hbw.alloc hbw.size (.cells #[.int .i64 pk, .int .i64 pn, .string s] 26)
      by_cases hs3 : 300 < s.size
      · have hds : decide ((300 : Int) < (s.size : Int)) = true := by simp; omega
        go_wp2_with fail
        go_ret
        exact ⟨rfl, hbe.trans (hbe2.mono hbe.size)⟩
      · have hds : decide ((300 : Int) < (s.size : Int)) = false := by simp; omega
        have HLT2 : Hid (∀ j, j < k + 1 → (ps.getD j pt0).s.size ≤ 300) := fun j hj => HG.out j hj (by omega)
        go_wp2_with fail
        go_roundw
        case rel => exact ⟨k + 1, by omega, by go_num, HLT2, hbe2⟩
        case measure => simp [intOf]; omega
    · have hk1 : k = len1 := by omega
      subst hk1
      have hs3 : ∀ p ∈ ps, p.s.data.toList.length ≤ 1000 := by
        intro p hp
        obtain ⟨j, hj, he⟩ := List.getElem_of_mem hp
        have := HLT.out j (by rw [← HPS.out]; exact hj)
        rw [show ps.getD j pt0 = ps[j] by simp [hj], he] at this
        rw [← Lib.size_eq]
        omega
      obtain ⟨S, hS⟩ : ∃ S, S = ByteArray.mk (laysE ps).toArray := ⟨_, rfl⟩
      have hSd : S.data.toList = laysE ps := by rw [hS]
      have hSs : S.size = (laysE ps).length := by rw [hS, size_mk]
      have hSp : 0 < S.size := by rw [hSs]; exact laysE_pos ps (by rw [HPS.out]; exact hpos)
      have hSm : S.size ≤ 1310740 := by
        have := laysE_length ps
        rw [HPS.out] at this
        omega
      have HLAY : Hid (Calls Try.prog 15 #[.slice (some ⟨b, off, none⟩) k cap1] wr fun e w' => e = .returned (.string S) ∧ Below wr.heap.size wr w') := by
        obtain ⟨hbb, hcc⟩ := HAT1.out.below hbw
        rw [hS]
        have h := lay_some b off cap1 ps wr hbb (fun j hj => by
          obtain ⟨c, h2, h3⟩ := hcc j (by rw [← HPS.out]; exact hj)
          have := HLT.out j (by rw [← HPS.out]; exact hj)
          exact ⟨c, h2, by omega⟩) (by rw [HPS.out]; omega)
        rw [HPS.out] at h
        exact h
      -- the piece
      obtain ⟨c, hc⟩ : ∃ c : Nat, (c : Int) = x1 % 65536 % (S.size : Int) := ⟨(x1 % 65536 % (S.size : Int)).toNat, Int.toNat_of_nonneg (Int.emod_nonneg _ (by omega))⟩
      have hcS : c < S.size := by
        have := Int.emod_lt_of_pos (x1 % 65536) (show (0 : Int) < (S.size : Int) by omega)
        omega
      have hand := i64_and65535
      have hmod : x1 % 65536 % (S.size : Int) = (c : Int) := hc.symm
      have hmod0 : 0 ≤ x1 % 65536 := Int.emod_nonneg _ (by omega)
      have hmod1 : x1 % 65536 < 65536 := Int.emod_lt_of_pos _ (by omega)
      have D1 : doneF (readAll ps (some S.data.toList)) = 0 := by
        have := readAll_E ps [] hs3
        rw [List.append_nil] at this
        rw [hSd, this]
        rfl
      have D2 : doneF (readAll ps (some (S.extract 0 c).data.toList)) = 2 := by
        rw [Lib.extract_data, hSd, List.drop_zero, Nat.sub_zero, readAll_cut ps _ ((laysE ps).drop c) hs3 (List.take_append_drop _ _) (by
          intro e
          have := congrArg List.length e
          rw [List.length_drop] at this
          simp at this
          omega)]
        rfl
      obtain ⟨m, hm⟩ := Int.eq_ofNat_of_zero_le hx2.1
      subst hm
      have D3 : doneF (readAll ps (some (S ++ ByteArray.mk #[UInt8.ofNat m]).data.toList)) = 2 := by
        have h : (S ++ ByteArray.mk #[UInt8.ofNat m]).data.toList = laysE ps ++ [UInt8.ofNat m] := by simp [hSd]
        rw [h, readAll_E ps _ hs3]
        rfl
      have hE := hbe.trans (hbw.mono hbe.size)
      have hcw : wr.cell? ⟨w.heap.size, 0, none⟩ = some (.slice (some ⟨b, off, none⟩) k cap1) := (hbw.cell (p := ⟨w.heap.size, 0, none⟩) hl1).trans hc1
      have hlw : w.heap.size < wr.heap.size := Nat.lt_of_lt_of_le hl1 hbw.size
      have HATR := Lib.hid (HAT1.out.below hbw)
      have HALL := Lib.hid (fun (t : ByteArray) (ht : t.size ≤ 140737488355328) (W : World) (hW : Below wr.heap.size wr W) =>
        all_any t w.heap.size b off k cap1 ps W ht HPS.out h1 (HATR.out.below hW) ((hW.cell (p := ⟨w.heap.size, 0, none⟩) hlw).trans hcw) (Nat.lt_of_lt_of_le hlw hW.size))
      have HD1 := Lib.hid D1
      have HD2 := Lib.hid D2
      have HD3 := Lib.hid D3
      clear D1 D2 D3 hc hS hSd hSs hs3 hbw hbe HLT hc1
      go_wp2_with fail
      refine HLAY.out.mono ?_
      rintro e w2 ⟨rfl, hb2⟩
      have hmf : ∀ (fn : Fn) (first cap : Array Value) (w : World), (Instr.makeFunc fn first cap).run Try.prog w = .ok (.func fn first cap) w := fun _ _ _ _ => rfl
      go_wp2_with fail
      refine (HALL.out S (by omega) _ hb2).mono ?_
      rintro e w3 ⟨rfl, hb3⟩
      rw [HD1.out]
      have hb3' := hb2.trans (hb3.mono hb2.size)
      clear hb2 hb3
      have hxc : (S.extract 0 c).size ≤ 140737488355328 := by simp; omega
      go_wp2_with fail
      refine (HALL.out (S.extract 0 c) hxc _ hb3').mono ?_
      rintro e w4 ⟨rfl, hb4⟩
      rw [HD2.out]
      have hb4' := hb3'.trans (hb4.mono hb3'.size)
      have hst := run_str_u8 w4 m (by omega)
      have hb5 := hb4'.alloc hb4'.size (.cells #[.int .u8 (m : Int)] 5)
      have hxd : (S ++ ByteArray.mk #[UInt8.ofNat m]).size ≤ 140737488355328 := by
        rw [ByteArray.size_append]
        show S.size + 1 ≤ _
        omega
      clear hb3' hb4 hxc
      go_wp2_with fail
      refine (HALL.out (S ++ ByteArray.mk #[UInt8.ofNat m]) hxd _ hb5).mono ?_
      rintro e w6 ⟨rfl, hb6⟩
      rw [HD3.out]
      have hb7 := hb5.trans (hb6.mono hb5.size)
      clear hb5 hb6 hb4'
      go_wp2_with fail
      go_ret
      exact ⟨rfl, hE.trans (hb7.mono hE.size)⟩

theorem walk (a0 : Option Addr) (len0 cap0 : Nat) (z0 : List Pt) (x1 x2 : Int) (w : World) (w0 : IsParts w a0 len0 cap0 z0) (w1 : (Lit.int .i64 x1).wf = true) (w2 : (Lit.int .u8 x2).wf = true) :
    Calls Try.prog 8 #[.slice a0 len0 cap0, .int .i64 x1, .int .u8 x2] w fun e w' => e = .returned (.bool true) ∧ Below w.heap.size w w' := by
  obtain ⟨h1, h2, h3⟩ := w0
  by_cases hl : 20 < len0 ∨ len0 = 0
  · exact walk_long a0 len0 cap0 x1 x2 w hl h2
  · rcases h3 with h3 | ⟨b, off, rfl, hb, hc⟩
    · omega
    · exact walk_some b off len0 cap0 z0 x1 x2 w h1 (by omega) (by omega) ⟨hb, fun j hj => hc j (by rw [h1]; exact hj)⟩ (bounds_u8 w2)

theorem own : ownKnob Try.prog.godebug = none := by kernel_rfl
theorem laidOut : laidOutB Try.prog = true := by kernel_rfl

set_option maxRecDepth 100000 in
theorem lifted (os : Os) (started : os.Started) (H : Type) (enc : TypeId × Value → H) :
    ReturnsInHanded {} Try.checked os 8 .any (Rows.pithCutsSpec.pre6 enc Try.prog Try.f8 Rows.pithCutsRow.domain false) (Rows.pithCutsSpec.post enc Try.prog Try.f8 false true false false) := by
  refine returnsInHanded_of_change (C := Try.checked) own started (by kernel_rfl) Try.func8
    (ChangeSpec.witness6 (enc := enc) (C := Try.checked) false ⟨#[], #[.slice none 0 0, .int .i64 0, .int .u8 0], []⟩ 8 (by kernel_rfl) (by kernel_rfl) (by kernel_rfl) (by kernel_rfl)) ?_
  intro W base args ds gs before hval0 hW hcnd _
  have hval : ∀ (j : Nat) t v, Try.f8.params[j]? = some t → args[j]? = some v → Value.okWide Try.prog W .any base t v := hval0
  have hW' := hW
  obtain ⟨p, q, hA0, hV, rfl, hfz, hnd⟩ := hW
  have hA : DataW.TrodAll enc Try.prog W 0 (fun _ => true) true Try.f8.params.toList args.toList ds p := hA0
  rw [Try.params8] at hA hval
  obtain ⟨v0, vs0, d0, ds0, p0, q0, hargs, rfl, rfl, h0, r0⟩ := trodAll_cons hA
  obtain ⟨v1, vs1, d1, ds1, p1, q1, rfl, rfl, rfl, h1, r1⟩ := trodAll_cons r0
  obtain ⟨v2, vs2, d2, ds2, p2, q2, rfl, rfl, rfl, h2, r2⟩ := trodAll_cons r1
  obtain ⟨rfl, rfl, rfl⟩ := trodAll_nil r2
  obtain rfl : args = #[v0, v1, v2] := by cases args; simp_all
  obtain ⟨rfl, rfl⟩ := trodVars_none hV
  obtain ⟨a0, len0, cap0, rfl⟩ := okWide_slice Try.underlying22 (hval 0 22 v0 rfl rfl)
  have k0 := h0
  have lt0 : ∀ x ∈ p0, x.block < W.heap.size := by obtain ⟨m, hm⟩ := k0; exact DataW.trod_lt m _ _ _ hm
  obtain ⟨z0, w0⟩ := parts_of h0
  obtain ⟨a1, rfl, rfl, rfl, w1⟩ := open_int Try.underlying3 (hval 1 3 v1 rfl rfl) h1
  obtain ⟨a2, rfl, rfl, rfl, w2⟩ := open_int Try.underlying5 (hval 2 5 v2 rfl rfl) h2
  clear hA0 hval0
  refine (walk a0 len0 cap0 z0 a1 a2 W w0 w1 w2).mono fun e W' ⟨he, bel⟩ => ?_
  subst he
  exact ⟨_, rfl, _, _, _, [], _, [], hW', trodAll_mk1 (shut_bool Try.underlying4 _), (trodAll_cons_mk (Below.trod laidOut (by kernel_rfl) (of_decide_eq_true (by kernel_rfl)) k0 bel lt0) (trodAll_cons_mk (shut_int Try.underlying3 w1) (trodAll_cons_mk (shut_int Try.underlying5 w2) trodAll_mk0))), rfl, bel.frame _, fun h => by cases h⟩

theorem over : Rows.pithCutsRow.holds Try.pinned (OpenSpec.ofChange Rows.pithCutsSpec) :=
  OpenClaim.holds_of_wide 8 Try.f8 rfl rfl rfl rfl rfl rfl rfl ⟨rfl, rfl, rfl, rfl, rfl⟩ rfl rfl rfl rfl rfl (by kernel_rfl) Try.func8 (by kernel_rfl)
    (of_decide_eq_true (by kernel_rfl)) (by unfold Func.isWrapper; first | (rw [if_pos (by decide +kernel)]; kernel_rfl) | (rw [if_neg (by decide +kernel)]; exact ⟨rfl, rfl⟩))
    (fun os started H enc _ => lifted os started H enc)

theorem proved : Rows.PithCutsSaid := over
end Go.Proofs.Ytefofhejaafgnaa.pithCuts
