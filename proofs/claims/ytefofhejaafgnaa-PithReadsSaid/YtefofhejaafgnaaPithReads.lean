/- PithReads: of any text of at most 200 bytes, what a reader reads without an error stands there in its one form, and after an error nothing is read; no condition on the input. -/
import Derived.Test.YtefofhejaafgnaaLaw1b
import Derived.ProofKit
import Derived.OpenShut
import Derived.ShutString
import Derived.ChangeOld
namespace Go.Proofs.Ytefofhejaafgnaa.pithReads
open Go.ChangeShapes Go.WideShapes Go.ChangeAt Go.RowKit
open Go.ChangeMaps (open_string shut_string)
set_option linter.unusedVariables false

/-- The slice of integers that came in. -/
def IsRow (k : IntKind) (w : World) (a : Option Addr) (len cap : Nat) (zs : List Int) : Prop :=
  (a = none ∧ len = 0 ∧ cap = 0 ∧ zs = []) ∨
  ∃ x, a = some x ∧ len ≤ cap ∧ cap ≤ maxLen ∧ zs.length = cap ∧ (∀ i, i < zs.length → w.cell? (x.add i) = some (.int k (zs.getD i 0))) ∧ ∀ n ∈ zs, (Lit.int k n).wf = true

set_option maxHeartbeats 1000000 in
theorem walk_long (a0 : ByteArray) (a1 : Option Addr) (len1 cap1 : Nat) (w : World) (w0 : a0.size ≤ maxLen) (hl : 200 < a0.size ∨ 20 < len1) (hcap : len1 ≤ maxLen) :
    Calls Try.prog 4 #[.string a0, .slice a1 len1 cap1] w fun e w' => e = .returned (.bool true) ∧ Below w.heap.size w w' := by
  unfold maxLen at w0 hcap
  by_cases h1 : 200 < a0.size
  · have hd : decide ((200 : Int) < (a0.size : Int)) = true := by simp; omega
    clear hl
    go_enter Try.func4, Try.ntmps4
    go_wp2_with (go_at_call 10; refine (head_any _).mono ?_; rintro e w1 ⟨rfl, hb⟩)
    go_ret
    exact ⟨rfl, hb⟩
  · have hd : decide ((200 : Int) < (a0.size : Int)) = false := by simp; omega
    have hd2 : decide ((20 : Int) < (len1 : Int)) = true := by simp; omega
    clear hl
    go_enter Try.func4, Try.ntmps4
    go_wp2_with (go_at_call 10; refine (head_any _).mono ?_; rintro e w1 ⟨rfl, hb⟩)
    go_ret
    exact ⟨rfl, hb⟩

set_option maxHeartbeats 2000000 in
theorem walk_some (a0 : ByteArray) (b off len1 cap1 : Nat) (zs : List Int) (w : World) (h0 : a0.size ≤ 200) (h1 : len1 ≤ 20) (hzl : len1 ≤ zs.length) (hbw : 0 < len1 → b < w.heap.size)
    (hc : ∀ j, j < len1 → w.cell? ⟨b, off + j, none⟩ = some (.int .i64 (zs.getD j 0))) (a1 : Option Addr) (ha1 : 0 < len1 → a1 = some ⟨b, off, none⟩) :
    Calls Try.prog 4 #[.string a0, .slice a1 len1 cap1] w fun e w' => e = .returned (.bool true) ∧ Below w.heap.size w w' := by
  have hd : decide ((200 : Int) < (a0.size : Int)) = false := by simp; omega
  have hd2 : decide ((20 : Int) < (len1 : Int)) = false := by simp; omega
  have HC := Lib.hid hc
  have HA := Lib.hid ha1
  have HB := Lib.hid hbw
  clear hc ha1 hbw
  go_enter Try.func4, Try.ntmps4
  go_wp2_with (go_at_call 10; refine (head_any _).mono ?_; rintro e w1 ⟨rfl, hb1⟩)
  refine (read_any a0 _).mono ?_
  rintro e w2 ⟨rfl, hr2, hb2, hs2⟩
  have hr : Rs w2 w1.heap.size (some a0.data.toList) := ⟨by simpa using hr2, by rw [← Lib.size_eq]; omega⟩
  clear hr2
  have hbel : Below w.heap.size w w2 := hb1.trans (hb2.mono hb1.size)
  have hrb := hb1.size
  generalize w1.heap.size = rb at *
  clear hb1 hb2 hs2
  go_wp2_with fail
  go_loopw [6, 25] (fun x i wr => ∃ (k at_ : Nat) (l : List UInt8), k ≤ len1 ∧ at_ ≤ a0.size ∧ i = .int .i64 k ∧ x = .int .i64 at_ ∧ Hid (l = a0.data.toList.drop at_) ∧ Rs wr rb (some l) ∧ Below w.heap.size w wr) (fun _ i _ => len1 - (intOf i).toNat)
  case atStart => exact ⟨0, 0, a0.data.toList, Nat.zero_le _, Nat.zero_le _, rfl, rfl, rfl, hr, hbel⟩
  case round =>
    obtain ⟨k, t, l, hk, ht, rfl, rfl, HL, hrr, hbw⟩ := hrel
    clear hr hbel
    by_cases hlt : k < len1
    · have hcell : wr.cell? ⟨b, off + k, none⟩ = some (.int .i64 (zs.getD k 0)) := (hbw.cell (p := ⟨b, off + k, none⟩) (HB.out (by omega))).trans (HC.out k hlt)
      have ha := HA.out (by omega)
      subst ha
      generalize zs.getD k 0 = z at *
      have hrd := fun (W : World) (hW : Rs W rb (some l)) => read_rs rb (some l) z 0 ⟨#[]⟩ W hW
      cases hq : readF (kindN z) (some l) with
      | mk nm st =>
        obtain ⟨n, m⟩ := nm
        rw [hq] at hrd
        have HRD := Lib.hid hrd
        have HQ := Lib.hid hq
        clear hrd hq
        cases st with
        | none =>
          clear HL HQ
          go_wp2_with fail
          refine (HRD.out _ hrr).mono ?_
          rintro e w4 ⟨rfl, hr4, hg4⟩
          have hb4 := hbw.grown hg4 hbw.size (by intro k hk; simp at hk; rw [← hk]; exact hrb)
          clear hrr hg4 hcell hbw HRD
          unfold partV
          go_wp2_with fail
          have hr5 : Rs (w4.alloc (.cells #[.int .i64 (kindN z), .int .i64 n, .string ⟨m.toArray⟩] 26)) rb none := hr4.below ((Below.refl _ w4).alloc (Nat.le_refl _) _)
          have hb5 := hb4.alloc hb4.size (.cells #[.int .i64 (kindN z), .int .i64 n, .string ⟨m.toArray⟩] 26)
          generalize w4.alloc (.cells #[.int .i64 (kindN z), .int .i64 n, .string ⟨m.toArray⟩] 26) = w5 at *
          refine (ok_rs rb none _ hr5).mono ?_
          rintro e w6 ⟨rfl, rfl⟩
          go_wp2_with fail
          refine (done_rs rb none _ hr5).mono ?_
          rintro e w6 ⟨rfl, rfl⟩
          go_wp2_with fail
          refine (num_fail rb 9 _ hr5).mono ?_
          rintro e w6 ⟨rfl, hr6, hg6⟩
          have hb6 := hb5.grown hg6 hb5.size (by intro k hk; simp at hk; rw [← hk]; exact hrb)
          clear hr5 hb5 hg6
          go_wp2_with fail
          refine (text_fail rb 9 _ hr6).mono ?_
          rintro e w7 ⟨rfl, hr7, hg7⟩
          have hb7 := hb6.grown hg7 hb6.size (by intro k hk; simp at hk; rw [← hk]; exact hrb)
          clear hr6 hb6 hg7
          go_wp2_with fail
          refine (flag_fail rb _ hr7).mono ?_
          rintro e w8 ⟨rfl, hr8, hg8⟩
          have hb8 := hb7.grown hg8 hb7.size (by intro k hk; simp at hk; rw [← hk]; exact hrb)
          clear hr7 hb7 hg8
          go_wp2_with fail
          go_ret
          exact ⟨rfl, hb8⟩
        | some l' =>
          obtain ⟨e1, e2, e3⟩ := readF_some HQ.out
          obtain ⟨X, hX⟩ : ∃ X, X = ByteArray.mk (layE ⟨kindN z, n, ⟨m.toArray⟩⟩).toArray := ⟨_, rfl⟩
          have hXs : X.size = (layE ⟨kindN z, n, ⟨m.toArray⟩⟩).length := by rw [hX, size_mk]
          have hXd : X.data.toList = layE ⟨kindN z, n, ⟨m.toArray⟩⟩ := by rw [hX]
          rw [← hXd] at e1
          have hl := HL.out
          have hlen : t + X.size + l'.length = a0.size := by
            have h1 := congrArg List.length (e1.symm.trans hl)
            rw [List.length_append, List.length_drop, ← Lib.size_eq, ← Lib.size_eq] at h1
            omega
          have hsl : a0.extract t (t + X.size) = X := by
            apply ByteArray.ext
            apply Array.toList_inj.1
            rw [Lib.extract_data, ← hl, e1, Nat.add_sub_cancel_left, Lib.size_eq, List.take_left' rfl]
          have HL2 : Hid (l' = a0.data.toList.drop (t + X.size)) := by
            show l' = _
            rw [← List.drop_drop, ← hl, e1, Lib.size_eq, List.drop_left' rfl]
          have htx : t + X.size ≤ a0.size := by omega
          have hdd : decide ((a0.size : Int) - (t : Int) < (X.size : Int)) = false := by simp; omega
          have HX := Lib.hid hX
          have hmz : (ByteArray.mk m.toArray).size ≤ 65535 := by rw [size_mk]; omega
          have HLAY := Lib.hid (fun (W : World) (N : Nat) (hN : N = W.heap.size) => lay_one_at (kindN z) n ⟨m.toArray⟩ W N hN (by omega) hmz)
          rw [← hX] at HLAY
          clear hX hXs hXd hl hlen e1 HL hmz
          go_wp2_with fail
          refine (HRD.out _ hrr).mono ?_
          rintro e w4 ⟨rfl, hr4, hg4⟩
          have hb4 := hbw.grown hg4 hbw.size (by intro k hk; simp at hk; rw [← hk]; exact hrb)
          clear hrr hg4 hcell hbw HRD
          unfold partV
          go_wp2_with fail
          have hr5 : Rs (w4.alloc (.cells #[.int .i64 (kindN z), .int .i64 n, .string ⟨m.toArray⟩] 26)) rb (some l') := hr4.below ((Below.refl _ w4).alloc (Nat.le_refl _) _)
          refine (ok_rs rb (some l') _ hr5).mono ?_
          rintro e w6 ⟨rfl, rfl⟩
          have hb5 := hb4.alloc hb4.size (.cells #[.int .i64 (kindN z), .int .i64 n, .string ⟨m.toArray⟩] 26)
          go_wp2_with fail
          refine (HLAY.out _ _ (by simp)).mono ?_
          rintro e w6 ⟨rfl, hb6⟩
          have hr6 := hr5.below hb6
          have hb7 := hb5.trans (hb6.mono hb5.size)
          clear hr5 hb5 hb6
          go_wp2_with fail
          go_roundw
          case rel => exact ⟨k + 1, t + X.size, l', by omega, htx, by go_num, by go_num, HL2, hr6, hb7⟩
          case measure => simp [intOf]; omega
    · by_cases hz : t = a0.size
      · have hl : l = [] := by rw [HL.out, hz]; exact List.drop_eq_nil_of_le (by rw [← Lib.size_eq]; exact Nat.le_refl _)
        subst hl
        subst hz
        go_wp2_with (go_at_call 19; refine (done_rs rb (some []) _ hrr).mono ?_; rintro e w4 ⟨rfl, rfl⟩)
        go_ret
        exact ⟨rfl, hbw⟩
      · have hne : l ≠ [] := by
          intro e
          have h1 := congrArg List.length (HL.out.symm.trans e)
          rw [List.length_drop, ← Lib.size_eq] at h1
          simp at h1
          omega
        have hdn : doneF (some l) = 2 := by
          cases l with
          | nil => exact absurd rfl hne
          | cons c l => rfl
        have hti : ((t : Int) == (a0.size : Int)) = false := by rw [beq_eq_false_iff_ne]; omega
        clear hne
        go_wp2_with (go_at_call 19; refine (done_rs rb (some l) _ hrr).mono ?_; rintro e w4 ⟨rfl, rfl⟩)
        go_ret
        exact ⟨rfl, hbw⟩

theorem walk (a0 : ByteArray) (a1 : Option Addr) (len1 cap1 : Nat) (z1 : List Int) (w : World) (w0 : a0.size ≤ maxLen) (w1 : IsRow .i64 w a1 len1 cap1 z1) :
    Calls Try.prog 4 #[.string a0, .slice a1 len1 cap1] w fun e w' => e = .returned (.bool true) ∧ Below w.heap.size w w' := by
  by_cases hl : 200 < a0.size ∨ 20 < len1
  · refine walk_long a0 a1 len1 cap1 w w0 hl ?_
    rcases w1 with ⟨_, rfl, _, _⟩ | ⟨x, _, h1, h2, _⟩
    · unfold maxLen; omega
    · omega
  · by_cases hz : len1 = 0
    · exact walk_some a0 0 0 len1 cap1 [] w (by omega) (by omega) (by simp [hz]) (by omega) (by omega) a1 (by omega)
    · rcases w1 with ⟨_, h, _, _⟩ | ⟨x, rfl, h1, h2, h3, h4, h5⟩
      · exact absurd h hz
      · obtain ⟨b, off, rfl, hc⟩ := ints_at h4 (by omega)
        refine walk_some a0 b off len1 cap1 z1 w (by omega) (by omega) (by omega) (fun _ => ?_) (fun j hj => hc j (by omega)) _ (fun _ => rfl)
        exact World.block_lt_of_cell? w _ (hc 0 (by omega))

theorem own : ownKnob Try.prog.godebug = none := by kernel_rfl
theorem laidOut : laidOutB Try.prog = true := by kernel_rfl

set_option maxRecDepth 100000 in
theorem lifted (os : Os) (started : os.Started) (H : Type) (enc : TypeId × Value → H) :
    ReturnsInHanded {} Try.checked os 4 .any (Rows.pithReadsSpec.pre6 enc Try.prog Try.f4 Rows.pithReadsRow.domain false) (Rows.pithReadsSpec.post enc Try.prog Try.f4 false true false false) := by
  refine returnsInHanded_of_change (C := Try.checked) own started (by kernel_rfl) Try.func4
    (ChangeSpec.witness6 (enc := enc) (C := Try.checked) false ⟨#[], #[.string ByteArray.empty, .slice none 0 0], []⟩ 8 (by kernel_rfl) (by kernel_rfl) (by kernel_rfl) (by kernel_rfl)) ?_
  intro W base args ds gs before hval0 hW hcnd _
  have hval : ∀ (j : Nat) t v, Try.f4.params[j]? = some t → args[j]? = some v → Value.okWide Try.prog W .any base t v := hval0
  have hW' := hW
  obtain ⟨p, q, hA0, hV, rfl, hfz, hnd⟩ := hW
  have hA : DataW.TrodAll enc Try.prog W 0 (fun _ => true) true Try.f4.params.toList args.toList ds p := hA0
  rw [Try.params4] at hA hval
  obtain ⟨v0, vs0, d0, ds0, p0, q0, hargs, rfl, rfl, h0, r0⟩ := trodAll_cons hA
  obtain ⟨v1, vs1, d1, ds1, p1, q1, rfl, rfl, rfl, h1, r1⟩ := trodAll_cons r0
  obtain ⟨rfl, rfl, rfl⟩ := trodAll_nil r1
  obtain rfl : args = #[v0, v1] := by cases args; simp_all
  obtain ⟨rfl, rfl⟩ := trodVars_none hV
  obtain ⟨a0, rfl, rfl, rfl, w0⟩ := open_string Try.underlying9 (hval 0 9 v0 rfl rfl) h0
  obtain ⟨a1, len1, cap1, rfl⟩ := okWide_slice Try.underlying38 (hval 1 38 v1 rfl rfl)
  have k1 := h1
  have lt1 : ∀ x ∈ p1, x.block < W.heap.size := by obtain ⟨m, hm⟩ := k1; exact DataW.trod_lt m _ _ _ hm
  obtain ⟨z1, w1⟩ : ∃ zs, IsRow .i64 W a1 len1 cap1 zs := by
    obtain ⟨fuel, hf⟩ := h1
    rcases open_ints Try.underlying38 Try.underlying3 (by kernel_rfl) hf with ⟨hcs, _⟩ | ⟨x, l, c, zs, hcs, _, hl, hm, hz, _, hcell, hwz⟩
    · simp [Value.cells] at hcs
      obtain ⟨rfl, rfl, rfl⟩ := hcs
      exact ⟨[], .inl ⟨rfl, rfl, rfl, rfl⟩⟩
    · simp [Value.cells] at hcs
      obtain ⟨rfl, rfl, rfl⟩ := hcs
      exact ⟨zs, .inr ⟨_, rfl, hl, hm, by simpa using hz, hcell, hwz⟩⟩
  clear hA0 hval0
  refine (walk a0 a1 len1 cap1 z1 W w0 w1).mono fun e W' ⟨he, bel⟩ => ?_
  subst he
  exact ⟨_, rfl, _, _, _, [], _, [], hW', trodAll_mk1 (shut_bool Try.underlying4 _), (trodAll_cons_mk (shut_string Try.underlying9 w0) (trodAll_cons_mk (Below.trod laidOut (by kernel_rfl) (of_decide_eq_true (by kernel_rfl)) k1 bel lt1) trodAll_mk0)), rfl, bel.frame _, fun h => by cases h⟩

theorem over : Rows.pithReadsRow.holds Try.pinned (OpenSpec.ofChange Rows.pithReadsSpec) :=
  OpenClaim.holds_of_wide 4 Try.f4 rfl rfl rfl rfl rfl rfl rfl ⟨rfl, rfl, rfl, rfl, rfl⟩ rfl rfl rfl rfl rfl (by kernel_rfl) Try.func4 (by kernel_rfl)
    (of_decide_eq_true (by kernel_rfl)) (by unfold Func.isWrapper; first | (rw [if_pos (by decide +kernel)]; kernel_rfl) | (rw [if_neg (by decide +kernel)]; exact ⟨rfl, rfl⟩))
    (fun os started H enc _ => lifted os started H enc)

theorem proved : Rows.PithReadsSaid := over
end Go.Proofs.Ytefofhejaafgnaa.pithReads
