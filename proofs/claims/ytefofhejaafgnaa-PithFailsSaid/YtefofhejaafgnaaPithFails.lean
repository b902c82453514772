/- PithFails: after Fail a reader reads nothing any more, whatever the text (of at most 300 bytes) and the kinds of what is read (at most 20); no condition on the input. -/
import Derived.Test.YtefofhejaafgnaaLaw1a
import Derived.ProofKit
import Derived.OpenShut
import Derived.ShutString
import Derived.ChangeOld
namespace Go.Proofs.Ytefofhejaafgnaa.pithFails
open Go.ChangeShapes Go.WideShapes Go.ChangeAt Go.RowKit
open Go.ChangeMaps (open_string shut_string)
set_option linter.unusedVariables false

/-- The slice of integers that came in. -/
def IsRow (k : IntKind) (w : World) (a : Option Addr) (len cap : Nat) (zs : List Int) : Prop :=
  (a = none ∧ len = 0 ∧ cap = 0 ∧ zs = []) ∨
  ∃ x, a = some x ∧ len ≤ cap ∧ cap ≤ maxLen ∧ zs.length = cap ∧ (∀ i, i < zs.length → w.cell? (x.add i) = some (.int k (zs.getD i 0))) ∧ ∀ n ∈ zs, (Lit.int k n).wf = true

theorem none_part (k : Int) : readF (kindN k) none = ((0, []), none) := readF_none _

set_option maxHeartbeats 1000000 in
theorem walk_long (a0 : ByteArray) (a1 : Option Addr) (len1 cap1 : Nat) (w : World) (w0 : a0.size ≤ maxLen) (hl : 300 < a0.size ∨ 20 < len1) (hcap : len1 ≤ maxLen) :
    Calls Try.prog 9 #[.string a0, .slice a1 len1 cap1] w fun e w' => e = .returned (.bool true) ∧ Below w.heap.size w w' := by
  unfold maxLen at w0 hcap
  by_cases h1 : 300 < a0.size
  · have hd : decide ((300 : Int) < (a0.size : Int)) = true := by simp; omega
    clear hl
    go_enter Try.func9, Try.ntmps9
    go_wp2_with (go_at_call 10; refine (head_any _).mono ?_; rintro e w1 ⟨rfl, hb⟩)
    go_ret
    exact ⟨rfl, hb⟩
  · have hd : decide ((300 : Int) < (a0.size : Int)) = false := by simp; omega
    have hd2 : decide ((20 : Int) < (len1 : Int)) = true := by simp; omega
    clear hl
    go_enter Try.func9, Try.ntmps9
    go_wp2_with (go_at_call 10; refine (head_any _).mono ?_; rintro e w1 ⟨rfl, hb⟩)
    go_ret
    exact ⟨rfl, hb⟩

set_option maxHeartbeats 1000000 in
theorem walk_some (a0 : ByteArray) (b off len1 cap1 : Nat) (zs : List Int) (w : World) (h0 : a0.size ≤ 300) (h1 : len1 ≤ 20) (hzl : len1 ≤ zs.length) (hbw : 0 < len1 → b < w.heap.size)
    (hc : ∀ j, j < len1 → w.cell? ⟨b, off + j, none⟩ = some (.int .i64 (zs.getD j 0))) (a1 : Option Addr) (ha1 : 0 < len1 → a1 = some ⟨b, off, none⟩) :
    Calls Try.prog 9 #[.string a0, .slice a1 len1 cap1] w fun e w' => e = .returned (.bool true) ∧ Below w.heap.size w w' := by
  have hd : decide ((300 : Int) < (a0.size : Int)) = false := by simp; omega
  have hd2 : decide ((20 : Int) < (len1 : Int)) = false := by simp; omega
  have HC := Lib.hid hc
  have HA := Lib.hid ha1
  have HB := Lib.hid hbw
  clear hc ha1 hbw
  go_enter Try.func9, Try.ntmps9
  go_wp2_with (go_at_call 10; refine (head_any _).mono ?_; rintro e w1 ⟨rfl, hb1⟩)
  refine (read_any a0 _).mono ?_
  rintro e w2 ⟨rfl, hr2, hb2, hs2⟩
  have hr : Rs w2 w1.heap.size (some a0.data.toList) := ⟨by simpa using hr2, by rw [← Lib.size_eq]; omega⟩
  clear hr2
  go_wp2_with fail
  refine (fail_rs _ _ _ hr).mono ?_
  rintro e w3 ⟨rfl, hr3, hg3⟩
  have hbel : Below w.heap.size w w3 := (hb1.trans (hb2.mono hb1.size)).grown hg3 (Nat.le_trans hb1.size hb2.size) (by intro k hk; simp at hk; rw [← hk]; exact hb1.size)
  have hrb := hb1.size
  generalize w1.heap.size = rb at *
  clear hr hb1 hb2 hs2 hg3
  go_wp2_with fail
  go_loopw [24] (fun i wr => ∃ k : Nat, k ≤ len1 ∧ i = .int .i64 k ∧ Rs wr rb none ∧ Below w.heap.size w wr) (fun i _ => len1 - (intOf i).toNat)
  case atStart => exact ⟨0, Nat.zero_le _, rfl, hr3, hbel⟩
  case round =>
    obtain ⟨k, hk, rfl, hrr, hbw⟩ := hrel
    clear hr3 hbel
    by_cases hlt : k < len1
    · have hcell : wr.cell? ⟨b, off + k, none⟩ = some (.int .i64 (zs.getD k 0)) := (hbw.cell (p := ⟨b, off + k, none⟩) (HB.out (by omega))).trans (HC.out k hlt)
      have ha := HA.out (by omega)
      subst ha
      generalize zs.getD k 0 = z at *
      have hrd : ∀ W : World, Rs W rb none → Calls Try.prog 17 #[.pointer (some ⟨rb, 0, none⟩), .agg #[.int .i64 z, .int .i64 0, .string ⟨#[]⟩]] W fun e w' =>
          e = .returned (.agg #[.int .i64 (kindN z), .int .i64 0, .string ⟨#[]⟩]) ∧ Rs w' rb none ∧ W.grownBy w' (some rb) := fun W hW => by
        have := read_rs rb none z 0 ⟨#[]⟩ W hW
        rw [readF_none] at this
        exact this
      have HRD := Lib.hid hrd
      clear hrd
      have hkf := kind_form z
      go_wp2_with fail
      refine (HRD.out _ hrr).mono ?_
      rintro e w4 ⟨rfl, hr4, hg4⟩
      have hb4 := hbw.grown hg4 hbw.size (by intro k hk; simp at hk; rw [← hk]; exact hrb)
      clear hrr hg4 hcell
      go_wp2_with fail
      go_roundw
      case rel => exact ⟨k + 1, by omega, by go_num, hr4, hb4⟩
      case measure => simp [intOf]; omega
    · go_wp2_with (first
        | (go_at_call 18; refine (ok_rs rb none _ hrr).mono ?_; rintro e w4 ⟨rfl, rfl⟩)
        | (go_at_call 19; refine (done_rs rb none _ hrr).mono ?_; rintro e w4 ⟨rfl, rfl⟩))
      go_ret
      exact ⟨rfl, hbw⟩

theorem walk (a0 : ByteArray) (a1 : Option Addr) (len1 cap1 : Nat) (z1 : List Int) (w : World) (w0 : a0.size ≤ maxLen) (w1 : IsRow .i64 w a1 len1 cap1 z1) :
    Calls Try.prog 9 #[.string a0, .slice a1 len1 cap1] w fun e w' => e = .returned (.bool true) ∧ Below w.heap.size w w' := by
  by_cases hl : 300 < a0.size ∨ 20 < len1
  · refine walk_long a0 a1 len1 cap1 w w0 hl ?_
    rcases w1 with ⟨_, rfl, _, _⟩ | ⟨x, _, h1, h2, _⟩
    · unfold maxLen; omega
    · omega
  · by_cases hz : len1 = 0
    · exact walk_some a0 0 0 len1 cap1 [] w (by omega) (by omega) (by simp [hz]) (by omega) (by omega) a1 (by omega)
    · rcases w1 with ⟨_, h, _, _⟩ | ⟨x, rfl, h1, h2, h3, h4, h5⟩
      · exact absurd h hz
      · obtain ⟨b, off, rfl, hc⟩ := ints_at h4 (by omega)
        refine walk_some a0 b off len1 cap1 z1 w (by omega) (by omega) (by omega) (fun _ => ?_) (fun j hj => hc j (by omega)) _ (fun _ => rfl)
        exact World.block_lt_of_cell? w _ (hc 0 (by omega))
theorem own : ownKnob Try.prog.godebug = none := by kernel_rfl
theorem laidOut : laidOutB Try.prog = true := by kernel_rfl

set_option maxRecDepth 100000 in
theorem lifted (os : Os) (started : os.Started) (H : Type) (enc : TypeId × Value → H) :
    ReturnsInHanded {} Try.checked os 9 .any (Rows.pithFailsSpec.pre6 enc Try.prog Try.f9 Rows.pithFailsRow.domain false) (Rows.pithFailsSpec.post enc Try.prog Try.f9 false true false false) := by
  refine returnsInHanded_of_change (C := Try.checked) own started (by kernel_rfl) Try.func9
    (ChangeSpec.witness6 (enc := enc) (C := Try.checked) false ⟨#[], #[.string ByteArray.empty, .slice none 0 0], []⟩ 8 (by kernel_rfl) (by kernel_rfl) (by kernel_rfl) (by kernel_rfl)) ?_
  intro W base args ds gs before hval0 hW hcnd _
  have hval : ∀ (j : Nat) t v, Try.f9.params[j]? = some t → args[j]? = some v → Value.okWide Try.prog W .any base t v := hval0
  have hW' := hW
  obtain ⟨p, q, hA0, hV, rfl, hfz, hnd⟩ := hW
  have hA : DataW.TrodAll enc Try.prog W 0 (fun _ => true) true Try.f9.params.toList args.toList ds p := hA0
  rw [Try.params9] at hA hval
  obtain ⟨v0, vs0, d0, ds0, p0, q0, hargs, rfl, rfl, h0, r0⟩ := trodAll_cons hA
  obtain ⟨v1, vs1, d1, ds1, p1, q1, rfl, rfl, rfl, h1, r1⟩ := trodAll_cons r0
  obtain ⟨rfl, rfl, rfl⟩ := trodAll_nil r1
  obtain rfl : args = #[v0, v1] := by cases args; simp_all
  obtain ⟨rfl, rfl⟩ := trodVars_none hV
  obtain ⟨a0, rfl, rfl, rfl, w0⟩ := open_string Try.underlying9 (hval 0 9 v0 rfl rfl) h0
  obtain ⟨a1, len1, cap1, rfl⟩ := okWide_slice Try.underlying38 (hval 1 38 v1 rfl rfl)
  have k1 := h1
  have lt1 : ∀ x ∈ p1, x.block < W.heap.size := by obtain ⟨m, hm⟩ := k1; exact DataW.trod_lt m _ _ _ hm
  obtain ⟨z1, w1⟩ : ∃ zs, IsRow .i64 W a1 len1 cap1 zs := by
    obtain ⟨fuel, hf⟩ := h1
    rcases open_ints Try.underlying38 Try.underlying3 (by kernel_rfl) hf with ⟨hcs, _⟩ | ⟨x, l, c, zs, hcs, _, hl, hm, hz, _, hcell, hwz⟩
    · simp [Value.cells] at hcs
      obtain ⟨rfl, rfl, rfl⟩ := hcs
      exact ⟨[], .inl ⟨rfl, rfl, rfl, rfl⟩⟩
    · simp [Value.cells] at hcs
      obtain ⟨rfl, rfl, rfl⟩ := hcs
      exact ⟨zs, .inr ⟨_, rfl, hl, hm, by simpa using hz, hcell, hwz⟩⟩
  clear hA0 hval0
  refine (walk a0 a1 len1 cap1 z1 W w0 w1).mono fun e W' ⟨he, bel⟩ => ?_
  subst he
  exact ⟨_, rfl, _, _, _, [], _, [], hW', trodAll_mk1 (shut_bool Try.underlying4 _), (trodAll_cons_mk (shut_string Try.underlying9 w0) (trodAll_cons_mk (Below.trod laidOut (by kernel_rfl) (of_decide_eq_true (by kernel_rfl)) k1 bel lt1) trodAll_mk0)), rfl, bel.frame _, fun h => by cases h⟩

theorem over : Rows.pithFailsRow.holds Try.pinned (OpenSpec.ofChange Rows.pithFailsSpec) :=
  OpenClaim.holds_of_wide 9 Try.f9 rfl rfl rfl rfl rfl rfl rfl ⟨rfl, rfl, rfl, rfl, rfl⟩ rfl rfl rfl rfl rfl (by kernel_rfl) Try.func9 (by kernel_rfl)
    (of_decide_eq_true (by kernel_rfl)) (by unfold Func.isWrapper; first | (rw [if_pos (by decide +kernel)]; kernel_rfl) | (rw [if_neg (by decide +kernel)]; exact ⟨rfl, rfl⟩))
    (fun os started H enc _ => lifted os started H enc)

theorem proved : Rows.PithFailsSaid := over
end Go.Proofs.Ytefofhejaafgnaa.pithFails
