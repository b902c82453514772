/- DevActs: whatever is done, each answer and all blocks are as the model has them, whatever the size and the acts (at most 60, of at most 600 bytes): no condition on the input. -/
import Derived.Test.YtmfkbddfjfjfkaaTrio
import Derived.Laws.BitsLemmas
namespace Go.Proofs.Ytmfkbddfjfjfkaa.devActs
open Go.ChangeShapes Go.WideShapes Go.ChangeAt Go.RowKit
open Go.ChangeMaps (open_string shut_string)
set_option linter.unusedVariables false

theorem i64_and31 (n : Int) : bits .and .i64 n 31 = n % 32 := by
  have h127 : (BitVec.ofInt 64 31).toNat = 2 ^ 5 - 1 := by decide
  have key : (BitVec.ofInt 64 n &&& BitVec.ofInt 64 31).toNat = (n % ((2 ^ 64 : Nat) : Int)).toNat % 2 ^ 5 := by
    rw [BitVec.toNat_and, BitVec.toNat_ofInt, h127, Nat.and_two_pow_sub_one_eq_mod]
  show IntKind.i64.wrap ((BitVec.ofInt 64 n &&& BitVec.ofInt 64 31).toNat : Nat) = n % 32
  rw [key, IntKind.wrap_i64]
  omega
/-- A round's state: the device and the model behind so many acts. -/
def DD (n : Int) (qs : List Ac) (k : Nat) : Dv := (qs.take k).foldl (fun D a => (D.play a).2) (Dv.new n)
def MM (n : Int) (qs : List Ac) (k : Nat) : Md := (qs.take k).foldl (fun M a => (M.do a).2) (Md.new n)
theorem DD_succ (n : Int) (qs : List Ac) (k : Nat) (h : k < qs.length) : DD n qs (k + 1) = ((DD n qs k).play (qs.getD k ac0)).2 := by
  unfold DD
  rw [List.take_succ_eq_append_getElem h, List.foldl_append, List.getD_eq_getElem?_getD, List.getElem?_eq_getElem h]
  rfl
theorem MM_succ (n : Int) (qs : List Ac) (k : Nat) (h : k < qs.length) : MM n qs (k + 1) = ((MM n qs k).do (qs.getD k ac0)).2 := by
  unfold MM
  rw [List.take_succ_eq_append_getElem h, List.foldl_append, List.getD_eq_getElem?_getD, List.getElem?_eq_getElem h]
  rfl
theorem MM_since (n : Int) (qs : List Ac) : ∀ k, k ≤ qs.length → (MM n qs k).since.length ≤ k
  | 0, _ => by simp [MM, Md.new, Md.newN]
  | k + 1, h => by
    rw [MM_succ n qs k (by omega)]
    have := do_since (MM n qs k) (qs.getD k ac0)
    have := MM_since n qs k (by omega)
    omega

set_option maxRecDepth 100000 in
set_option maxHeartbeats 8000000 in
theorem walkA (a0 : Int) (a1 : Option Addr) (cap1 : Nat) (qs : List Ac) (w : World) (h1 : Acts w (.slice a1 qs.length cap1) qs) (hfew : fewB qs = true) :
    Calls Try.prog 3 #[.int .i64 a0, .slice a1 qs.length cap1] w fun e w' => e = .returned (.bool true) ∧ Below w.heap.size w w' := by
  have hand := i64_and31 a0
  obtain ⟨m, hm, hm2⟩ : ∃ m : Int, bits .and .i64 a0 31 - 2 = m ∧ -2 ≤ m ∧ m ≤ 29 := ⟨_, rfl, by rw [hand]; omega, by rw [hand]; omega⟩
  obtain ⟨b0, hb0⟩ : ∃ b0 : Int, bits .and .i64 a0 31 = b0 := ⟨_, rfl⟩
  have hb0r : b0 = m + 2 := by omega
  have hl60 : qs.length ≤ 60 := by
    unfold fewB at hfew
    rw [Bool.and_eq_true] at hfew
    exact of_decide_eq_true hfew.2
  have HA := Lib.hid h1
  have hfw := fun (W : World) (hW : Below w.heap.size w W) => few_any a1 cap1 qs W (h1.below hW)
  rw [hfew] at hfw
  have HFEW := Lib.hid hfw
  clear hand hm h1 hfew hfw
  subst hb0r
  go_enter Try.func3, Try.ntmps3
  go_wp2_with (first
    | (go_at_call 8; refine (head_any _).mono ?_; rintro e w1 ⟨rfl, hb1⟩)
    | (go_at_call 9; refine (HFEW.out _ hb1).mono ?_; rintro e w2 ⟨rfl, hb2⟩; have hB2 := hb1.trans (hb2.mono hb1.size)))
  clear hb0 hb1 hb2
  refine (new_any m w2).mono ?_
  rintro e w3 ⟨B, rfl, hd3, hb3⟩
  go_wp2_with fail
  refine (mnew_any m (by omega) w3).mono ?_
  rintro e w4 ⟨C, rfl, hm4, hb4⟩
  have hB4 := (hB2.trans (hb3.mono hB2.size)).trans (hb4.mono (hB2.trans (hb3.mono hB2.size)).size)
  have hduo : Duo w.heap.size w4 B (DD m qs 0) C (MM m qs 0) := duo_new hB2.size hd3 hb4 hm4 hb3.size
  have hag : Agree (DD m qs 0) (MM m qs 0) := agree_new m
  clear hd3 hb3 hm4 hb4 hB2
  go_wp2_with fail
  go_loopw [23] (fun i wr => ∃ k : Nat, k ≤ qs.length ∧ i = .int .i64 k ∧ Duo w.heap.size wr B (DD m qs k) C (MM m qs k) ∧ Agree (DD m qs k) (MM m qs k) ∧ Below w.heap.size w wr) (fun i _ => qs.length - (intOf i).toNat)
  case atStart => exact ⟨0, Nat.zero_le _, rfl, hduo, hag, hB4⟩
  case round =>
    obtain ⟨k, hk, rfl, hD, hG, hB⟩ := hrel
    clear hduo hag hB4
    by_cases hlt : k < qs.length
    · obtain ⟨hok, g, off, rfl, h0, h1, h2, h3, h4⟩ := act_at HA.out hB hlt
      have hpl := agree_play hG hD.fitsM (qs.getD k ac0)
      have hms := MM_since m qs k hk
      have hms1 := MM_since m qs (k + 1) (by omega)
      have HDS := Lib.hid (DD_succ m qs k hlt)
      have HMS := Lib.hid (MM_succ m qs k hlt)
      rw [HMS.out] at hms1
      have hwr := hG.writes
      generalize DD m qs k = D at *
      generalize MM m qs k = M at *
      generalize qs.getD k ac0 = a at *
      have hT := hD.trio a
      have hb0 : Below wr.heap.size wr (wr.alloc (.cells #[.int .i64 a.k, .int .i64 a.block, .int .i64 a.n, .string a.data, .int .u8 a.bits] 30)) := (Below.refl _ _).alloc (Nat.le_refl _) _
      have hsz : w.heap.size ≤ (wr.alloc (.cells #[.int .i64 a.k, .int .i64 a.block, .int .i64 a.n, .string a.data, .int .u8 a.bits] 30)).heap.size := Nat.le_trans hB.size hb0.size
      have HB0 := Lib.hid (hB.trans (hb0.mono hB.size))
      have hwd : D.writes ≤ 1073741824 := by omega
      have hwm : M.since.length < 1073741824 := by omega
      have HPL := Lib.hid (fun (x : World) (M' : Md) (hn : w.heap.size ≤ x.heap.size) (h : Trio w.heap.size x B D C M' wr.heap.size a) => by have := h.play hn a hok hwd; rwa [hpl.1] at this)
      have HDO := Lib.hid (fun (x : World) (D' : Dv) (hn : w.heap.size ≤ x.heap.size) (h : Trio w.heap.size x B D' C M wr.heap.size a) => h.do hn a hok hwm)
      have HSM := Lib.hid (fun (x : World) (h : Trio w.heap.size x B (D.play a).2 C (M.do a).2 wr.heap.size a) => h.duo.same hpl.2 (by rw [hpl.2.writes]; omega))
      have HAG := Lib.hid hpl.2
      clear hpl hG hD hwd hwm hok hms hms1 hwr
      generalize (D.play a).2 = D1 at *
      generalize M.do a = r1 at *
      obtain ⟨r, M1⟩ := r1
      simp only at HPL HDO HSM HAG HMS
      go_wp2_with fail
      generalize wr.alloc (.cells #[.int .i64 a.k, .int .i64 a.block, .int .i64 a.n, .string a.data, .int .u8 a.bits] 30) = w5 at *
      have hT' : Trio w.heap.size w5.drew B D C M wr.heap.size a := hT.below (below_drewN w5 1)
      have hsz' : w.heap.size ≤ w5.drew.heap.size := hsz
      obtain ⟨y0, y1, y2, y3, y4⟩ := hT.box
      clear h0 h1 h2 h3 h4 hb0 hT
      go_region_with (first
        | (go_at_call 14; refine (HSM.out _ hTT).mono ?_; rintro e w8 ⟨rfl, hb8⟩; have hTZ := hTT.below hb8; have hBZ := hBB.trans (hb8.mono hSS))
        | (go_at_call 12; first
            | ((with_reducible refine (HPL.out _ _ hSd hTd).mono ?_); rintro e w7 ⟨rfl, hTT, hb7⟩; have hBB := hBd.trans hb7; have hSS := Nat.le_trans hSd hb7.size)
            | ((with_reducible refine (HPL.out _ _ hsz' hT').mono ?_); rintro e w6 ⟨rfl, hTp, hb6⟩; obtain ⟨z0, z1, z2, z3, z4⟩ := hTp.box; have hBp := (Below.refl w.heap.size w5).drew.trans hb6; have hSp := Nat.le_trans hsz' hb6.size))
        | (go_at_call 13; first
            | ((with_reducible refine (HDO.out _ _ hSp hTp).mono ?_); rintro e w7 ⟨rfl, hTT, hb7⟩; have hBB := hBp.trans hb7; have hSS := Nat.le_trans hSp hb7.size)
            | ((with_reducible refine (HDO.out _ _ hsz' hT').mono ?_); rintro e w6 ⟨rfl, hTd, hb6⟩; obtain ⟨z0, z1, z2, z3, z4⟩ := hTd.box; have hBd := (Below.refl w.heap.size w5).drew.trans hb6; have hSd := Nat.le_trans hsz' hb6.size)))
      all_goals
        go_wp2_with fail
        go_roundw
        case rel => exact ⟨k + 1, by omega, by go_num, by rw [HDS.out, HMS.out]; exact hTZ.duo, by rw [HDS.out, HMS.out]; exact HAG.out, HB0.out.trans hBZ⟩
        case measure => simp [intOf]; omega
    · clear hD hG
      have hnn := fun (W : World) => new_any 5000 W
      go_wp2_with (first
        | (go_at_call 10; refine (new_any 5000 _).mono ?_; rintro e w5 ⟨B5, rfl, hd5, hb5⟩)
        | (go_at_call 15; refine (size_any hd5).mono ?_; rintro e w6 ⟨rfl, rfl⟩))
      go_ret
      exact ⟨rfl, hB.trans (hb5.mono hB.size)⟩

set_option maxRecDepth 100000 in
set_option maxHeartbeats 1000000 in
theorem walk (a0 : Int) (v1 : Value) (qs : List Ac) (w : World) (_ : (Lit.int .i64 a0).wf = true) (h1 : Acts w v1 qs) :
    Calls Try.prog 3 #[.int .i64 a0, v1] w fun e w' => e = .returned (.bool true) ∧ Below w.heap.size w w' := by
  obtain ⟨a1, cap1, e1, hm1, q1, _⟩ := id h1
  subst e1
  clear q1
  by_cases hfew : fewB qs = true
  · exact walkA a0 a1 cap1 qs w h1 hfew
  · have hfew' : fewB qs = false := by simpa using hfew
    have hfw := fun (W : World) (hW : Below w.heap.size w W) => few_any a1 cap1 qs W (h1.below hW)
    rw [hfew'] at hfw
    have HFEW := Lib.hid hfw
    clear h1 hfew hfew' hfw
    go_enter Try.func3, Try.ntmps3
    go_wp2_with (first
      | (go_at_call 8; refine (head_any _).mono ?_; rintro e w1 ⟨rfl, hb1⟩)
      | (go_at_call 9; refine (HFEW.out _ hb1).mono ?_; rintro e w2 ⟨rfl, hb2⟩))
    go_ret
    exact ⟨rfl, hb1.trans (hb2.mono hb1.size)⟩

theorem own : ownKnob Try.prog.godebug = none := by kernel_rfl
theorem laidOut : laidOutB Try.prog = true := by kernel_rfl

set_option maxRecDepth 100000 in
theorem lifted (os : Os) (started : os.Started) (H : Type) (enc : TypeId × Value → H) :
    ReturnsInHanded {} Try.checked os 3 .any (Rows.devActsSpec.pre6 enc Try.prog Try.f3 Rows.devActsRow.domain false) (Rows.devActsSpec.post enc Try.prog Try.f3 false true false false) := by
  refine returnsInHanded_of_change (C := Try.checked) own started (by kernel_rfl) Try.func3
    (ChangeSpec.witness6 (enc := enc) (C := Try.checked) false ⟨#[], #[.int .i64 0, .slice none 0 0], []⟩ 8 (by kernel_rfl) (by kernel_rfl) (by kernel_rfl) (by kernel_rfl)) ?_
  intro W base args ds gs before hval0 hW hcnd _
  have hval : ∀ (j : Nat) t v, Try.f3.params[j]? = some t → args[j]? = some v → Value.okWide Try.prog W .any base t v := hval0
  have hW' := hW
  obtain ⟨p, q, hA0, hV, rfl, hfz, hnd⟩ := hW
  have hA : DataW.TrodAll enc Try.prog W 0 (fun _ => true) true Try.f3.params.toList args.toList ds p := hA0
  rw [Try.params3] at hA hval
  obtain ⟨v0, vs0, d0, ds0, p0, q0, hargs, rfl, rfl, h0, r0⟩ := trodAll_cons hA
  obtain ⟨v1, vs1, d1, ds1, p1, q1, rfl, rfl, rfl, h1, r1⟩ := trodAll_cons r0
  obtain ⟨rfl, rfl, rfl⟩ := trodAll_nil r1
  obtain rfl : args = #[v0, v1] := by cases args; simp_all
  obtain ⟨rfl, rfl⟩ := trodVars_none hV
  obtain ⟨a0, rfl, rfl, rfl, w0⟩ := open_int Try.underlying3 (hval 0 3 v0 rfl rfl) h0
  have k1 := h1
  have lt1 : ∀ x ∈ p1, x.block < W.heap.size := by obtain ⟨m, hm⟩ := k1; exact DataW.trod_lt m _ _ _ hm
  obtain ⟨z1, w1⟩ := acts_of (hval 1 22 v1 rfl rfl) h1
  clear hA0 hval0
  refine (walk a0 v1 z1 W w0 w1).mono fun e W' ⟨he, bel⟩ => ?_
  subst he
  exact ⟨_, rfl, _, _, _, [], _, [], hW', trodAll_mk1 (shut_bool Try.underlying4 _), (trodAll_cons_mk (shut_int Try.underlying3 w0) (trodAll_cons_mk (Below.trod laidOut (by kernel_rfl) (of_decide_eq_true (by kernel_rfl)) k1 bel lt1) trodAll_mk0)), rfl, bel.frame _, fun h => by cases h⟩

theorem over : Rows.devActsRow.holds Try.pinned (OpenSpec.ofChange Rows.devActsSpec) :=
  OpenClaim.holds_of_wide 3 Try.f3 rfl rfl rfl rfl rfl rfl rfl ⟨rfl, rfl, rfl, rfl, rfl⟩ rfl rfl rfl rfl rfl (by kernel_rfl) Try.func3 (by kernel_rfl)
    (of_decide_eq_true (by kernel_rfl)) (by unfold Func.isWrapper; first | (rw [if_pos (by decide +kernel)]; kernel_rfl) | (rw [if_neg (by decide +kernel)]; exact ⟨rfl, rfl⟩))
    (fun os started H enc _ => lifted os started H enc)

theorem proved : Rows.DevActsSaid := over
end Go.Proofs.Ytmfkbddfjfjfkaa.devActs
