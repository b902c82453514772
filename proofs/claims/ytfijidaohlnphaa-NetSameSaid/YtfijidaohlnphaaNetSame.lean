/- NetSame: messages come as they were sent. No condition on the input. -/
import Derived.Test.YtfijidaohlnphaaNMsgs
import Derived.Test.YtfijidaohlnphaaRows
import Derived.ProofKit
import Derived.OpenShut
import Derived.ShutString
import Derived.ChangeOld
import Derived.Deep.DeepHandedRow
import Derived.Lib.LaidTab
import Derived.Stop.LaidErr
import Derived.Lay
namespace Go.Proofs.Ytfijidaohlnphaa.netSame
open Go.ChangeShapes Go.WideShapes Go.ChangeAt Go.RowKit
open Go.ChangeMaps (open_string shut_string)
set_option linter.unusedVariables false
set_option maxRecDepth 100000
/-- What Send has put in transit. -/
theorem same_sent {X : List Fl} {Ms : List Mi} {n : Nat} (hS : Sent X Ms (0 + min (max 0 0) 1048576) 0) (hn : X.length = n) : ∀ j (hj : j < X.length), X[j].due = 0 ∧ X[j].m = (Ms.getD j Mi.zero).m ∧ X[j].un = (Ms.getD j Mi.zero).un := by
  intro j hj
  have h1 := hS j hj
  rw [show X.getD j Fl.zero = X[j] by simp [List.getD_eq_getElem?_getD, hj]] at h1
  exact ⟨h1.due, h1.m, h1.un⟩
theorem drop_cons {X : List Fl} {i : Nat} (hi : i < X.length) : X.drop i = [] ++ X[i] :: X.drop (i + 1) := by simp
set_option maxHeartbeats 16000000 in
theorem walk (v : Value) (Ms : List Mi) (W : World) (hz : MsR (fun b => b < W.heap.size) W v Ms) : Calls Try.prog 6 #[v] W fun e w' => e = .returned (.bool true) ∧ Below W.heap.size W w' := by
  have HH := Lib.hid (head_any W)
  obtain ⟨a, cc, rfl⟩ := hz.fm
  have HZ := Lib.hid hz
  obtain ⟨n, hn⟩ : ∃ n, n = Ms.length := ⟨_, rfl⟩
  rw [← hn] at HZ ⊢
  have HNM := Lib.hid hn
  clear hz hn
  go_enter Try.func6, Try.ntmps6
  go_wp2_with fail
  refine HH.out.mono ?_
  rintro e w1 ⟨rfl, b1⟩
  by_cases hbig : 20 < n
  · have q1 : decide ((20 : Int) < (n : Int)) = true := by simp; omega
    have HB1 := Lib.hid b1
    clear HH b1 hbig
    go_wp2_with fail
    go_ret
    exact ⟨rfl, HB1.out⟩
  · have q1 : decide ((20 : Int) < (n : Int)) = false := by simp; omega
    have HL : Hid (n ≤ 20) := Lib.hid (by omega)
    have N1 := NetX.new (base := w1.heap.size) (heap_alloc_new w1 (.cells #[.int .i64 0, .int .i64 0, .slice none 0 0] 28)) (Nat.le_refl _)
    have bA := (Below.refl w1.heap.size w1).alloc (Nat.le_refl _) (.cells #[.int .i64 0, .int .i64 0, .slice none 0 0] 28)
    obtain ⟨w2, hw2⟩ : ∃ w2, w2 = w1.alloc (.cells #[.int .i64 0, .int .i64 0, .slice none 0 0] 28) := ⟨_, rfl⟩
    rw [← hw2] at N1 bA
    have hb2 := b1.trans (bA.mono b1.size)
    have HW2 := Lib.hid hw2
    have HB2 := Lib.hid hb2
    have HS1 := Lib.hid b1.size
    have HSD := Lib.hid (N1.send 0 (HZ.out.keep (w' := w2) (fun b hb => hb2.block b hb)) (fun b hb => .inl (Nat.lt_of_lt_of_le hb b1.size)) (by decide) (by have := HNM.out; have := HL.out; omega))
    clear N1 bA b1 HH hbig hw2 hb2
    go_wp2_with fail
    rw [← HW2.out]
    refine HSD.out.mono ?_
    rintro e w3 ⟨rfl, X, hX, hS, N3, b3, k3⟩
    rw [List.nil_append] at N3
    have hXn : X.length = n := by rw [hX, ← HNM.out]; have := HL.out; simp; omega
    have HXN := Lib.hid hXn
    have HXS := Lib.hid (same_sent hS hXn)
    have HB3 := Lib.hid (HB2.out.trans (b3.mono HS1.out))
    have HN3 := Lib.hid N3
    clear HSD HB2 HW2 hX hS N3 b3 k3 hXn
    obtain ⟨nb, hnb⟩ : ∃ nb, nb = w1.heap.size := ⟨_, rfl⟩
    rw [← hnb] at HN3 HS1 ⊢
    have HNB := Lib.hid hnb
    clear hnb
    go_wp2_with fail
    go_loopw [20] (fun iv wr => ∃ i : Nat, iv = .int .i64 i ∧ i ≤ n ∧ Hid (NetX wr nb nb 0 (0 + X.length) (X.drop i)) ∧ Hid (Below W.heap.size W wr)) (fun iv _ => n - (intOf iv).toNat)
    case atStart => exact ⟨0, rfl, Nat.zero_le _, HN3, HB3⟩
    case round =>
      obtain ⟨i, rfl, hin, HN, HB⟩ := hrel
      clear HN3 HB3
      by_cases hlt : i < n
      · have hlt2 : decide ((i : Int) < (n : Int)) = true := by simp; omega
        have hiX : i < X.length := by have := HXN.out; omega
        obtain ⟨f, hf⟩ : ∃ f, f = X[i] := ⟨_, rfl⟩
        obtain ⟨g, o, hix, hmi⟩ := (HZ.out.keep (w' := wr) (fun b hb => HB.out.block b hb)).at_ i (by have := HNM.out; omega)
        obtain ⟨x, hx⟩ : ∃ x, x = Ms.getD i Mi.zero := ⟨_, rfl⟩
        have hfx := HXS.out i hiX
        rw [← hf, ← hx] at hfx
        rw [← hx] at hmi
        have hldx := hmi.ld wr rfl
        unfold mgV Mi.u Mi.v at hldx
        have HLD := Lib.hid hldx
        obtain ⟨W4, hst4, N4, M4, b4, s4⟩ := got_new HN.out x.un x.uc x.vn x.vc x.ua x.va x.m
        have HB4 := Lib.hid (HB.out.trans (b4.mono HB.out.size))
        rw [drop_cons hiX, ← hf] at N4
        have HNX := Lib.hid (NetX.next N4 (by rw [hfx.1]; decide) (fun g hg => by cases hg) (fun g hg => by
          obtain ⟨q, hq, rfl⟩ := List.getElem_of_mem hg
          rw [List.getElem_drop, hfx.1, (HXS.out _ (by rw [List.length_drop] at hq; omega)).1]; decide))
        have HM4 := Lib.hid M4
        have HFM := Lib.hid hfx.2.1
        have HFU := Lib.hid hfx.2.2
        unfold mgV at hst4
        have HST4 := Lib.hid hst4
        clear hf hmi hx hfx hldx hst4 N4 M4 b4 s4 hiX HN
        go_wp2_with (first | (refine wpList_store_run HST4.out rfl rfl rfl rfl ?_) | (refine wpList_load_run HLD.out rfl rfl rfl ?_))
        refine HNX.out.mono ?_
        rintro e w5 ⟨rfl, N5, b5, k5⟩
        obtain ⟨W6, hst6, N6, M6, b6, s6⟩ := got_new N5 f.un f.uc f.vn f.vc f.ua f.va f.m
        have HB5 := Lib.hid (HB4.out.trans (b5.mono HS1.out))
        have HB6 := Lib.hid (HB5.out.trans (b6.mono HB5.out.size))
        have HN6 := Lib.hid N6
        have M46 := (HM4.out.keepT k5).below b6
        rw [HFM.out, HFU.out] at M6
        obtain ⟨p0, p1, p2, p3, p4, _, _, _, p8, _, _, _, _, _, _, _, p16⟩ := M46.cells.1
        obtain ⟨r0, r1, r2, r3, r4, _, _, _, r8, _, _, _, _, _, _, _, r16⟩ := M6.cells.1
        unfold mgV at hst6
        have HST6 := Lib.hid hst6
        have e7 : wrap64 ((i : Int) + 1) = (i : Int) + 1 := IntWalk.wrap64_in _ (by have := HL.out; omega)
        clear HNX HST4 HLD hix N5 b5 k5 hst6 N6 M6 b6 s6 M46 HM4 HFM HFU
        unfold mgV Fl.u Fl.v
        go_wp2_with (first | (refine wpList_store_run HST6.out rfl rfl rfl rfl ?_))
        go_roundw
        case rel => exact ⟨i + 1, by rw [e7]; rfl, hlt, HN6, HB6⟩
        case measure =>
          show n - (intOf (.int .i64 (wrap64 ((i : Int) + 1)))).toNat < n - (intOf (.int .i64 (i : Int))).toNat
          rw [e7]
          simp [intOf]; omega
      · have hlt2 : decide ((i : Int) < (n : Int)) = false := by simp; omega
        have hn := HN.out
        rw [List.drop_of_length_le (by have := HXN.out; omega)] at hn
        have HLN := Lib.hid hn.nlen
        clear hn HN
        go_wp2_with fail
        refine HLN.out.mono ?_
        rintro e w4 ⟨rfl, rfl⟩
        clear HLN
        go_wp2_with fail
        go_ret
        exact ⟨rfl, HB.out⟩

theorem own : ownKnob Try.prog.godebug = none := by kernel_rfl
theorem laidOut : laidOutB Try.prog = true := by kernel_rfl

set_option maxRecDepth 100000 in
theorem lifted (os : Os) (started : os.Started) (H : Type) (enc : TypeId × Value → H) :
    ReturnsInHanded {} Try.checked os 6 .any (Rows.netSameSpec.pre6 enc Try.prog Try.f6 Rows.netSameRow.domain false) (Rows.netSameSpec.post enc Try.prog Try.f6 false true false false) := by
  refine returnsInHanded_of_change_sized (C := Try.checked) own started (by kernel_rfl) Try.func6
    (ChangeSpec.witness6 (enc := enc) (C := Try.checked) false ⟨#[], #[.slice none 0 0], []⟩ 8 (by kernel_rfl) (by kernel_rfl) (by kernel_rfl) (by kernel_rfl)) ?_
  intro W base args ds gs before hval0 hW hcnd hsz0 _
  have hsz : (DataW.weightsEach Try.prog (Try.f6.params.toList ++ Rows.netSameSpec.plain.varTypes Try.prog) (ds ++ gs)).all (· ≤ reachBytes) = true := hsz0
  clear hsz0
  have hval : ∀ (j : Nat) t v, Try.f6.params[j]? = some t → args[j]? = some v → Value.okWide Try.prog W .any base t v := hval0
  have hW' := hW
  obtain ⟨p, q, hA0, hV, rfl, hfz, hnd⟩ := hW
  have hA : DataW.TrodAll enc Try.prog W 0 (fun _ => true) true Try.f6.params.toList args.toList ds p := hA0
  rw [Try.params6] at hA hval hsz
  obtain ⟨v0, vs0, d0, ds0, p0, q0, hargs, rfl, rfl, h0, r0⟩ := trodAll_cons hA
  obtain ⟨rfl, rfl, rfl⟩ := trodAll_nil r0
  obtain rfl : args = #[v0] := by cases args; simp_all
  obtain ⟨rfl, rfl⟩ := trodVars_none hV
  have k0 := h0
  have lt0 : ∀ x ∈ p0, x.block < W.heap.size := by obtain ⟨m, hm⟩ := k0; exact DataW.trod_lt m _ _ _ hm
  have hwt : ∀ g ∈ d0.weights Try.prog 48, g ≤ 140737488351232 := fun g hg => by
    have := List.all_eq_true.1 hsz g (DataW.weights_mem_each (j := 0) (t := 48) (d := d0) rfl rfl g hg)
    exact of_decide_eq_true this
  obtain ⟨z0, w0⟩ := msgs_of (hval 0 48 v0 rfl rfl) h0 hwt
  clear hA0 hval0
  refine (walk v0 z0 W w0).mono fun e W' ⟨he, bel⟩ => ?_
  subst he
  exact ⟨_, rfl, _, _, _, [], _, [], hW', trodAll_mk1 (shut_bool Try.underlying4 _), (trodAll_cons_mk (Below.trod laidOut (by kernel_rfl) (of_decide_eq_true (by kernel_rfl)) k0 bel lt0) trodAll_mk0), rfl, bel.frame _, fun h => by cases h⟩

theorem over : Rows.netSameRow.holds Try.pinned (OpenSpec.ofChange Rows.netSameSpec) :=
  OpenClaim.holds_of_wide 6 Try.f6 rfl rfl rfl rfl rfl rfl rfl ⟨rfl, rfl, rfl, rfl, rfl⟩ rfl rfl rfl rfl rfl (by kernel_rfl) Try.func6 (by kernel_rfl)
    (of_decide_eq_true (by kernel_rfl)) (by unfold Func.isWrapper; first | (rw [if_pos (by decide +kernel)]; kernel_rfl) | (rw [if_neg (by decide +kernel)]; exact ⟨rfl, rfl⟩))
    (fun os started H enc _ => lifted os started H enc)

theorem proved : Rows.NetSameSaid := over
end Go.Proofs.Ytfijidaohlnphaa.netSame
