/- WatchReads holds: what is read is what was written. -/
import Derived.Test.YtbdbmoinoehneaaDoorWRead
import Derived.Test.YtbdbmoinoehneaaDoorWLay
import Derived.Test.YtbdbmoinoehneaaDoorCards
import Derived.Test.YtbdbmoinoehneaaDoorTie
import Derived.ProofKit
import Derived.OpenShut
import Derived.ShutString
import Derived.ChangeOld
import Derived.Deep.DeepHandedRow
import Derived.Lib.LaidTab
import Derived.Stop.LaidErr
import Derived.Lay
namespace Go.Proofs.YtbdbmoinoehneaaDoor.watchReads
open Go.ChangeShapes Go.WideShapes Go.ChangeAt Go.RowKit
open Go.ChangeMaps (open_string shut_string)
set_option linter.unusedVariables false
set_option maxRecDepth 100000
open Go.Maps Go.Sort
theorem read_st (s : ByteArray) (w : World) (hs : s.size ≤ 140737488355328) : Calls Tryd.prog 22 #[.string s] w fun e w' => e = .returned (.pointer (some ⟨w.heap.size, 0, none⟩)) ∧ Rs w' w.heap.size (some s.data.toList) ∧ Below w.heap.size w w' :=
  (read_any s w).mono fun e w' ⟨h1, h2, h3, _⟩ => ⟨h1, ⟨by rw [arr_mk]; exact h2, by rw [← Lib.size_eq]; exact hs⟩, h3⟩
theorem readB_fail {st : RS} (h : okF (readB st).st = false) : (readB st).W = [] := by
  cases hS : okF (readLs (readEs (readWs st).st).st).st with
  | true => rw [readB_good hS] at h; rw [h] at hS; cases hS
  | false => rw [readB_bad hS]
theorem flat_congr {α : Type} {f g : α → List UInt8} : ∀ {L : List α}, (∀ e ∈ L, f e = g e) → L.flatMap f = L.flatMap g
  | [], _ => rfl
  | a :: l, h => by rw [List.flatMap_cons, List.flatMap_cons, h a (by simp), flat_congr (fun e he => h e (by simp [he]))]
theorem lsE_ids {N : Int → Option Int} {L : List (Int × Int)} (h : LsOk N L) : (L.map (·.1)).flatMap (lsZ N) = lsE L := by
  unfold lsE
  rw [List.flatMap_map]
  have : ∀ e ∈ L, lsZ N e.1 = numE e.1 ++ numE e.2 := fun e he => by
    unfold lsZ
    rw [(h.mem e.1 e.2).2 he, numsE_two]; rfl
  exact flat_congr this
theorem layN_eq {B : Bks} (h : BksOk B) {zs : List Int} {c : Nat} (hI : IdsOf B.N c zs) : layN B.W B.E B.N zs = layB B.W B.E B.L := by
  have hz := ids_eq hI h.ls.ids
  subst hz
  unfold layN layB
  rw [lsE_ids h.ls, List.length_map]
  simp only [numsE, List.flatMap_cons, List.flatMap_nil, List.append_nil, List.append_assoc]
theorem lay_ok {B : Bks} (h : BksOk B) : LayOk B.W B.E B.N := by
  refine ⟨fun x hx => ?_, fun x hx => ?_, fun z v hz => ?_⟩
  · have := h.ws.ok x hx
    exact ⟨by have := this.ses; unfold InR; omega, by have := this.path; omega⟩
  · obtain ⟨h1, h2, h3, h4, h5⟩ := h.es x hx
    unfold InR; omega
  · have := h.ls.pos (z, v) ((h.ls.mem z v).1 hz)
    simp only at this
    unfold InR; omega
set_option maxHeartbeats 16000000 in
theorem walk (a0 : ByteArray) (w : World) (w0 : a0.size ≤ maxLen) :
    Calls Tryd.prog 5 #[.string a0] w fun e w' => e = .returned (.bool true) ∧ Below w.heap.size w w' := by
  have HH := Lib.hid (head_any w)
  clear w0
  by_cases hs : 2000 < a0.size
  · have d1 : decide ((2000 : Int) < (a0.size : Int)) = true := by simp; omega
    go_enter Tryd.func5, Tryd.ntmps5
    go_wp2_with fail
    refine HH.out.mono ?_
    rintro e w1 ⟨rfl, b1⟩
    go_wp2_with fail
    go_ret
    exact ⟨rfl, b1⟩
  have d1 : decide ((2000 : Int) < (a0.size : Int)) = false := by simp; omega
  have hsz : a0.size ≤ 140737488355328 := by omega
  have HRD := Lib.hid (fun W : World => read_st a0 W hsz)
  have hsome := @readB_some (some a0.data.toList)
  have hfail := @readB_fail (some a0.data.toList)
  have HTR := Lib.hid (fun (b : Nat) (W : World) (hW : Rs W b (some a0.data.toList)) => bread_any b (some a0.data.toList) W hW)
  generalize readB (some a0.data.toList) = R at hsome hfail HTR
  obtain ⟨Ws, Es, N, L, S⟩ := R
  simp only at hsome hfail HTR
  have HSO := Lib.hid (fun (h : S = some []) => hsome h)
  have HFA := Lib.hid hfail
  clear hsome hfail hs hsz
  go_enter Tryd.func5, Tryd.ntmps5
  go_wp2_with fail
  refine HH.out.mono ?_
  rintro e w1 ⟨rfl, b1⟩
  go_wp2_with fail
  refine (HRD.out _).mono ?_
  rintro e w2 ⟨rfl, R2, b2⟩
  replace b2 := b1.trans (b2.mono b1.size)
  have hrw : w.heap.size ≤ w1.heap.size := b1.size
  obtain ⟨rb, hrb⟩ : ∃ rb, rb = w1.heap.size := ⟨_, rfl⟩
  rw [← hrb] at R2 hrw ⊢
  clear b1 hrb HH HRD
  go_wp2_with fail
  refine (HTR.out _ _ R2).mono ?_
  rintro e w3 ⟨base, bb, vw, ve, vm, k, c, rfl, K3, R3, g3, hbs, hk⟩
  have b3 : Below w.heap.size w w3 := b2.grown g3 b2.size (fun q hq => by cases hq; exact hrw)
  have HDN := Lib.hid (done_rs rb S w3 R3)
  have HOK := Lib.hid (ok_rs rb S w3 R3)
  have HK := Lib.hid K3
  clear R2 g3 b2 HTR R3 K3
  cases hok : okF S
  · rw [hok] at HOK
    obtain rfl := HFA.out hok
    have HWT := Lib.hid (watches_any _ _ _ _ _ _ _ _ _ _ w3 HK.out (by simp))
    clear hok HSO HFA HDN
    go_wp2_with fail
    refine HOK.out.mono ?_
    rintro e w4 ⟨rfl, hw⟩
    obtain rfl := hw
    go_wp2_with fail
    refine HWT.out.mono ?_
    rintro e w5 ⟨v, rfl, hrow, b5⟩
    obtain ⟨a, ca, rfl, _, _⟩ := waV_form hrow
    replace b5 := b3.trans (b5.mono b3.size)
    clear hrow
    go_wp2_with fail
    go_ret
    exact ⟨rfl, b5⟩
  · rw [hok] at HOK
    by_cases hdn : doneF S = 0
    · have hS := doneF_zero hdn
      subst hS
      obtain ⟨t, ht, htl, hB⟩ := HSO.out rfl
      injection ht with ht
      have hLE : a0.data.toList = layB Ws Es L := by rw [ht, htl, List.append_nil]
      obtain ⟨zs, hI⟩ := ids_any HK.out
      have hc : c ≤ 2000 := by
        have h1 := hI.len
        rw [ids_eq hI hB.ls.ids, List.length_map] at h1
        have h2 := hB.ll
        simp only at h1 h2
        omega
      have HLY := Lib.hid (blay_any _ _ _ _ _ _ _ _ _ _ w3 HK.out (lay_ok hB) (by have := hB.lw; simp only at this; omega) (by have := hB.le; simp only at this; omega) hc)
      have HLE : Hid (∀ c zs, IdsOf N c zs → (⟨(layN Ws Es N zs).toArray⟩ : ByteArray) = a0) := Lib.hid (fun c zs hz => by
        have := layN_eq hB hz
        simp only at this
        rw [this, ← hLE, arr_mk])
      unfold doneF at HDN
      clear hdn ht htl hB HSO HFA hLE hI hc hok
      go_wp2_with fail
      refine HOK.out.mono ?_
      rintro e w4 ⟨rfl, hw⟩
      obtain rfl := hw
      go_wp2_with fail
      refine HDN.out.mono ?_
      rintro e w5 ⟨rfl, hw⟩
      obtain rfl := hw
      go_wp2_with fail
      refine HLY.out.mono ?_
      rintro e w6 ⟨v, zs, rfl, hI, B6, b6⟩
      have hconv := run_str B6.src
      rw [HLE.out c zs hI] at hconv
      replace b6 := b3.trans (b6.mono b3.size)
      clear B6 hI
      go_wp2_with fail
      go_ret
      exact ⟨rfl, b6⟩
    · have hd2 : doneF S = 2 := by
        cases S with
        | none => rfl
        | some l => cases l with
          | nil => exact absurd rfl hdn
          | cons c l => rfl
      rw [hd2] at HDN
      clear hd2 hdn HSO HFA hok
      go_wp2_with fail
      refine HOK.out.mono ?_
      rintro e w4 ⟨rfl, hw⟩
      obtain rfl := hw
      go_wp2_with fail
      refine HDN.out.mono ?_
      rintro e w5 ⟨rfl, hw⟩
      obtain rfl := hw
      go_wp2_with fail
      go_ret
      exact ⟨rfl, b3⟩

theorem own : ownKnob Tryd.prog.godebug = none := by kernel_rfl
theorem laidOut : laidOutB Tryd.prog = true := by kernel_rfl

theorem contract (H : Type) (enc : TypeId × Value → H) (W : World) (base : Nat) (args : Array Value) (ds gs : List (DataW H)) (before : List MemPlace)
    (hval : ∀ (j : Nat) t v, Tryd.f5.params[j]? = some t → args[j]? = some v → Value.okWide Tryd.prog W .any base t v)
    (hW : DataW.Whole enc Tryd.prog Tryd.f5.params.toList Rows.watchReadsSpec.vars false W args.toList ds gs before) (hL : laidMetH Tryd.prog Rows.watchReadsRow.laid W) :
    Calls Tryd.prog 5 args W fun e W' => ∃ v, e = .returned v ∧ Rows.watchReadsSpec.post enc Tryd.prog Tryd.f5 false true false false W args v W' := by
  have hW' := hW
  obtain ⟨p, q, hA0, hV, rfl, hfz, hnd⟩ := hW
  have hA : DataW.TrodAll enc Tryd.prog W 0 (fun _ => true) true Tryd.f5.params.toList args.toList ds p := hA0
  rw [Tryd.params5] at hA hval
  obtain ⟨v0, vs0, d0, ds0, p0, q0, hargs, rfl, rfl, h0, r0⟩ := trodAll_cons hA
  obtain ⟨rfl, rfl, rfl⟩ := trodAll_nil r0
  obtain rfl : args = #[v0] := by cases args; simp_all
  obtain ⟨rfl, rfl⟩ := trodVars_none hV
  obtain ⟨a0, rfl, rfl, rfl, w0⟩ := open_string Tryd.underlying9 (hval 0 9 v0 rfl rfl) h0
  clear hA0
  refine (walk a0 W w0).mono fun e W' ⟨he, bel⟩ => ?_
  subst he
  exact ⟨_, rfl, _, _, _, [], _, [], hW', trodAll_mk1 (shut_bool Tryd.underlying4 _), (trodAll_cons_mk (shut_string Tryd.underlying9 w0) trodAll_mk0), rfl, bel.frame _, fun h => by cases h⟩

theorem laid_met (os : Os) : laidMet Tryd.prog Rows.watchReadsRow.laid ((World.laidAll Tryd.prog os Rows.watchReadsRow.laid).forCall (fun _ _ => 0) ⟨#[], #[.string ByteArray.empty], []⟩).memory :=
  laidMet_laidAll _ (by kernel_rfl) (by kernel_rfl)
theorem reads (os : Os) {H : Type} (enc : TypeId × Value → H) : ∃ places, DataW.whole enc Tryd.prog ((World.laidAll Tryd.prog os Rows.watchReadsRow.laid).forCall (fun _ _ => 0) ⟨#[], #[.string ByteArray.empty], []⟩).memory Tryd.f5.params.toList Rows.watchReadsSpec.vars false #[Value.string ByteArray.empty].toList 8 = some ([.lit (.string [])], [], places) :=
  ⟨[], by kernel_rfl⟩

set_option maxRecDepth 100000 in
theorem lifted (os : Os) (started : os.Started) (H : Type) (enc : TypeId × Value → H) (F : Stop.Interp) :
    ReturnsInHanded {} Tryd.checked os 5 .any ((OpenSpec.ofChange Rows.watchReadsSpec).preRow enc Tryd.prog Tryd.f5 Rows.watchReadsRow.domain false Rows.watchReadsRow.laid) (((OpenSpec.ofChange Rows.watchReadsSpec).at F).post enc Tryd.prog Tryd.f5 false true false false) := by
  obtain ⟨places, hx⟩ := reads os enc
  refine returnsInHanded_of_row (C := Tryd.checked) (s := OpenSpec.ofChange Rows.watchReadsSpec) own started (by kernel_rfl) Tryd.func5
    (witness_zip (enc := enc) (C := Tryd.checked) false (World.laidAll Tryd.prog os Rows.watchReadsRow.laid) #[.string ByteArray.empty] (World.laidAll_os _ _ _) (World.shaped_of_ZipB (by kernel_rfl) (by kernel_rfl)) (by kernel_rfl)
      (OpenSpec.preRow_of_cond 8 hx (by kernel_rfl) (fun k hk => by cases hk) (by kernel_rfl) (laid_met os))) ?_
  intro W base args ds gs before hval hW _ _ _ hL _ _
  exact contract H enc W base args ds gs before hval hW hL

theorem said : Rows.WatchReadsSaid :=
  OpenClaim.holds_of_cond 5 Tryd.f5 rfl rfl rfl rfl rfl rfl rfl ⟨rfl, rfl, rfl, rfl, rfl⟩ rfl rfl rfl rfl rfl (by kernel_rfl) Tryd.func5 (by kernel_rfl)
    (of_decide_eq_true (by kernel_rfl)) (by unfold Func.isWrapper; first | (rw [if_pos (by decide +kernel)]; kernel_rfl) | (rw [if_neg (by decide +kernel)]; exact ⟨rfl, rfl⟩))
    (fun os started H enc _ F => by rw [OpenClaim.pre_eq_preRow]; exact lifted os started H enc F)

theorem plain (f : FuncId) (fn : Func) (hf : Tryd.pinned.checked.prog.funcNamed "orchard/orchardlaw11.WatchReads" = some f) (hfn : Tryd.pinned.checked.prog.funcs[f]? = some fn) :
    true = Tryd.pinned.checked.prog.looks [] ∧ ∀ (j : Nat) t, fn.params[j]? = some t → Tryd.pinned.checked.prog.wantsStandIn t = false := by
  obtain rfl : f = 5 := Option.some.inj ((show Tryd.prog.funcNamed "orchard/orchardlaw11.WatchReads" = some 5 by kernel_rfl).symm.trans hf) |>.symm
  obtain rfl : fn = Tryd.f5 := (Option.some.inj (Tryd.func5.symm.trans hfn)).symm
  refine ⟨by kernel_rfl, fun j t ht => ?_⟩
  rw [Tryd.params5] at ht
  have hm := Array.mem_of_getElem? ht
  simp at hm
  subst hm
  exact (show Tryd.prog.wantsStandIn 9 = false by kernel_rfl)

theorem card : Rows.WatchReadsCardSaid :=
  Claim7.holds_tied_plain_at .later [] _ _ _ _ said (fun _ h => by cases h) (by kernel_rfl) (fun _ h => by cases h) watchReads_row_tie rfl ⟨rfl, rfl⟩ (by kernel_rfl) rfl plain (by kernel_rfl)
end Go.Proofs.YtbdbmoinoehneaaDoor.watchReads
