/- SessActs: whatever is done, each answer, and all sessions behind it. No conditions. -/
import Derived.Test.YtckengglamkaaaaSessAct
import Derived.Test.YtckengglamkaaaaSessNil
import Derived.Test.YtckengglamkaaaaRows
import Derived.ProofKit
import Derived.OpenShut
import Derived.ShutString
import Derived.ChangeOld
import Derived.Deep.DeepHandedRow
import Derived.Lib.LaidTab
import Derived.Stop.LaidErr
import Derived.Lay
namespace Go.Proofs.Ytckengglamkaaaa.sessActs
open Go.ChangeShapes Go.WideShapes Go.ChangeAt Go.RowKit
open Go.ChangeMaps (open_string shut_string)
set_option linter.unusedVariables false
set_option maxRecDepth 100000
theorem run_loadA (W : World) (ab : Nat) (q : Sa) (h : W.heap[ab]? = some (.cells #[.int .i64 q.k, .int .i64 q.id, .int .i64 q.req, .string q.ans] 32 (0, 0))) : (Instr.loadAt 32 (.pointer (some ⟨ab, 0, none⟩))).run Try.prog W = .ok (actV q) W := by
  have c0 : W.cell? ⟨ab, 0, none⟩ = some (.int .i64 q.k) := by simp [World.cell?, h]
  have c1 : W.cell? ⟨ab, 1, none⟩ = some (.int .i64 q.id) := by simp [World.cell?, h]
  have c2 : W.cell? ⟨ab, 2, none⟩ = some (.int .i64 q.req) := by simp [World.cell?, h]
  have c3 : W.cell? ⟨ab, 3, none⟩ = some (.string q.ans) := by simp [World.cell?, h]
  unfold actV
  go_simp
theorem run_geq0 (W : World) (x : Int) (s1 s2 : Operand) : (do eqGuard .geq 3 s1 s2 (.int .i64 x) (.int .i64 0); binOp .geq 3 (.int .i64 x) (.int .i64 0) : Sem Value).run Try.prog W = .ok (.bool (decide (0 ≤ x))) W := by go_simp
theorem call_do (W : World) (v1 v2 v3 : Value) : (callFunc 12 #[v1, v2, v3]).run Try.prog W = .ok (.enter 12 #[v1, v2, v3]) W := by kernel_rfl
theorem call_shows (W : World) (v1 v2 : Value) : (callFunc 13 #[v1, v2]).run Try.prog W = .ok (.enter 13 #[v1, v2]) W := by kernel_rfl
theorem call_at (W : World) (v1 v2 : Value) : (callFunc 15 #[v1, v2]).run Try.prog W = .ok (.enter 15 #[v1, v2]) W := by kernel_rfl
theorem RepS.has_at {T : Int → Option Ss} {L : List Me} (h : RepS T L) {s : Int} : (T s).isSome = decide (0 ≤ atI L s L.length) := by
  cases hs : T s with
  | none => rw [h.at_none hs]; rfl
  | some n => obtain ⟨i, hi, _⟩ := h.at_some hs; rw [hi]; simp
def FAc (tb mp ab : Nat) (q : Sa) : Nat → Value → Prop
  | 0, v => v = .pointer (some ⟨mp, 0, none⟩)
  | 1, v => v = .pointer (some ⟨tb, 0, none⟩)
  | 2, v => v = actV q
  | 3, v => v = .bool true
  | 4, v => v = .bool false
  | 5, v => v = .bool false
  | 6, v => v = .pointer (some ⟨mp, 0, none⟩)
  | 7, v => v = .pointer (some ⟨tb, 0, none⟩)
  | 8, v => v = .bool true
  | 9, v => v = .bool false
  | 10, v => v = .bool false
  | 11, v => v = .bool false
  | 12, v => v = .pointer (some ⟨tb, 0, none⟩)
  | 13, v => v = .pointer (some ⟨ab, 1, none⟩)
  | 14, v => v = .int .i64 q.id
  | 15, _ => True
  | 16, v => v = .pointer (some ⟨mp, 0, none⟩)
  | 17, v => v = .pointer (some ⟨ab, 1, none⟩)
  | 18, v => v = .int .i64 q.id
  | 19, _ => True
  | 20, _ => True
  | 21, v => v = .bool false
  | 22, v => v = .bool false
  | _, _ => True
theorem MoW.new (w : World) : MoW (w.alloc (.cells #[.slice none 0 0] 30)) w.heap.size none 0 [] := ⟨heap_alloc_new w _, World.ownsRow_nil _ _ _ _, .inl ⟨rfl, rfl, rfl⟩⟩
/-- What has run of the round's condition. -/
structure JAc (w0 wd : World) (m tb mb k mp ab : Nat) (q : Sa) (b : Nat → Bool) (x : Nat → Value) (w : World) : Prop where
  blk : w.heap[ab]? = some (.cells #[.int .i64 q.k, .int .i64 q.id, .int .i64 q.req, .string q.ans] 32 (0, 0))
  up : ∀ j, 3 < j → b j = true → b 3 = true
  pre : b 3 = false → Below wd.heap.size wd w
  bel : Below m w0 w
  post : b 3 = true → ∃ cap a T L, TwoS m w tb mb (k + 1) mp cap a T L ∧ (b 15 = true → x 15 = .bool (T q.id).isSome) ∧ (b 19 = true → x 19 = .int .i64 (atI L q.id L.length)) ∧ (b 20 = true → x 20 = .bool (decide (0 ≤ atI L q.id L.length)))
section
variable {w0 wd w w' : World} {m tb mb k mp ab : Nat} {q : Sa} {b : Nat → Bool} {x : Nat → Value}
theorem JAc.c1 (h : JAc w0 wd m tb mb k mp ab q b x w) : w.cell? ⟨ab, 1, none⟩ = some (.int .i64 q.id) := by simp [World.cell?, h.blk]
theorem JAc.pure {i : Nat} {v : Value} (h : JAc w0 wd m tb mb k mp ab q b x w) (hi : ¬ 3 = i ∧ ¬ 15 = i ∧ ¬ 19 = i ∧ ¬ 20 = i) (hu : 3 < i → b 3 = true) : JAc w0 wd m tb mb k mp ab q (setB b i) (setX x i v) w := by
  obtain ⟨h1, h2, h3, h4⟩ := hi
  refine ⟨h.blk, fun j hj hb => ?_, fun hb => h.pre (by rwa [setB_ne h1] at hb), h.bel, fun hb => ?_⟩
  · rw [setB_ne h1]
    by_cases e : j = i
    · subst e; exact hu hj
    · rw [setB_ne e] at hb; exact h.up j hj hb
  · rw [setB_ne h1] at hb
    rw [setB_ne h2, setB_ne h3, setB_ne h4, setX_ne h2, setX_ne h3, setX_ne h4]
    exact h.post hb
theorem JAc.grow (h : JAc w0 wd m tb mb k mp ab q b x w) (h3 : b 3 = true) (hb : Below w.heap.size w w') : JAc w0 wd m tb mb k mp ab q b x w' := by
  obtain ⟨cap, a, T, L, h2, hp⟩ := h.post h3
  exact ⟨(hb.block ab (Array.getElem?_eq_some_iff.1 h.blk).1).trans h.blk, h.up, fun e => (by rw [h3] at e; cases e), h.bel.trans (hb.mono h2.above.2.2.2.1), fun _ => ⟨cap, a, T, L, h2.below hb, hp⟩⟩
theorem JAc.doo {v : Value} {a : Option Addr} (h : JAc w0 wd m tb mb k mp ab q b x w) (hbi : b 3 = false) (hab : ab ≠ mb ∧ ab ≠ mp ∧ ∀ g, a = some ⟨g, 0, none⟩ → ab ≠ g) (hd : DoR m w w' tb mb k mp a) : JAc w0 wd m tb mb k mp ab q (setB b 3) (setX x 3 v) w' := by
  obtain ⟨d1, d2, cap, a', T, L, h2⟩ := hd
  have hlo : ∀ j, 3 < j → b j = false := fun j hj => by
    cases e : b j
    · rfl
    · have := h.up j hj e; rw [hbi] at this; cases this
  refine ⟨(d2 ab (Array.getElem?_eq_some_iff.1 h.blk).1 hab.1 hab.2.1 hab.2.2).trans h.blk, fun j hj _ => setB_same b 3, fun e => (by rw [setB_same] at e; cases e), h.bel.trans d1, fun _ => ⟨cap, a', T, L, h2, ?_, ?_, ?_⟩⟩
  · rw [setB_ne (by decide), hlo 15 (by decide)]; intro e; cases e
  · rw [setB_ne (by decide), hlo 19 (by decide)]; intro e; cases e
  · rw [setB_ne (by decide), hlo 20 (by decide)]; intro e; cases e
theorem JAc.has (h : JAc w0 wd m tb mb k mp ab q b x w) (h3 : b 3 = true) (hb : Below w.heap.size w w') {cap : Nat} {a : Option Addr} {T : Int → Option Ss} {L : List Me} (h2 : TwoS m w tb mb (k + 1) mp cap a T L) (p19 : b 19 = true → x 19 = .int .i64 (atI L q.id L.length)) (p20 : b 20 = true → x 20 = .bool (decide (0 ≤ atI L q.id L.length))) :
    JAc w0 wd m tb mb k mp ab q (setB b 15) (setX x 15 (.bool (T q.id).isSome)) w' := by
  have g := h.grow h3 hb
  refine ⟨g.blk, fun j hj _ => by rw [setB_ne (by decide)]; exact h3, fun e => (by rw [setB_ne (by decide), h3] at e; cases e), g.bel, fun _ => ⟨cap, a, T, L, h2.below hb, fun _ => setX_same _ _ _, ?_, ?_⟩⟩
  · rw [setB_ne (by decide), setX_ne (by decide)]; exact p19
  · rw [setB_ne (by decide), setX_ne (by decide)]; exact p20
theorem JAc.at (h : JAc w0 wd m tb mb k mp ab q b x w) (h3 : b 3 = true) (hb : Below w.heap.size w w') {cap : Nat} {a : Option Addr} {T : Int → Option Ss} {L : List Me} (h2 : TwoS m w tb mb (k + 1) mp cap a T L) (p15 : b 15 = true → x 15 = .bool (T q.id).isSome) (p20 : b 20 = true → x 20 = .bool (decide (0 ≤ atI L q.id L.length))) :
    JAc w0 wd m tb mb k mp ab q (setB b 19) (setX x 19 (.int .i64 (atI L q.id L.length))) w' := by
  have g := h.grow h3 hb
  refine ⟨g.blk, fun j hj _ => by rw [setB_ne (by decide)]; exact h3, fun e => (by rw [setB_ne (by decide), h3] at e; cases e), g.bel, fun _ => ⟨cap, a, T, L, h2.below hb, ?_, fun _ => setX_same _ _ _, ?_⟩⟩
  · rw [setB_ne (by decide), setX_ne (by decide)]; exact p15
  · rw [setB_ne (by decide), setX_ne (by decide)]; exact p20
theorem JAc.geq (h : JAc w0 wd m tb mb k mp ab q b x w) (h3 : b 3 = true) {cap : Nat} {a : Option Addr} {T : Int → Option Ss} {L : List Me} (h2 : TwoS m w tb mb (k + 1) mp cap a T L) (p15 : b 15 = true → x 15 = .bool (T q.id).isSome) (p19 : b 19 = true → x 19 = .int .i64 (atI L q.id L.length)) :
    JAc w0 wd m tb mb k mp ab q (setB b 20) (setX x 20 (.bool (decide (0 ≤ atI L q.id L.length)))) w := by
  refine ⟨h.blk, fun j hj _ => by rw [setB_ne (by decide)]; exact h3, fun e => (by rw [setB_ne (by decide), h3] at e; cases e), h.bel, fun _ => ⟨cap, a, T, L, h2, ?_, ?_, fun _ => setX_same _ _ _⟩⟩
  · rw [setB_ne (by decide), setX_ne (by decide)]; exact p15
  · rw [setB_ne (by decide), setX_ne (by decide)]; exact p19
end
set_option maxHeartbeats 8000000 in
theorem walk (v0 : Value) (qs : List Sa) (w : World) (w0 : Acts10 w v0 qs) :
    Calls Try.prog 3 #[v0] w fun e w' => e = .returned (.bool true) ∧ Below w.heap.size w w' := by
  have HH := Lib.hid (head10_any w)
  have w0' := w0
  obtain ⟨xa, xc, hva, hxm, _⟩ := w0'
  subst hva
  have HA := Lib.hid w0
  have HF := Lib.hid (fun (W : World) (hb : Below w.heap.size w W) => few10_any xa xc qs W (w0.below hb))
  clear w0
  by_cases hfw : few10 qs = false
  · rw [hfw] at HF
    go_enter Try.func3, Try.ntmps3
    go_wp2_with fail
    refine HH.out.mono ?_
    rintro e w1 ⟨rfl, b1⟩
    go_wp2_with fail
    refine (HF.out _ b1).mono ?_
    rintro e w2 ⟨rfl, b2⟩
    go_wp2_with fail
    go_ret
    exact ⟨rfl, b1.trans (b2.mono b1.size)⟩
  have hfew : few10 qs = true := by cases h : few10 qs; exact absurd h hfw; rfl
  rw [hfew] at HF
  have HFW := Lib.hid hfew
  have hq60 : qs.length ≤ 60 := by unfold few10 at hfew; rw [Bool.and_eq_true] at hfew; simpa using hfew.2
  clear hfw hfew hxm
  go_enter Try.func3, Try.ntmps3
  go_wp2_with fail
  refine HH.out.mono ?_
  rintro e w1 ⟨rfl, b1⟩
  go_wp2_with fail
  refine (HF.out _ b1).mono ?_
  rintro e w2 ⟨rfl, b2⟩
  replace b2 := b1.trans (b2.mono b1.size)
  have HN := Lib.hid (new_any w2)
  go_wp2_with fail
  refine HN.out.mono ?_
  rintro e w3 ⟨tb, mb, rfl, H3, b3, htb, hmb⟩
  have hmw : w.heap.size ≤ mb := Nat.le_trans b2.size hmb
  have htw : w.heap.size ≤ tb := Nat.le_trans b2.size htb
  replace b3 := b2.trans (b3.mono b2.size)
  have b4 := b3.alloc b3.size (.cells #[.slice none 0 0] 30)
  have N4 := heap_alloc_new w3 (.cells #[.slice none 0 0] 30)
  have H4 := H3.below ((Below.refl _ w3).alloc (Nat.le_refl _) (.cells #[.slice none 0 0] 30))
  have M4 : MoW (w3.alloc (.cells #[.slice none 0 0] 30)) w3.heap.size none 0 [] := MoW.new w3
  have hs4 : (w3.alloc (.cells #[.slice none 0 0] 30)).heap.size = w3.heap.size + 1 := Array.size_push _
  have hw3 := b3.size
  have l3 := H3.lt
  have l4 := H3.map.lt
  have T4 : TwoS w.heap.size (w3.alloc (.cells #[.slice none 0 0] 30)) tb mb 0 w3.heap.size 0 none noS [] :=
    ⟨H4, M4, RepS.nil, by simp, fun x s h => (by cases h), ⟨by omega, by omega, fun g hg => (by cases hg)⟩, ⟨htw, hmw, hw3, by omega, fun g hg => (by cases hg)⟩⟩
  clear N4 H4 M4 H3 HN b1 b2 HH HF hs4 htb hmb
  go_wp2_with fail
  go_loopw [21] (fun iv wr => ∃ (j k cap : Nat) (a : Option Addr) (T : Int → Option Ss) (L : List Me), j ≤ qs.length ∧ k ≤ j ∧ iv = .int .i64 j ∧ TwoS w.heap.size wr tb mb k w3.heap.size cap a T L ∧ Below w.heap.size w wr) (fun iv _ => qs.length - (intOf iv).toNat)
  case atStart => exact ⟨0, 0, 0, none, noS, [], by omega, by omega, rfl, T4, b4⟩
  case round =>
    obtain ⟨j, k, cap, a, T, L, hj, hk, rfl, h2, bk⟩ := hrel
    clear T4 b4 b3
    by_cases hlt : j < qs.length
    · have hlt2 : decide ((j : Int) < (qs.length : Int)) = true := by simp; omega
      obtain ⟨hok, g, off, rfl, h0, h1, h2', h3⟩ := act10_at HA.out bk hlt
      obtain ⟨hsz, _⟩ := few10_at HFW.out hlt
      have hidA := inR_of hok.id
      have hrqA := inR_of hok.req
      have t2 : IntKind.i64.wrap ((j : Int) + 1) = (j : Int) + 1 := IntWalk.i64_in _ (by omega)
      have hj0 : (0 : Int) ≤ (j : Int) := by omega
      have hji : (j : Int) < (qs.length : Int) := by omega
      clear hok
      generalize qs.getD j sa0 = q at *
      obtain ⟨ak, ai, ar, ad⟩ := q
      simp only at *
      have bA := bk.alloc bk.size (.cells #[.int .i64 ak, .int .i64 ai, .int .i64 ar, .string ad] 32)
      have H6 := h2.below ((Below.refl _ wr).alloc (Nat.le_refl _) (.cells #[.int .i64 ak, .int .i64 ai, .int .i64 ar, .string ad] 32))
      have N6 := heap_alloc_new wr (.cells #[.int .i64 ak, .int .i64 ai, .int .i64 ar, .string ad] 32)
      have HAB : Hid (wr.heap.size ≠ mb ∧ wr.heap.size ≠ w3.heap.size ∧ ∀ g, a = some ⟨g, 0, none⟩ → wr.heap.size ≠ g) := Lib.hid ⟨by have := h2.table.map.lt; omega, by have := h2.mod.ltm; omega, fun g hg => by have := h2.mod.ltg hg; omega⟩
      obtain ⟨w6, hw6⟩ : ∃ w6, w6 = wr.alloc (.cells #[.int .i64 ak, .int .i64 ai, .int .i64 ar, .string ad] 32) := ⟨_, rfl⟩
      have hq : (⟨ak, ai, ar, ad⟩ : Sa).id = ai := rfl
      have HIDR : Hid (InR (⟨ak, ai, ar, ad⟩ : Sa).id) := Lib.hid hidA
      have HK := Lib.hid hk
      have HJ := Lib.hid hlt
      have HB := Lib.hid bk
      clear h2 hq
      go_upto_region 10 with fail
      rw [← hw6] at bA H6 N6 ⊢
      have H6' := Lib.hid H6
      have HBA := Lib.hid bA
      have HN6 := Lib.hid N6
      have HDO : Hid (∀ W : World, Below w6.drew.heap.size w6.drew W → Calls Try.prog 12 #[.pointer (some ⟨w3.heap.size, 0, none⟩), .pointer (some ⟨tb, 0, none⟩), actV ⟨ak, ai, ar, ad⟩] W fun e w' => e = .returned (.bool true) ∧ DoR w.heap.size W w' tb mb k w3.heap.size a) := Lib.hid fun W hW =>
        do_all w.heap.size tb mb k w3.heap.size cap a T L ⟨ak, ai, ar, ad⟩ W (H6'.out.below ((Below.refl _ w6).drew.trans (hW.mono (Nat.le_refl _)))) hidA hrqA (by simp only; omega) (by omega)
      clear hw6 H6 bA N6 h0 h1 h2' h3 hsz hidA hrqA
      go_cut [47] (fun p wx => p = .bool false ∧ Below w.heap.size w wx ∧ ∃ cap a T L, TwoS w.heap.size wx tb mb (k + 1) w3.heap.size cap a T L)
      case first =>
        refine wp_region_inv (IFJ (FAc tb w3.heap.size wr.heap.size ⟨ak, ai, ar, ad⟩) (JAc w w6.drew w.heap.size tb mb k w3.heap.size wr.heap.size ⟨ak, ai, ar, ad⟩)) (by kernel_rfl) (by kernel_rfl) (by kernel_rfl) ?_ ?_ ?_
        · intro x
          exact ⟨fun j hj => (by cases hj), ⟨HN6.out, fun j _ hj => (by cases hj), fun _ => Below.refl _ _, HBA.out.drew, fun hj => (by cases hj)⟩⟩
        · intro i o ho b x w1 hI hbi hW
          match i, ho with
          | 0, ho =>
            obtain rfl := Option.some.inj ho
            exact gstep_move rfl (wanted0 rfl) _ rfl _ (eval_of 4 _ (by kernel_rfl) rfl) ⟨_, rfl, IFJ.step hI rfl (JAc.pure hI.2 (by decide) (fun _ => absurd ‹3 < _› (by decide)))⟩
          | 1, ho =>
            obtain rfl := Option.some.inj ho
            exact gstep_move rfl (wanted0 rfl) _ rfl _ (eval_of 3 _ (by kernel_rfl) rfl) ⟨_, rfl, IFJ.step hI rfl (JAc.pure hI.2 (by decide) (fun _ => absurd ‹3 < _› (by decide)))⟩
          | 2, ho =>
            obtain rfl := Option.some.inj ho
            exact gstep_load rfl (wanted0 rfl) _ _ rfl _ (eval_of 6 _ (by kernel_rfl) rfl) _ (run_loadA w1 _ _ (JAc.blk hI.2)) ⟨_, rfl, IFJ.step hI rfl (JAc.pure hI.2 (by decide) (fun _ => absurd ‹3 < _› (by decide)))⟩
          | 3, ho =>
            obtain rfl := Option.some.inj ho
            refine gstep_call3 rfl (wanted0 rfl) _ _ _ _ _ rfl _ _ _ (eval_at 25 0 _ (by kernel_rfl) (show 25 < 90 by decide) (hI.1 0 (hW 0 (by kernel_rfl)))) (eval_at 26 1 _ (by kernel_rfl) (show 26 < 90 by decide) (hI.1 1 (hW 1 (by kernel_rfl)))) (eval_at 27 2 _ (by kernel_rfl) (show 27 < 90 by decide) (hI.1 2 (hW 2 (by kernel_rfl)))) (call_do w1 _ _ _) ?_
            refine (HDO.out w1 (JAc.pre hI.2 hbi)).mono ?_
            rintro e w2 ⟨rfl, hd⟩
            exact ⟨_, rfl, _, rfl, IFJ.step hI rfl (JAc.doo hI.2 hbi HAB.out hd)⟩
          | 4, ho =>
            obtain rfl := Option.some.inj ho
            have h3 : b 3 = true := hW 3 (by kernel_rfl)
            exact gstep_not rfl (wanted0 rfl) _ _ rfl _ (eval_at 28 3 _ (by kernel_rfl) (show 28 < 90 by decide) (hI.1 3 (hW 3 (by kernel_rfl)))) ⟨_, rfl, IFJ.step hI rfl (JAc.pure hI.2 (by decide) (fun _ => h3))⟩
          | 5, ho =>
            obtain rfl := Option.some.inj ho
            have h3 : b 3 = true := JAc.up hI.2 4 (by decide) (hW 4 (by kernel_rfl))
            exact gstep_move rfl (wanted0 rfl) _ rfl _ (eval_at 29 4 _ (by kernel_rfl) (show 29 < 90 by decide) (hI.1 4 (hW 4 (by kernel_rfl)))) ⟨_, rfl, IFJ.step hI rfl (JAc.pure hI.2 (by decide) (fun _ => h3))⟩
          | 6, ho =>
            obtain rfl := Option.some.inj ho
            have h3 : b 3 = true := JAc.up hI.2 5 (by decide) (hW 5 (by kernel_rfl))
            exact gstep_move rfl (wanted_at 30 5 false _ true rfl (by kernel_rfl) (show 30 < 90 by decide) (hI.1 5 (hW 5 (by kernel_rfl))) rfl) _ rfl _ (eval_of 4 _ (by kernel_rfl) rfl) ⟨_, rfl, IFJ.step hI rfl (JAc.pure hI.2 (by decide) (fun _ => h3))⟩
          | 7, ho =>
            obtain rfl := Option.some.inj ho
            have h3 : b 3 = true := JAc.up hI.2 5 (by decide) (hW 5 (by kernel_rfl))
            exact gstep_move rfl (wanted_at 30 5 false _ true rfl (by kernel_rfl) (show 30 < 90 by decide) (hI.1 5 (hW 5 (by kernel_rfl))) rfl) _ rfl _ (eval_of 3 _ (by kernel_rfl) rfl) ⟨_, rfl, IFJ.step hI rfl (JAc.pure hI.2 (by decide) (fun _ => h3))⟩
          | 8, ho =>
            obtain rfl := Option.some.inj ho
            refine gstep_call2 rfl (wanted_at 30 5 false _ true rfl (by kernel_rfl) (show 30 < 90 by decide) (hI.1 5 (hW 5 (by kernel_rfl))) rfl) _ _ _ _ rfl _ _ (eval_at 31 6 _ (by kernel_rfl) (show 31 < 90 by decide) (hI.1 6 (hW 6 (by kernel_rfl)))) (eval_at 32 7 _ (by kernel_rfl) (show 32 < 90 by decide) (hI.1 7 (hW 7 (by kernel_rfl)))) (call_shows w1 _ _) ?_
            have h3 : b 3 = true := JAc.up hI.2 5 (by decide) (hW 5 (by kernel_rfl))
            obtain ⟨cap', a', T', L', h2', _⟩ := JAc.post hI.2 h3
            refine (shows_any _ _ _ _ _ _ _ _ _ w1 h2' (fun x s hs => h2'.table.map.1 x (by rw [hs]; rfl))).mono ?_
            rintro e w2 ⟨rfl, hb⟩
            exact ⟨_, rfl, _, rfl, IFJ.step hI rfl ((JAc.grow hI.2 h3 hb).pure (by decide) (fun _ => h3))⟩
          | 9, ho =>
            obtain rfl := Option.some.inj ho
            have h3 : b 3 = true := JAc.up hI.2 8 (by decide) (hW 8 (by kernel_rfl))
            exact gstep_not rfl (wanted_at 30 5 false _ true rfl (by kernel_rfl) (show 30 < 90 by decide) (hI.1 5 (hW 5 (by kernel_rfl))) rfl) _ _ rfl _ (eval_at 33 8 _ (by kernel_rfl) (show 33 < 90 by decide) (hI.1 8 (hW 8 (by kernel_rfl)))) ⟨_, rfl, IFJ.step hI rfl (JAc.pure hI.2 (by decide) (fun _ => h3))⟩
          | 10, ho =>
            obtain rfl := Option.some.inj ho
            have h3 : b 3 = true := JAc.up hI.2 5 (by decide) (hW 5 (by kernel_rfl))
            exact gstep_pick rfl (wanted0 rfl) _ _ _ rfl false (eval_at 30 5 _ (by kernel_rfl) (show 30 < 90 by decide) (hI.1 5 (hW 5 (by kernel_rfl)))) _ (by rw [if_neg (by decide)]; exact (eval_at 34 9 _ (by kernel_rfl) (show 34 < 90 by decide) (hI.1 9 (hW 9 (by kernel_rfl))))) ⟨_, rfl, IFJ.step hI rfl (JAc.pure hI.2 (by decide) (fun _ => h3))⟩
          | 11, ho =>
            obtain rfl := Option.some.inj ho
            have h3 : b 3 = true := JAc.up hI.2 10 (by decide) (hW 10 (by kernel_rfl))
            exact gstep_move rfl (wanted0 rfl) _ rfl _ (eval_at 35 10 _ (by kernel_rfl) (show 35 < 90 by decide) (hI.1 10 (hW 10 (by kernel_rfl)))) ⟨_, rfl, IFJ.step hI rfl (JAc.pure hI.2 (by decide) (fun _ => h3))⟩
          | 12, ho =>
            obtain rfl := Option.some.inj ho
            have h3 : b 3 = true := JAc.up hI.2 11 (by decide) (hW 11 (by kernel_rfl))
            exact gstep_move rfl (wanted_at 36 11 false _ true rfl (by kernel_rfl) (show 36 < 90 by decide) (hI.1 11 (hW 11 (by kernel_rfl))) rfl) _ rfl _ (eval_of 3 _ (by kernel_rfl) rfl) ⟨_, rfl, IFJ.step hI rfl (JAc.pure hI.2 (by decide) (fun _ => h3))⟩
          | 13, ho =>
            obtain rfl := Option.some.inj ho
            have h3 : b 3 = true := JAc.up hI.2 11 (by decide) (hW 11 (by kernel_rfl))
            exact gstep_field rfl (wanted_at 36 11 false _ true rfl (by kernel_rfl) (show 36 < 90 by decide) (hI.1 11 (hW 11 (by kernel_rfl))) rfl) _ _ _ rfl _ (eval_of 6 _ (by kernel_rfl) rfl) _ (run_fA1 w1 _) ⟨_, rfl, IFJ.step hI rfl (JAc.pure hI.2 (by decide) (fun _ => h3))⟩
          | 14, ho =>
            obtain rfl := Option.some.inj ho
            have h3 : b 3 = true := JAc.up hI.2 11 (by decide) (hW 11 (by kernel_rfl))
            exact gstep_load rfl (wanted_at 36 11 false _ true rfl (by kernel_rfl) (show 36 < 90 by decide) (hI.1 11 (hW 11 (by kernel_rfl))) rfl) _ _ rfl _ (eval_at 38 13 _ (by kernel_rfl) (show 38 < 90 by decide) (hI.1 13 (hW 13 (by kernel_rfl)))) _ (run_loadI w1 _ _ (JAc.c1 hI.2)) ⟨_, rfl, IFJ.step hI rfl (JAc.pure hI.2 (by decide) (fun _ => h3))⟩
          | 15, ho =>
            obtain rfl := Option.some.inj ho
            refine gstep_call2 rfl (wanted_at 36 11 false _ true rfl (by kernel_rfl) (show 36 < 90 by decide) (hI.1 11 (hW 11 (by kernel_rfl))) rfl) _ _ _ _ rfl _ _ (eval_at 37 12 _ (by kernel_rfl) (show 37 < 90 by decide) (hI.1 12 (hW 12 (by kernel_rfl)))) (eval_at 39 14 _ (by kernel_rfl) (show 39 < 90 by decide) (hI.1 14 (hW 14 (by kernel_rfl)))) (call_has w1 _ _) ?_
            have h3 : b 3 = true := JAc.up hI.2 11 (by decide) (hW 11 (by kernel_rfl))
            obtain ⟨cap', a', T', L', h2', p15, p19, p20⟩ := JAc.post hI.2 h3
            refine (has_any _ _ _ _ _ _ w1 h2'.table HIDR.out).mono ?_
            rintro e w2 ⟨rfl, hb⟩
            exact ⟨_, rfl, _, rfl, IFJ.step hI trivial (JAc.has hI.2 h3 hb h2' p19 p20)⟩
          | 16, ho =>
            obtain rfl := Option.some.inj ho
            have h3 : b 3 = true := JAc.up hI.2 11 (by decide) (hW 11 (by kernel_rfl))
            exact gstep_move rfl (wanted_at 36 11 false _ true rfl (by kernel_rfl) (show 36 < 90 by decide) (hI.1 11 (hW 11 (by kernel_rfl))) rfl) _ rfl _ (eval_of 4 _ (by kernel_rfl) rfl) ⟨_, rfl, IFJ.step hI rfl (JAc.pure hI.2 (by decide) (fun _ => h3))⟩
          | 17, ho =>
            obtain rfl := Option.some.inj ho
            have h3 : b 3 = true := JAc.up hI.2 11 (by decide) (hW 11 (by kernel_rfl))
            exact gstep_field rfl (wanted_at 36 11 false _ true rfl (by kernel_rfl) (show 36 < 90 by decide) (hI.1 11 (hW 11 (by kernel_rfl))) rfl) _ _ _ rfl _ (eval_of 6 _ (by kernel_rfl) rfl) _ (run_fA1 w1 _) ⟨_, rfl, IFJ.step hI rfl (JAc.pure hI.2 (by decide) (fun _ => h3))⟩
          | 18, ho =>
            obtain rfl := Option.some.inj ho
            have h3 : b 3 = true := JAc.up hI.2 11 (by decide) (hW 11 (by kernel_rfl))
            exact gstep_load rfl (wanted_at 36 11 false _ true rfl (by kernel_rfl) (show 36 < 90 by decide) (hI.1 11 (hW 11 (by kernel_rfl))) rfl) _ _ rfl _ (eval_at 42 17 _ (by kernel_rfl) (show 42 < 90 by decide) (hI.1 17 (hW 17 (by kernel_rfl)))) _ (run_loadI w1 _ _ (JAc.c1 hI.2)) ⟨_, rfl, IFJ.step hI rfl (JAc.pure hI.2 (by decide) (fun _ => h3))⟩
          | 19, ho =>
            obtain rfl := Option.some.inj ho
            refine gstep_call2 rfl (wanted_at 36 11 false _ true rfl (by kernel_rfl) (show 36 < 90 by decide) (hI.1 11 (hW 11 (by kernel_rfl))) rfl) _ _ _ _ rfl _ _ (eval_at 41 16 _ (by kernel_rfl) (show 41 < 90 by decide) (hI.1 16 (hW 16 (by kernel_rfl)))) (eval_at 43 18 _ (by kernel_rfl) (show 43 < 90 by decide) (hI.1 18 (hW 18 (by kernel_rfl)))) (call_at w1 _ _) ?_
            have h3 : b 3 = true := JAc.up hI.2 11 (by decide) (hW 11 (by kernel_rfl))
            obtain ⟨cap', a', T', L', h2', p15, p19, p20⟩ := JAc.post hI.2 h3
            refine (at_any _ _ _ _ _ w1 h2'.mod (by have := h2'.few; omega)).mono ?_
            rintro e w2 ⟨rfl, hb⟩
            exact ⟨_, rfl, _, rfl, IFJ.step hI trivial (JAc.at hI.2 h3 hb h2' p15 p20)⟩
          | 20, ho =>
            obtain rfl := Option.some.inj ho
            have h3 : b 3 = true := JAc.up hI.2 11 (by decide) (hW 11 (by kernel_rfl))
            obtain ⟨cap', a', T', L', h2', p15, p19, p20⟩ := JAc.post hI.2 h3
            have h19 := p19 (hW 19 (by kernel_rfl))
            exact gstep_bin rfl (wanted_at 36 11 false _ true rfl (by kernel_rfl) (show 36 < 90 by decide) (hI.1 11 (hW 11 (by kernel_rfl))) rfl) _ _ _ _ _ rfl _ _ (eval_at 44 19 _ (by kernel_rfl) (show 44 < 90 by decide) h19) rfl _ (run_geq0 w1 _ _ _) ⟨_, rfl, IFJ.step hI trivial (JAc.geq hI.2 h3 h2' p15 p19)⟩
          | 21, ho =>
            obtain rfl := Option.some.inj ho
            have h3 : b 3 = true := JAc.up hI.2 11 (by decide) (hW 11 (by kernel_rfl))
            obtain ⟨cap', a', T', L', h2', p15, p19, p20⟩ := JAc.post hI.2 h3
            have h15 := p15 (hW 15 (by kernel_rfl))
            have h20 := p20 (hW 20 (by kernel_rfl))
            rw [← RepS.has_at h2'.rep] at h20
            exact gstep_bin rfl (wanted_at 36 11 false _ true rfl (by kernel_rfl) (show 36 < 90 by decide) (hI.1 11 (hW 11 (by kernel_rfl))) rfl) _ _ _ _ _ rfl _ _ (eval_at 40 15 _ (by kernel_rfl) (show 40 < 90 by decide) h15) (eval_at 45 20 _ (by kernel_rfl) (show 45 < 90 by decide) h20) _ (run_neB w1 _ _ _) ⟨_, rfl, IFJ.step hI rfl (JAc.pure hI.2 (by decide) (fun _ => h3))⟩
          | 22, ho =>
            obtain rfl := Option.some.inj ho
            have h3 : b 3 = true := JAc.up hI.2 11 (by decide) (hW 11 (by kernel_rfl))
            exact gstep_pick rfl (wanted0 rfl) _ _ _ rfl false (eval_at 36 11 _ (by kernel_rfl) (show 36 < 90 by decide) (hI.1 11 (hW 11 (by kernel_rfl)))) _ (by rw [if_neg (by decide)]; exact (eval_at 46 21 _ (by kernel_rfl) (show 46 < 90 by decide) (hI.1 21 (hW 21 (by kernel_rfl))))) ⟨_, rfl, IFJ.step hI rfl (JAc.pure hI.2 (by decide) (fun _ => h3))⟩
          | n + 23, ho => simp at ho
        · intro b x w1 hI hA
          have h22 : x 22 = .bool false := hI.1 22 (hA 22 (by decide))
          have hp := hI.2.post (hA 3 (by decide))
          have hb := hI.2.bel
          simp only [putAll, Act.put, List.setIfInBounds_toArray, List.set_cons_succ, List.set_cons_zero]
          obtain ⟨cap', a', T', L', h2', _⟩ := hp
          go_wp2_with fail
          go_meet
          exact ⟨(by first | rfl | exact h22), hb, cap', a', T', L', h2'⟩
      case rest =>
        obtain ⟨rfl, b9, cap', a', T', L', h9⟩ := hcut
        go_wp2_with fail
        go_roundw
        case rel => exact ⟨j + 1, k + 1, cap', a', T', L', by have := HJ.out; omega, by have := HK.out; omega, by go_num, h9, b9⟩
        case measure => have := HJ.out; simp [intOf]; omega
    · obtain rfl : j = qs.length := by omega
      have hlt2 : decide ((qs.length : Int) < (qs.length : Int)) = false := by simp
      have i1 : InR 1 := by unfold InR; omega
      have HS := Lib.hid (fun W => seen_nil 1 1 i1 W)
      have HO := Lib.hid (fun W => open_nil 1 W)
      have HHn := Lib.hid (fun W => has_nil 1 i1 W)
      have HC := Lib.hid (fun W => close_nil 1 i1 W)
      have HKn := Lib.hid (fun W => keep_nil 1 1 ⟨#[]⟩ i1 W)
      have HAn := Lib.hid (fun W => all_nil W)
      have HCl := Lib.hid (fun W => clone_nil W)
      clear h2
      go_wp2_with fail
      refine (HS.out _).mono ?_
      rintro e u1 ⟨rfl, c1⟩
      replace c1 := bk.trans (c1.mono bk.size)
      go_wp2_with fail
      refine (HO.out _).mono ?_
      rintro e u2 ⟨rfl, c2⟩
      replace c2 := c1.trans (c2.mono c1.size)
      go_wp2_with fail
      refine (HHn.out _).mono ?_
      rintro e u3 ⟨rfl, c3⟩
      replace c3 := c2.trans (c3.mono c2.size)
      go_wp2_with fail
      refine (HC.out _).mono ?_
      rintro e u4 ⟨rfl, c4⟩
      replace c4 := c3.trans (c4.mono c3.size)
      go_wp2_with fail
      refine (HKn.out _).mono ?_
      rintro e u5 ⟨rfl, c5⟩
      replace c5 := c4.trans (c5.mono c4.size)
      go_wp2_with fail
      refine (HAn.out _).mono ?_
      rintro e u6 ⟨a6, cp6, rfl, c6⟩
      replace c6 := c5.trans (c6.mono c5.size)
      go_wp2_with fail
      refine (HCl.out _).mono ?_
      rintro e u7 ⟨tb7, mb7, rfl, t7, c7⟩
      have HA7 := Lib.hid (all_any tb7 mb7 0 0 (fun _ => none) u7 t7 (by omega))
      replace c7 := c6.trans (c7.mono c6.size)
      clear t7
      go_wp2_with fail
      refine HA7.out.mono ?_
      rintro e u8 ⟨v8, zs8, rfl, hI8, hrow8, c8⟩
      replace c8 := c7.trans (c8.mono c7.size)
      obtain ⟨a8, cp8, rfl, _⟩ := rowForm10 hrow8
      have hl8 := hI8.len
      rw [hl8]
      clear hrow8 hI8
      go_wp2_with fail
      go_ret
      exact ⟨rfl, c8⟩

theorem own : ownKnob Try.prog.godebug = none := by kernel_rfl
theorem laidOut : laidOutB Try.prog = true := by kernel_rfl

set_option maxRecDepth 100000 in
theorem lifted (os : Os) (started : os.Started) (H : Type) (enc : TypeId × Value → H) :
    ReturnsInHanded {} Try.checked os 3 .any (Rows.sessActsSpec.pre6 enc Try.prog Try.f3 Rows.sessActsRow.domain false) (Rows.sessActsSpec.post enc Try.prog Try.f3 false true false false) := by
  refine returnsInHanded_of_change (C := Try.checked) own started (by kernel_rfl) Try.func3
    (ChangeSpec.witness6 (enc := enc) (C := Try.checked) false ⟨#[], #[.slice none 0 0], []⟩ 8 (by kernel_rfl) (by kernel_rfl) (by kernel_rfl) (by kernel_rfl)) ?_
  intro W base args ds gs before hval0 hW hcnd _
  have hval : ∀ (j : Nat) t v, Try.f3.params[j]? = some t → args[j]? = some v → Value.okWide Try.prog W .any base t v := hval0
  have hW' := hW
  obtain ⟨p, q, hA0, hV, rfl, hfz, hnd⟩ := hW
  have hA : DataW.TrodAll enc Try.prog W 0 (fun _ => true) true Try.f3.params.toList args.toList ds p := hA0
  rw [Try.params3] at hA hval
  obtain ⟨v0, vs0, d0, ds0, p0, q0, hargs, rfl, rfl, h0, r0⟩ := trodAll_cons hA
  obtain ⟨rfl, rfl, rfl⟩ := trodAll_nil r0
  obtain rfl : args = #[v0] := by cases args; simp_all
  obtain ⟨rfl, rfl⟩ := trodVars_none hV
  have k0 := h0
  have lt0 : ∀ x ∈ p0, x.block < W.heap.size := by obtain ⟨m, hm⟩ := k0; exact DataW.trod_lt m _ _ _ hm
  obtain ⟨z0, w0⟩ := acts10_of (hval 0 22 v0 rfl rfl) h0
  clear hA0 hval0
  refine (walk v0 z0 W w0).mono fun e W' ⟨he, bel⟩ => ?_
  subst he
  exact ⟨_, rfl, _, _, _, [], _, [], hW', trodAll_mk1 (shut_bool Try.underlying4 _), (trodAll_cons_mk (Below.trod laidOut (by kernel_rfl) (of_decide_eq_true (by kernel_rfl)) k0 bel lt0) trodAll_mk0), rfl, bel.frame _, fun h => by cases h⟩

theorem over : Rows.sessActsRow.holds Try.pinned (OpenSpec.ofChange Rows.sessActsSpec) :=
  OpenClaim.holds_of_wide 3 Try.f3 rfl rfl rfl rfl rfl rfl rfl ⟨rfl, rfl, rfl, rfl, rfl⟩ rfl rfl rfl rfl rfl (by kernel_rfl) Try.func3 (by kernel_rfl)
    (of_decide_eq_true (by kernel_rfl)) (by unfold Func.isWrapper; first | (rw [if_pos (by decide +kernel)]; kernel_rfl) | (rw [if_neg (by decide +kernel)]; exact ⟨rfl, rfl⟩))
    (fun os started H enc _ => lifted os started H enc)

theorem proved : Rows.SessActsSaid := over
end Go.Proofs.Ytckengglamkaaaa.sessActs
