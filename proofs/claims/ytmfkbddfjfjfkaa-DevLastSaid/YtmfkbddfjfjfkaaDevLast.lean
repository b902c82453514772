/- DevLast: of the writes to a block that are kept the last one counts, whatever the texts (at most 30) and the fates (at most 60): no condition on the input. -/
import Derived.Test.YtmfkbddfjfjfkaaDevArgs
namespace Go.Proofs.Ytmfkbddfjfjfkaa.devLast
open Go.ChangeShapes Go.WideShapes Go.ChangeAt Go.RowKit
open Go.ChangeMaps (open_string shut_string)
set_option linter.unusedVariables false

def pendL (ss : List ByteArray) (k : Nat) : List Wr := (List.range k).map fun j => ⟨j, ss.getD j ByteArray.empty⟩
theorem pendL_succ (ss : List ByteArray) (k : Nat) : pendL ss (k + 1) = pendL ss k ++ [⟨k, ss.getD k ByteArray.empty⟩] := by simp [pendL, List.range_succ]
def blkL (ss : List ByteArray) (k : Nat) : Blk := ⟨⟨#[]⟩, false, false, pendL ss k⟩
def LD (ss : List ByteArray) (k : Nat) : Dv := ⟨[blkL ss k], k, false, 0, false⟩
def wantL (zs : List Int) (ss : List ByteArray) (k : Nat) : ByteArray := ((blkL ss k).crash zs).durable
theorem LD_zero (ss : List ByteArray) : Dv.new 1 = LD ss 0 := rfl
theorem wantL_zero (zs : List Int) (ss : List ByteArray) : wantL zs ss 0 = ⟨#[]⟩ := rfl
theorem LD_succ (ss : List ByteArray) (k : Nat) (hs : (ss.getD k ByteArray.empty).size ≤ 512) : (LD ss k).write 0 (ss.getD k ByteArray.empty) = (0, LD ss (k + 1)) := by
  have h := write_of (D := LD ss k) (b := blkL ss k) 0 (ss.getD k ByteArray.empty) rfl rfl hs
  refine h.trans ?_
  simp only [LD, blkL, pendL_succ]
  rfl
theorem LD_read (ss : List ByteArray) (k : Nat) : (LD ss (k + 1)).read 0 = (ss.getD k ByteArray.empty, 0) := by
  refine (read_of (D := LD ss (k + 1)) (b := blkL ss (k + 1)) 0 rfl rfl rfl).trans ?_
  rw [contents_snoc (pendL_succ ss k)]
theorem wantL_succ (zs : List Int) (ss : List ByteArray) (k : Nat) : wantL zs ss (k + 1) =
    if fateF zs k = 1 then ss.getD k ByteArray.empty else if fateF zs k = 2 then (ss.getD k ByteArray.empty).extract 0 ((ss.getD k ByteArray.empty).size / 2) else wantL zs ss k := by
  unfold wantL Blk.crash
  simp only [blkL, pendL_succ, List.reverse_append, List.reverse_cons, List.reverse_nil, List.nil_append, List.cons_append, List.findSome?_cons]
  by_cases h1 : fateF zs k = 1
  · simp [oneHit, h1]
  · by_cases h2 : fateF zs k = 2
    · simp [oneHit, h2]
    · simp only [oneHit, h1, h2, if_false]
      congr 2
theorem LD_crash_read (zs : List Int) (ss : List ByteArray) (k : Nat) (hp : ∀ p ∈ pendL ss k, p.data.size ≤ 512) : ((LD ss k).crash zs).read 0 = (wantL zs ss k, 0) := by
  have hsh := crash_shape zs (blkL ss k) (Nat.zero_le _) hp
  refine (read_of (D := (LD ss k).crash zs) (b := (blkL ss k).crash zs) 0 rfl rfl hsh.2.2).trans ?_
  rw [contents_nil hsh.1]
  rfl

set_option maxRecDepth 100000 in
set_option maxHeartbeats 4000000 in
theorem walkA (a0 a1 : Option Addr) (cap0 cap1 : Nat) (ss : List ByteArray) (zs : List Int) (w : World) (h0 : Strs w (.slice a0 ss.length cap0) ss) (h1 : Fts w (.slice a1 zs.length cap1) zs) (hl0 : ss.length ≤ 30) (hl1 : zs.length ≤ 60) :
    Calls Try.prog 5 #[.slice a0 ss.length cap0, .slice a1 zs.length cap1] w fun e w' => e = .returned (.bool true) ∧ Below w.heap.size w w' := by
  have hd0 : decide ((30 : Int) < (ss.length : Int)) = false := by simp; omega
  have hd1 : decide ((60 : Int) < (zs.length : Int)) = false := by simp; omega
  have HS := Lib.hid h0
  have HZ := Lib.hid h1
  clear h0 h1
  go_enter Try.func5, Try.ntmps5
  go_wp2_with (go_at_call 8; refine (head_any _).mono ?_; rintro e w1 ⟨rfl, hb1⟩)
  refine (new_any 1 w1).mono ?_
  rintro e w2 ⟨B, rfl, hd2, hb2⟩
  have hB2 := hb1.trans (hb2.mono hb1.size)
  have hL2 : Lone w.heap.size w2 B (LD ss 0) := by rw [← LD_zero]; exact lone_new hd2 hb1.size
  clear hb1 hb2 hd2
  go_wp2_with fail
  go_loopw [26, 6] (fun i x wr => ∃ k : Nat, k ≤ ss.length ∧ i = .int .i64 k ∧ x = .string (wantL zs ss k) ∧ Lone w.heap.size wr B (LD ss k) ∧ Below w.heap.size w wr ∧ ∀ p ∈ pendL ss k, p.data.size ≤ 512) (fun i _ _ => ss.length - (intOf i).toNat)
  case atStart => exact ⟨0, Nat.zero_le _, rfl, by rw [wantL_zero], hL2, hB2, by simp [pendL]⟩
  case round =>
    obtain ⟨k, hk, rfl, rfl, hL, hB, hP⟩ := hrel
    clear hL2 hB2
    have HP := Lib.hid hP
    clear hP
    by_cases hlt : k < ss.length
    · obtain ⟨_, _, e0, _, hS0, hSm⟩ := HS.out
      obtain ⟨rfl, rfl⟩ : a0 = _ ∧ cap0 = _ := by simpa using e0
      clear e0
      rcases hS0 with hS0 | ⟨g, off, rfl, hg, hc⟩
      · omega
      · have hcell := (hB.cell (p := ⟨g, off + k, none⟩) hg).trans (hc k hlt)
        have hsm : (ss.getD k ByteArray.empty).size ≤ maxLen := by
          rw [List.getD_eq_getElem?_getD, List.getElem?_eq_getElem hlt]
          exact hSm _ (List.getElem_mem hlt)
        unfold maxLen at hsm
        have HW := Lib.hid (fun (hs : (ss.getD k ByteArray.empty).size ≤ 512) => by have := lone_write 0 (ss.getD k ByteArray.empty) hB.size (show (LD ss k).writes ≤ 1073741824 by show k ≤ 1073741824; omega) hL; rwa [LD_succ ss k hs] at this)
        have HRD := Lib.hid (fun (W : World) (h : Lone w.heap.size W B (LD ss (k + 1))) => by have := lone_read 0 (show (LD ss (k + 1)).writes ≤ 1073741824 by show k + 1 ≤ 1073741824; omega) h; rwa [LD_read ss k] at this)
        have HWS := Lib.hid (wantL_succ zs ss k)
        have HPS := Lib.hid (fun (hs : (ss.getD k ByteArray.empty).size ≤ 512) => show ∀ p ∈ pendL ss (k + 1), p.data.size ≤ 512 from fun p hp => by
          rw [pendL_succ] at hp
          rcases List.mem_append.1 hp with hp | hp
          · exact HP.out p hp
          · rw [List.mem_singleton.1 hp]; exact hs)
        clear hc hSm hL
        generalize ss.getD k ByteArray.empty = s at *
        generalize wantL zs ss k = x at *
        by_cases hs : 512 < s.size
        · have hds : decide ((512 : Int) < (s.size : Int)) = true := by simp; omega
          go_wp2
          go_ret
          exact ⟨rfl, hB⟩
        · have hds : decide ((512 : Int) < (s.size : Int)) = false := by simp; omega
          have hwr := HW.out (by omega)
          have HPP := Lib.hid (HPS.out (by omega))
          by_cases hz : k < zs.length
          · obtain ⟨_, _, e0, _, hZ0⟩ := HZ.out
            obtain ⟨rfl, rfl⟩ : a1 = _ ∧ cap1 = _ := by simpa using e0
            clear e0
            rcases hZ0 with hZ0 | ⟨fg, foff, rfl, hfg, hfc⟩
            · omega
            · have hfcell : ∀ W, Below w.heap.size w W → W.cell? ⟨fg, foff + k, none⟩ = some (.int .i64 (fateF zs k)) := fun W hW => (hW.cell (p := ⟨fg, foff + k, none⟩) hfg).trans (hfc k hz)
              have HFC := Lib.hid hfcell
              clear hfc hfcell hs
              generalize fateF zs k = z at *
              by_cases h1 : z = 1
              · subst h1
                go_wp2_with (first
                  | (go_at_call 18; refine hwr.mono ?_; rintro e w4 ⟨rfl, hL4, hb4⟩; have hB4 := hB.trans hb4; have hf4 := HFC.out w4 hB4)
                  | (go_at_call 19; refine (HRD.out _ hL4).mono ?_; rintro e w6 ⟨rfl, hb6⟩))
                go_roundw
                case rel => exact ⟨k + 1, by omega, by go_num, by rw [HWS.out]; rfl, hL4.below hb6, hB4.trans (hb6.mono hB4.size), HPP.out⟩
                case measure => simp [intOf]; omega
              · by_cases h2 : z = 2
                · subst h2
                  go_wp2_with (first
                    | (go_at_call 18; refine hwr.mono ?_; rintro e w4 ⟨rfl, hL4, hb4⟩; have hB4 := hB.trans hb4; have hf4 := HFC.out w4 hB4)
                    | (go_at_call 19; refine (HRD.out _ hL4).mono ?_; rintro e w6 ⟨rfl, hb6⟩))
                  go_roundw
                  case rel => exact ⟨k + 1, by omega, by go_num, by rw [HWS.out]; rfl, hL4.below hb6, hB4.trans (hb6.mono hB4.size), HPP.out⟩
                  case measure => simp [intOf]; omega
                · have g1 : (z == 1) = false := by simpa using h1
                  have g2 : (z == 2) = false := by simpa using h2
                  have HX := Lib.hid (show (if z = 1 then s else if z = 2 then s.extract 0 (s.size / 2) else x) = x by rw [if_neg h1, if_neg h2])
                  clear h1 h2
                  go_wp2_with (first
                    | (go_at_call 18; refine hwr.mono ?_; rintro e w4 ⟨rfl, hL4, hb4⟩; have hB4 := hB.trans hb4; have hf4 := HFC.out w4 hB4)
                    | (go_at_call 19; refine (HRD.out _ hL4).mono ?_; rintro e w6 ⟨rfl, hb6⟩))
                  go_roundw
                  case rel => exact ⟨k + 1, by omega, by go_num, by rw [HWS.out, HX.out], hL4.below hb6, hB4.trans (hb6.mono hB4.size), HPP.out⟩
                  case measure => simp [intOf]; omega
          · have hz0 : fateF zs k = 0 := by simp [fateF, List.getD_eq_getElem?_getD, List.getElem?_eq_none (by omega : zs.length ≤ k)]
            rw [hz0] at HWS
            clear hz0 hs
            go_wp2_with (first
              | (go_at_call 18; refine hwr.mono ?_; rintro e w4 ⟨rfl, hL4, hb4⟩; have hB4 := hB.trans hb4)
              | (go_at_call 19; refine (HRD.out _ hL4).mono ?_; rintro e w6 ⟨rfl, hb6⟩))
            go_roundw
            case rel => exact ⟨k + 1, by omega, by go_num, by rw [HWS.out]; rfl, hL4.below hb6, hB4.trans (hb6.mono hB4.size), HPP.out⟩
            case measure => simp [intOf]; omega
    · obtain rfl : k = ss.length := by omega
      have hcr := lone_crash _ zs (show (LD ss ss.length).writes ≤ 1073741824 by show ss.length ≤ 1073741824; omega) hL (HZ.out.below hB)
      have hrd := LD_crash_read zs ss ss.length HP.out
      have HRD := Lib.hid (fun (W : World) (B' : Nat) (h : Lone w.heap.size W B' ((LD ss ss.length).crash zs)) => by have := lone_read 0 (Nat.zero_le _) h; rwa [hrd] at this)
      clear hrd hL
      generalize (LD ss ss.length).crash zs = E at *
      generalize wantL zs ss ss.length = s at *
      go_wp2_with (first
        | (go_at_call 16; refine hcr.mono ?_; rintro e w4 ⟨B4, rfl, hd4, hb4⟩)
        | (go_at_call 19; refine (HRD.out _ _ (lone_new hd4 hB.size)).mono ?_; rintro e w5 ⟨rfl, hb5⟩))
      go_ret
      exact ⟨by simp, hB.trans ((hb4.trans (hb5.mono hb4.size)).mono hB.size)⟩

set_option maxHeartbeats 1000000 in
theorem walk (v0 : Value) (ss : List ByteArray) (v1 : Value) (zs : List Int) (w : World) (h0 : Strs w v0 ss) (h1 : Fts w v1 zs) :
    Calls Try.prog 5 #[v0, v1] w fun e w' => e = .returned (.bool true) ∧ Below w.heap.size w w' := by
  obtain ⟨a0, cap0, e0, hm0, q0⟩ := id h0
  obtain ⟨a1, cap1, e1, hm1, q1⟩ := id h1
  subst e0 e1
  clear q0 q1
  unfold maxLen at hm0 hm1
  by_cases hl0 : ss.length ≤ 30
  · by_cases hl1 : zs.length ≤ 60
    · exact walkA a0 a1 cap0 cap1 ss zs w h0 h1 hl0 hl1
    · have hd0 : decide ((30 : Int) < (ss.length : Int)) = false := by simp; omega
      have hd1 : decide ((60 : Int) < (zs.length : Int)) = true := by simp; omega
      clear h0 h1
      go_enter Try.func5, Try.ntmps5
      go_wp2_with (go_at_call 8; refine (head_any _).mono ?_; rintro e w1 ⟨rfl, hb1⟩)
      go_ret
      exact ⟨rfl, hb1⟩
  · have hd0 : decide ((30 : Int) < (ss.length : Int)) = true := by simp; omega
    clear h0 h1
    go_enter Try.func5, Try.ntmps5
    go_wp2_with (go_at_call 8; refine (head_any _).mono ?_; rintro e w1 ⟨rfl, hb1⟩)
    go_ret
    exact ⟨rfl, hb1⟩

theorem own : ownKnob Try.prog.godebug = none := by kernel_rfl
theorem laidOut : laidOutB Try.prog = true := by kernel_rfl

set_option maxRecDepth 100000 in
theorem lifted (os : Os) (started : os.Started) (H : Type) (enc : TypeId × Value → H) :
    ReturnsInHanded {} Try.checked os 5 .any (Rows.devLastSpec.pre6 enc Try.prog Try.f5 Rows.devLastRow.domain false) (Rows.devLastSpec.post enc Try.prog Try.f5 false true false false) := by
  refine returnsInHanded_of_change (C := Try.checked) own started (by kernel_rfl) Try.func5
    (ChangeSpec.witness6 (enc := enc) (C := Try.checked) false ⟨#[], #[.slice none 0 0, .slice none 0 0], []⟩ 8 (by kernel_rfl) (by kernel_rfl) (by kernel_rfl) (by kernel_rfl)) ?_
  intro W base args ds gs before hval0 hW hcnd _
  have hval : ∀ (j : Nat) t v, Try.f5.params[j]? = some t → args[j]? = some v → Value.okWide Try.prog W .any base t v := hval0
  have hW' := hW
  obtain ⟨p, q, hA0, hV, rfl, hfz, hnd⟩ := hW
  have hA : DataW.TrodAll enc Try.prog W 0 (fun _ => true) true Try.f5.params.toList args.toList ds p := hA0
  rw [Try.params5] at hA hval
  obtain ⟨v0, vs0, d0, ds0, p0, q0, hargs, rfl, rfl, h0, r0⟩ := trodAll_cons hA
  obtain ⟨v1, vs1, d1, ds1, p1, q1, rfl, rfl, rfl, h1, r1⟩ := trodAll_cons r0
  obtain ⟨rfl, rfl, rfl⟩ := trodAll_nil r1
  obtain rfl : args = #[v0, v1] := by cases args; simp_all
  obtain ⟨rfl, rfl⟩ := trodVars_none hV
  have k0 := h0
  have lt0 : ∀ x ∈ p0, x.block < W.heap.size := by obtain ⟨m, hm⟩ := k0; exact DataW.trod_lt m _ _ _ hm
  obtain ⟨z0, w0⟩ := strs_of (hval 0 43 v0 rfl rfl) h0
  have k1 := h1
  have lt1 : ∀ x ∈ p1, x.block < W.heap.size := by obtain ⟨m, hm⟩ := k1; exact DataW.trod_lt m _ _ _ hm
  obtain ⟨z1, w1⟩ := fts_of (hval 1 37 v1 rfl rfl) h1
  clear hA0 hval0
  refine (walk v0 z0 v1 z1 W w0 w1).mono fun e W' ⟨he, bel⟩ => ?_
  subst he
  exact ⟨_, rfl, _, _, _, [], _, [], hW', trodAll_mk1 (shut_bool Try.underlying4 _), (trodAll_cons_mk (Below.trod laidOut (by kernel_rfl) (of_decide_eq_true (by kernel_rfl)) k0 bel lt0) (trodAll_cons_mk (Below.trod laidOut (by kernel_rfl) (of_decide_eq_true (by kernel_rfl)) k1 bel lt1) trodAll_mk0)), rfl, bel.frame _, fun h => by cases h⟩

theorem over : Rows.devLastRow.holds Try.pinned (OpenSpec.ofChange Rows.devLastSpec) :=
  OpenClaim.holds_of_wide 5 Try.f5 rfl rfl rfl rfl rfl rfl rfl ⟨rfl, rfl, rfl, rfl, rfl⟩ rfl rfl rfl rfl rfl (by kernel_rfl) Try.func5 (by kernel_rfl)
    (of_decide_eq_true (by kernel_rfl)) (by unfold Func.isWrapper; first | (rw [if_pos (by decide +kernel)]; kernel_rfl) | (rw [if_neg (by decide +kernel)]; exact ⟨rfl, rfl⟩))
    (fun os started H enc _ => lifted os started H enc)

theorem proved : Rows.DevLastSaid := over
end Go.Proofs.Ytmfkbddfjfjfkaa.devLast
