/- DevFlushes: what was flushed is there whatever becomes of the rest, whatever the texts (at most 16 each) and the fates (at most 60): no condition on the input. -/
import Derived.Test.YtmfkbddfjfjfkaaFlushMath
namespace Go.Proofs.Ytmfkbddfjfjfkaa.devFlushes
open Go.ChangeShapes Go.WideShapes Go.ChangeAt Go.RowKit
open Go.ChangeMaps (open_string shut_string)
set_option linter.unusedVariables false

/-- The cell of a string that came in, in a world that has grown. -/
theorem cell_at {w x : World} {a : Option Addr} {cap k : Nat} {ss : List ByteArray} (h : Strs w (.slice a ss.length cap) ss) (hb : Below w.heap.size w x) (hk : k < ss.length) :
    ∃ g off, a = some ⟨g, off, none⟩ ∧ x.cell? ⟨g, off + k, none⟩ = some (.string (sAt ss k)) ∧ (sAt ss k).size ≤ 9223372036854775807 := by
  obtain ⟨_, _, e0, _, hS0, hSm⟩ := h
  obtain ⟨rfl, rfl⟩ : a = _ ∧ cap = _ := by simpa using e0
  rcases hS0 with hS0 | ⟨g, off, rfl, hg, hc⟩
  · omega
  · refine ⟨g, off, rfl, (hb.cell (p := ⟨g, off + k, none⟩) hg).trans (hc k hk), ?_⟩
    have hsm : (ss.getD k ByteArray.empty).size ≤ maxLen := by
      rw [List.getD_eq_getElem?_getD, List.getElem?_eq_getElem hk]
      exact hSm _ (List.getElem_mem hk)
    unfold maxLen at hsm
    exact hsm
theorem fate_at {w x : World} {a : Option Addr} {cap k : Nat} {zs : List Int} (h : Fts w (.slice a zs.length cap) zs) (hb : Below w.heap.size w x) (hk : k < zs.length) :
    ∃ g off, a = some ⟨g, off, none⟩ ∧ x.cell? ⟨g, off + k, none⟩ = some (.int .i64 (fateF zs k)) := by
  obtain ⟨_, _, e0, _, hZ0⟩ := h
  obtain ⟨rfl, rfl⟩ : a = _ ∧ cap = _ := by simpa using e0
  rcases hZ0 with hZ0 | ⟨g, off, rfl, hg, hc⟩
  · omega
  · exact ⟨g, off, rfl, (hb.cell (p := ⟨g, off + k, none⟩) hg).trans (hc k hk)⟩

set_option maxRecDepth 100000 in
set_option maxHeartbeats 8000000 in
theorem walkA (a0 a1 a2 : Option Addr) (cap0 cap1 cap2 : Nat) (ss ts : List ByteArray) (zs : List Int) (w : World) (h0 : Strs w (.slice a0 ss.length cap0) ss) (h1 : Strs w (.slice a1 ts.length cap1) ts) (h2 : Fts w (.slice a2 zs.length cap2) zs)
    (hl0 : ss.length ≤ 16) (hl1 : ts.length ≤ 16) (hl2 : zs.length ≤ 60) :
    Calls Try.prog 6 #[.slice a0 ss.length cap0, .slice a1 ts.length cap1, .slice a2 zs.length cap2] w fun e w' => e = .returned (.bool true) ∧ Below w.heap.size w w' := by
  have hd0 : decide ((16 : Int) < (ss.length : Int)) = false := by simp; omega
  have hd1 : decide ((16 : Int) < (ts.length : Int)) = false := by simp; omega
  have hd2 : decide ((60 : Int) < (zs.length : Int)) = false := by simp; omega
  have HS := Lib.hid h0
  have HT := Lib.hid h1
  have HZ := Lib.hid h2
  clear h0 h1 h2
  go_enter Try.func6, Try.ntmps6
  go_wp2_with (go_at_call 8; refine (head_any _).mono ?_; rintro e w1 ⟨rfl, hb1⟩)
  refine (new_any 32 w1).mono ?_
  rintro e w2 ⟨B, rfl, hd2, hb2⟩
  have hB2 := hb1.trans (hb2.mono hb1.size)
  have hL2 : Lone w.heap.size w2 B (of32 (fA ss 0) 0) := by rw [← A_zero]; exact lone_new hd2 hb1.size
  clear hb1 hb2 hd2
  go_wp2_with fail
  go_loopw [41] (fun i wr => ∃ k : Nat, k ≤ ss.length ∧ i = .int .i64 k ∧ Lone w.heap.size wr B (of32 (fA ss k) k) ∧ Below w.heap.size w wr) (fun i _ => ss.length - (intOf i).toNat)
  case atStart => exact ⟨0, Nat.zero_le _, rfl, hL2, hB2⟩
  case round =>
    obtain ⟨k, hk, rfl, hL, hB⟩ := hrel
    clear hL2 hB2
    by_cases hlt : k < ss.length
    · obtain ⟨g, off, rfl, hcell, hsm⟩ := cell_at HS.out hB hlt
      have HW := Lib.hid (fun (hs : (sAt ss k).size ≤ 512) => by have := lone_write (k : Int) (sAt ss k) hB.size (show (of32 (fA ss k) k).writes ≤ 1073741824 by show k ≤ 1073741824; omega) hL; rwa [A_succ ss k (by omega) hs] at this)
      clear hL
      generalize sAt ss k = s at *
      by_cases hs : 512 < s.size
      · have hds : decide ((512 : Int) < (s.size : Int)) = true := by simp; omega
        go_wp2
        go_ret
        exact ⟨rfl, hB⟩
      · have hds : decide ((512 : Int) < (s.size : Int)) = false := by simp; omega
        have hwr := HW.out (by omega)
        clear hs
        go_wp2_with (go_at_call 18; refine hwr.mono ?_; rintro e w4 ⟨rfl, hL4, hb4⟩)
        go_roundw
        case rel => exact ⟨k + 1, by omega, by go_num, hL4, hB.trans hb4⟩
        case measure => simp [intOf]; omega
    · obtain rfl : k = ss.length := by omega
      clear hlt hk
      have hfl := lone_flush hB.size (show (of32 (fA ss ss.length) ss.length).writes ≤ 1073741824 by show ss.length ≤ 1073741824; omega) hL
      rw [A_flush ss ts hl0] at hfl
      obtain ⟨w3, hw3⟩ : ∃ w3, w3 = wr := ⟨_, rfl⟩
      rw [← hw3] at hL hB hfl ⊢
      clear hw3 hL
      go_wp2_with fail
      refine hfl.mono ?_
      rintro e w4 ⟨rfl, hL4, hb4⟩
      have hB4 := hB.trans hb4
      clear hfl hB hb4
      go_wp2_with fail
      go_loopw [65] (fun i wr => ∃ k : Nat, k ≤ ts.length ∧ i = .int .i64 k ∧ Lone w.heap.size wr B (of32 (fB ss ts k) k) ∧ Below w.heap.size w wr) (fun i _ => ts.length - (intOf i).toNat)
      case atStart => exact ⟨0, Nat.zero_le _, rfl, hL4, hB4⟩
      case round =>
        obtain ⟨k, hk, rfl, hL, hB⟩ := hrel
        clear hL4 hB4
        by_cases hlt : k < ts.length
        · obtain ⟨g, off, rfl, hcell, hsm⟩ := cell_at HT.out hB hlt
          have HW := Lib.hid (fun (hs : (sAt ts k).size ≤ 512) => by have := lone_write ((16 : Int) + k) (sAt ts k) hB.size (show (of32 (fB ss ts k) k).writes ≤ 1073741824 by show k ≤ 1073741824; omega) hL; rwa [B_succ ss ts k hl0 (by omega) hs] at this)
          clear hL
          generalize sAt ts k = s at *
          by_cases hs : 512 < s.size
          · have hds : decide ((512 : Int) < (s.size : Int)) = true := by simp; omega
            go_wp2
            go_ret
            exact ⟨rfl, hB⟩
          · have hds : decide ((512 : Int) < (s.size : Int)) = false := by simp; omega
            have hwr := HW.out (by omega)
            clear hs
            go_wp2_with (go_at_call 18; refine hwr.mono ?_; rintro e w4 ⟨rfl, hL4, hb4⟩)
            go_roundw
            case rel => exact ⟨k + 1, by omega, by go_num, hL4, hB.trans hb4⟩
            case measure => simp [intOf]; omega
        · obtain rfl : k = ts.length := by omega
          clear hlt hk
          have hcr := lone_crash _ zs (show (of32 (fB ss ts ts.length) ts.length).writes ≤ 1073741824 by show ts.length ≤ 1073741824; omega) hL (HZ.out.below hB)
          have HR1 := Lib.hid (fun (W : World) (B' j : Nat) (hj : j < ss.length) (h : Lone w.heap.size W B' ((of32 (fB ss ts ts.length) ts.length).crash zs)) => by have := lone_read (j : Int) (Nat.zero_le _) h; rwa [C_first ss ts zs _ _ j hl0 hj] at this)
          have HR2 := Lib.hid (fun (W : World) (B' j : Nat) (hj : j < ts.length) (h : Lone w.heap.size W B' ((of32 (fB ss ts ts.length) ts.length).crash zs)) => by have := lone_read ((16 : Int) + j) (Nat.zero_le _) h; rwa [C_more ss ts zs _ j hl0 hl1 hj] at this)
          have HSZ := Lib.hid (fun (W : World) (B' : Nat) (h : Lone w.heap.size W B' ((of32 (fB ss ts ts.length) ts.length).crash zs)) => by have := lone_size h; rwa [C_size zs] at this)
          have HDN := Lib.hid (fun (W : World) (B' : Nat) (h : Lone w.heap.size W B' ((of32 (fB ss ts ts.length) ts.length).crash zs)) => by have := lone_down h; rwa [show ((of32 (fB ss ts ts.length) ts.length).crash zs).down = false from rfl] at this)
          clear hL
          generalize (of32 (fB ss ts ts.length) ts.length).crash zs = E at *
          obtain ⟨w5, hw5⟩ : ∃ w5, w5 = wr := ⟨_, rfl⟩
          rw [← hw5] at hB hcr ⊢
          clear hw5
          go_wp2_with fail
          refine hcr.mono ?_
          rintro e w6 ⟨B6, rfl, hd6, hb6⟩
          have hL6 : Lone w.heap.size w6 B6 E := lone_new hd6 hB.size
          have hB6 := hB.trans (hb6.mono hB.size)
          clear hcr hB hd6 hb6
          go_wp2_with fail
          go_loopw [90] (fun i wr => ∃ k : Nat, k ≤ ss.length ∧ i = .int .i64 k ∧ Lone w.heap.size wr B6 E ∧ Below w.heap.size w wr) (fun i _ => ss.length - (intOf i).toNat)
          case atStart => exact ⟨0, Nat.zero_le _, rfl, hL6, hB6⟩
          case round =>
            obtain ⟨k, hk, rfl, hL, hB⟩ := hrel
            clear hL6 hB6
            by_cases hlt : k < ss.length
            · obtain ⟨g, off, rfl, hcell, hsm⟩ := cell_at HS.out hB hlt
              have hrd := HR1.out _ _ k hlt hL
              generalize sAt ss k = s at *
              go_wp2_with (go_at_call 19; refine hrd.mono ?_; rintro e w7 ⟨rfl, hb7⟩)
              go_roundw
              case rel => exact ⟨k + 1, by omega, by go_num, hL.below hb7, hB.trans (hb7.mono hB.size)⟩
              case measure => simp [intOf]; omega
            · obtain rfl : k = ss.length := by omega
              clear hlt hk
              obtain ⟨w7, hw7⟩ : ∃ w7, w7 = wr := ⟨_, rfl⟩
              rw [← hw7] at hL hB ⊢
              clear hw7
              go_wp2_with fail
              go_loopw [111] (fun i wr => ∃ k : Nat, k ≤ ts.length ∧ i = .int .i64 k ∧ Lone w.heap.size wr B6 E ∧ Below w.heap.size w wr) (fun i _ => ts.length - (intOf i).toNat)
              case atStart => exact ⟨0, Nat.zero_le _, rfl, hL, hB⟩
              case round =>
                obtain ⟨k, hk, rfl, hL8, hB8⟩ := hrel
                clear hL hB
                by_cases hlt : k < ts.length
                · obtain ⟨g, off, rfl, hcell, hsm⟩ := cell_at HT.out hB8 hlt
                  have hrd := HR2.out _ _ k hlt hL8
                  generalize sAt ts k = s at *
                  by_cases hz : k < zs.length
                  · obtain ⟨fg, foff, rfl, hf0⟩ := fate_at HZ.out hB8 hz
                    have HFC := Lib.hid (fun (W : World) (hW : Below w.heap.size w W) => fate_at HZ.out hW hz)
                    generalize fateF zs k = z at *
                    by_cases h1 : z = 1
                    · subst h1
                      rw [if_pos rfl] at hrd
                      go_wp2_with (go_at_call 19; refine hrd.mono ?_; rintro e w9 ⟨rfl, hb9⟩; have hB9 := hB8.trans (hb9.mono hB8.size); obtain ⟨fg', foff', hfe, hf9⟩ := HFC.out w9 hB9; obtain ⟨rfl, rfl⟩ : fg = fg' ∧ foff = foff' := (by simpa using hfe); clear hfe)
                      go_roundw
                      case rel => exact ⟨k + 1, by omega, by go_num, hL8.below hb9, hB9⟩
                      case measure => simp [intOf]; omega
                    · by_cases h2 : z = 2
                      · subst h2
                        rw [if_neg (by decide), if_pos rfl] at hrd
                        clear h1
                        go_wp2_with (go_at_call 19; refine hrd.mono ?_; rintro e w9 ⟨rfl, hb9⟩; have hB9 := hB8.trans (hb9.mono hB8.size); obtain ⟨fg', foff', hfe, hf9⟩ := HFC.out w9 hB9; obtain ⟨rfl, rfl⟩ : fg = fg' ∧ foff = foff' := (by simpa using hfe); clear hfe)
                        go_roundw
                        case rel => exact ⟨k + 1, by omega, by go_num, hL8.below hb9, hB9⟩
                        case measure => simp [intOf]; omega
                      · rw [if_neg h1, if_neg h2] at hrd
                        have g1 : (z == 1) = false := by simpa using h1
                        have g2 : (z == 2) = false := by simpa using h2
                        clear h1 h2
                        go_wp2_with (go_at_call 19; refine hrd.mono ?_; rintro e w9 ⟨rfl, hb9⟩; have hB9 := hB8.trans (hb9.mono hB8.size); obtain ⟨fg', foff', hfe, hf9⟩ := HFC.out w9 hB9; obtain ⟨rfl, rfl⟩ : fg = fg' ∧ foff = foff' := (by simpa using hfe); clear hfe)
                        go_roundw
                        case rel => exact ⟨k + 1, by omega, by go_num, hL8.below hb9, hB9⟩
                        case measure => simp [intOf]; omega
                  · have hz0 : fateF zs k = 0 := by simp [fateF, List.getD_eq_getElem?_getD, List.getElem?_eq_none (by omega : zs.length ≤ k)]
                    rw [hz0, if_neg (by decide), if_neg (by decide)] at hrd
                    clear hz0
                    go_wp2_with (go_at_call 19; refine hrd.mono ?_; rintro e w9 ⟨rfl, hb9⟩)
                    go_roundw
                    case rel => exact ⟨k + 1, by omega, by go_num, hL8.below hb9, hB8.trans (hb9.mono hB8.size)⟩
                    case measure => simp [intOf]; omega
                · have hsz := HSZ.out _ _ hL8
                  have hdn := HDN.out _ _ hL8
                  go_wp2_with (first
                    | (go_at_call 15; refine hsz.mono ?_; rintro e w9 ⟨rfl, rfl⟩)
                    | (go_at_call 21; refine hdn.mono ?_; rintro e w9 ⟨rfl, rfl⟩))
                  go_ret
                  exact ⟨rfl, hB8⟩

set_option maxRecDepth 100000 in
set_option maxHeartbeats 1000000 in
theorem walk (v0 : Value) (ss : List ByteArray) (v1 : Value) (ts : List ByteArray) (v2 : Value) (zs : List Int) (w : World) (h0 : Strs w v0 ss) (h1 : Strs w v1 ts) (h2 : Fts w v2 zs) :
    Calls Try.prog 6 #[v0, v1, v2] w fun e w' => e = .returned (.bool true) ∧ Below w.heap.size w w' := by
  obtain ⟨a0, cap0, e0, hm0, q0⟩ := id h0
  obtain ⟨a1, cap1, e1, hm1, q1⟩ := id h1
  obtain ⟨a2, cap2, e2, hm2, q2⟩ := id h2
  subst e0 e1 e2
  clear q0 q1 q2
  unfold maxLen at hm0 hm1 hm2
  by_cases hl0 : ss.length ≤ 16
  · have hd0 : decide ((16 : Int) < (ss.length : Int)) = false := by simp; omega
    by_cases hl1 : ts.length ≤ 16
    · have hd1 : decide ((16 : Int) < (ts.length : Int)) = false := by simp; omega
      by_cases hl2 : zs.length ≤ 60
      · exact walkA a0 a1 a2 cap0 cap1 cap2 ss ts zs w h0 h1 h2 hl0 hl1 hl2
      · have hd2 : decide ((60 : Int) < (zs.length : Int)) = true := by simp; omega
        clear h0 h1 h2
        go_enter Try.func6, Try.ntmps6
        go_wp2_with (go_at_call 8; refine (head_any _).mono ?_; rintro e w1 ⟨rfl, hb1⟩)
        go_ret
        exact ⟨rfl, hb1⟩
    · have hd1 : decide ((16 : Int) < (ts.length : Int)) = true := by simp; omega
      clear h0 h1 h2
      go_enter Try.func6, Try.ntmps6
      go_wp2_with (go_at_call 8; refine (head_any _).mono ?_; rintro e w1 ⟨rfl, hb1⟩)
      go_ret
      exact ⟨rfl, hb1⟩
  · have hd0 : decide ((16 : Int) < (ss.length : Int)) = true := by simp; omega
    clear h0 h1 h2
    go_enter Try.func6, Try.ntmps6
    go_wp2_with (go_at_call 8; refine (head_any _).mono ?_; rintro e w1 ⟨rfl, hb1⟩)
    go_ret
    exact ⟨rfl, hb1⟩

theorem own : ownKnob Try.prog.godebug = none := by kernel_rfl
theorem laidOut : laidOutB Try.prog = true := by kernel_rfl

set_option maxRecDepth 100000 in
theorem lifted (os : Os) (started : os.Started) (H : Type) (enc : TypeId × Value → H) :
    ReturnsInHanded {} Try.checked os 6 .any (Rows.devFlushesSpec.pre6 enc Try.prog Try.f6 Rows.devFlushesRow.domain false) (Rows.devFlushesSpec.post enc Try.prog Try.f6 false true false false) := by
  refine returnsInHanded_of_change (C := Try.checked) own started (by kernel_rfl) Try.func6
    (ChangeSpec.witness6 (enc := enc) (C := Try.checked) false ⟨#[], #[.slice none 0 0, .slice none 0 0, .slice none 0 0], []⟩ 8 (by kernel_rfl) (by kernel_rfl) (by kernel_rfl) (by kernel_rfl)) ?_
  intro W base args ds gs before hval0 hW hcnd _
  have hval : ∀ (j : Nat) t v, Try.f6.params[j]? = some t → args[j]? = some v → Value.okWide Try.prog W .any base t v := hval0
  have hW' := hW
  obtain ⟨p, q, hA0, hV, rfl, hfz, hnd⟩ := hW
  have hA : DataW.TrodAll enc Try.prog W 0 (fun _ => true) true Try.f6.params.toList args.toList ds p := hA0
  rw [Try.params6] at hA hval
  obtain ⟨v0, vs0, d0, ds0, p0, q0, hargs, rfl, rfl, h0, r0⟩ := trodAll_cons hA
  obtain ⟨v1, vs1, d1, ds1, p1, q1, rfl, rfl, rfl, h1, r1⟩ := trodAll_cons r0
  obtain ⟨v2, vs2, d2, ds2, p2, q2, rfl, rfl, rfl, h2, r2⟩ := trodAll_cons r1
  obtain ⟨rfl, rfl, rfl⟩ := trodAll_nil r2
  obtain rfl : args = #[v0, v1, v2] := by cases args; simp_all
  obtain ⟨rfl, rfl⟩ := trodVars_none hV
  have k0 := h0
  have lt0 : ∀ x ∈ p0, x.block < W.heap.size := by obtain ⟨m, hm⟩ := k0; exact DataW.trod_lt m _ _ _ hm
  obtain ⟨z0, w0⟩ := strs_of (hval 0 43 v0 rfl rfl) h0
  have k1 := h1
  have lt1 : ∀ x ∈ p1, x.block < W.heap.size := by obtain ⟨m, hm⟩ := k1; exact DataW.trod_lt m _ _ _ hm
  obtain ⟨z1, w1⟩ := strs_of (hval 1 43 v1 rfl rfl) h1
  have k2 := h2
  have lt2 : ∀ x ∈ p2, x.block < W.heap.size := by obtain ⟨m, hm⟩ := k2; exact DataW.trod_lt m _ _ _ hm
  obtain ⟨z2, w2⟩ := fts_of (hval 2 37 v2 rfl rfl) h2
  clear hA0 hval0
  refine (walk v0 z0 v1 z1 v2 z2 W w0 w1 w2).mono fun e W' ⟨he, bel⟩ => ?_
  subst he
  exact ⟨_, rfl, _, _, _, [], _, [], hW', trodAll_mk1 (shut_bool Try.underlying4 _), (trodAll_cons_mk (Below.trod laidOut (by kernel_rfl) (of_decide_eq_true (by kernel_rfl)) k0 bel lt0) (trodAll_cons_mk (Below.trod laidOut (by kernel_rfl) (of_decide_eq_true (by kernel_rfl)) k1 bel lt1) (trodAll_cons_mk (Below.trod laidOut (by kernel_rfl) (of_decide_eq_true (by kernel_rfl)) k2 bel lt2) trodAll_mk0))), rfl, bel.frame _, fun h => by cases h⟩

theorem over : Rows.devFlushesRow.holds Try.pinned (OpenSpec.ofChange Rows.devFlushesSpec) :=
  OpenClaim.holds_of_wide 6 Try.f6 rfl rfl rfl rfl rfl rfl rfl ⟨rfl, rfl, rfl, rfl, rfl⟩ rfl rfl rfl rfl rfl (by kernel_rfl) Try.func6 (by kernel_rfl)
    (of_decide_eq_true (by kernel_rfl)) (by unfold Func.isWrapper; first | (rw [if_pos (by decide +kernel)]; kernel_rfl) | (rw [if_neg (by decide +kernel)]; exact ⟨rfl, rfl⟩))
    (fun os started H enc _ => lifted os started H enc)

theorem proved : Rows.DevFlushesSaid := over
end Go.Proofs.Ytmfkbddfjfjfkaa.devFlushes
