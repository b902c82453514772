/- A book in memory; New, Watches. No conditions beyond those in each statement. -/
import Derived.Test.YtbbdokfankgllaaGreatDoorWCl
import Derived.Test.YtbbdokfankgllaaGreatDoorWMap
namespace Go.Proofs.YtbbdokfankgllaaGreatDoor
open Go.RowKit Go.Maps
set_option linter.unusedVariables false
set_option maxRecDepth 100000

/-- Where the first that does not come before t is. -/
def posF (L : List Wa) (t : Wa) : Nat := (L.takeWhile fun x => decide (orderF x t < 0)).length
theorem found_uniq {L : List Wa} {t : Wa} {i j : Nat} (h1 : Found L t i) (h2 : Found L t j) : i = j := by
  by_cases hlt : i < j
  · obtain ⟨x, hx⟩ : ∃ x, L[i]? = some x := ⟨L[i]'(by have := h2.le; omega), by simp⟩
    exact absurd (h2.low i x hlt hx) (h1.high i x (Nat.le_refl _) hx)
  · by_cases hgt : j < i
    · obtain ⟨x, hx⟩ : ∃ x, L[j]? = some x := ⟨L[j]'(by have := h1.le; omega), by simp⟩
      exact absurd (h1.low j x hgt hx) (h2.high j x (Nat.le_refl _) hx)
    · omega
theorem Mono.tail {x : Wa} {L : List Wa} {t : Wa} (h : Mono (x :: L) t) : Mono L t := fun i j a b hij hi hj hl => h (i + 1) (j + 1) a b (by omega) (by simpa using hi) (by simpa using hj) hl
theorem found_pos : ∀ (L : List Wa) (t : Wa), Mono L t → Found L t (posF L t)
  | [], t, _ => ⟨Nat.le_refl _, fun k x h hx => by simp at hx, fun k x h hx => by simp at hx⟩
  | x :: L, t, h => by
    have ih := found_pos L t h.tail
    unfold posF at ih ⊢
    rw [List.takeWhile_cons]
    by_cases hx : orderF x t < 0
    · rw [if_pos (by simpa using hx), List.length_cons]
      refine ⟨by have := ih.le; simp only [List.length_cons]; omega, fun k y hk hy => ?_, fun k y hk hy => ?_⟩
      · cases k with
        | zero => simp at hy; rw [← hy]; exact hx
        | succ k => exact ih.low k y (by omega) (by simpa using hy)
      · cases k with
        | zero => omega
        | succ k => exact ih.high k y (by omega) (by simpa using hy)
    · rw [if_neg (by simpa using hx)]
      refine ⟨Nat.zero_le _, fun k y hk hy => by simp at hk, fun k y hk hy hl => hx ?_⟩
      exact h 0 k x y (Nat.zero_le _) (by simp) hy hl
theorem WRow.rd {w : World} {base : Nat} {a : Option Addr} {c : Nat} {L : List Wa} (h : WRow w base (.slice a L.length c) L) : WaRd w a L := by
  intro j x hx
  obtain ⟨a', c', hv, hg, _⟩ := waV_form h
  injection hv with hv1 _ hv2
  subst hv1 hv2
  obtain ⟨g, rfl, hgw, _⟩ := hg (by have := (List.getElem?_eq_some_iff.1 hx).1; omega)
  exact ⟨g, rfl, hgw, waC0 h hx rfl, waC1 h hx rfl, waC2 h hx rfl, waC3 h hx rfl⟩
theorem bs_pos (base : Nat) (v : Value) (L : List Wa) (t : Wa) (w : World) (hL : L.length ≤ 1000) (hr : WRow w base v L) (hm : Mono L t) :
    Calls Tryz.prog 39 #[v, waV t, .func (.func 40) #[] #[]] w fun e w' => e = .returned (.tuple #[.int .i64 (posF L t : Nat), .bool (isB L t (posF L t))]) ∧ Below w.heap.size w w' := by
  obtain ⟨a, c, rfl, _, _⟩ := waV_form hr
  refine (bs_any a c L t w hL hr.rd hm).mono ?_
  rintro e w' ⟨i, rfl, hf, hb⟩
  rw [found_uniq hf (found_pos L t hm)]
  exact ⟨rfl, hb⟩
/-- A book in memory, from base on. -/
structure BkW (w : World) (base bb : Nat) (vw ve vm : Value) (Ws : List Wa) (Es : List Ev) (k c : Nat) (N : Int → Option Int) : Prop where
  box : w.heap[bb]? = some (.cells #[vw, ve, vm] 56 (0, 0))
  ws : WRow w base vw Ws
  es : ERow w base ve Es
  last : (vm = .map none ∧ N = (fun _ => none) ∧ c = 0) ∨ ∃ mb, vm = .map (some mb) ∧ MapN w mb k c N ∧ base ≤ mb
  lo : base ≤ bb ∧ base ≤ w.heap.size
section
variable {w w' : World} {base bb : Nat} {vw ve vm : Value} {Ws : List Wa} {Es : List Ev} {k c : Nat} {N : Int → Option Int}
theorem BkW.lt (h : BkW w base bb vw ve vm Ws Es k c N) : bb < w.heap.size := (Array.getElem?_eq_some_iff.1 h.box).1
theorem BkW.below (h : BkW w base bb vw ve vm Ws Es k c N) (hb : Below w.heap.size w w') : BkW w' base bb vw ve vm Ws Es k c N := by
  refine ⟨(hb.block bb h.lt).trans h.box, h.ws.below hb, h.es.below hb, h.last.imp id ?_, h.lo.1, Nat.le_trans h.lo.2 hb.size⟩
  rintro ⟨mb, h1, h2, h3⟩
  exact ⟨mb, h1, h2.below hb, h3⟩
theorem BkW.c0 (h : BkW w base bb vw ve vm Ws Es k c N) : w.cell? ⟨bb, 0, none⟩ = some vw := by simp [World.cell?, h.box]
theorem BkW.c1 (h : BkW w base bb vw ve vm Ws Es k c N) : w.cell? ⟨bb, 1, none⟩ = some ve := by simp [World.cell?, h.box]
theorem BkW.c2 (h : BkW w base bb vw ve vm Ws Es k c N) : w.cell? ⟨bb, 2, none⟩ = some vm := by simp [World.cell?, h.box]
theorem BkW.frz (h : BkW w base bb vw ve vm Ws Es k c N) (i : Nat) : w.frozen? ⟨bb, i, none⟩ = false := by simp [World.frozen?, h.box]
end
theorem bnew_any (w : World) : Calls Tryz.prog 6 #[] w fun e w' => e = .returned (.pointer (some ⟨w.heap.size, 0, none⟩)) ∧ BkW w' w.heap.size w.heap.size (.slice none 0 0) (.slice none 0 0) (.map none) [] [] 0 0 (fun _ => none) ∧ Below w.heap.size w w' := by
  have hb := (Below.refl w.heap.size w).alloc (Nat.le_refl _) (.cells #[.slice none 0 0, .slice none 0 0, .map none] 56)
  have hn := heap_alloc_new w (.cells #[.slice none 0 0, .slice none 0 0, .map none] 56)
  go_enter Tryz.func6, Tryz.ntmps6
  go_wp2_with fail
  go_ret
  exact ⟨rfl, ⟨hn, World.ownsRow_nil _ _ _ _, World.ownsRow_nil _ _ _ _, .inl ⟨rfl, rfl, rfl⟩, Nat.le_refl _, hb.size⟩, hb⟩
theorem watches_any (base bb : Nat) (vw ve vm : Value) (Ws : List Wa) (Es : List Ev) (k c : Nat) (N : Int → Option Int) (w : World) (h : BkW w base bb vw ve vm Ws Es k c N) (hl : Ws.length ≤ 1000) :
    Calls Tryz.prog 14 #[.pointer (some ⟨bb, 0, none⟩)] w fun e w' => ∃ v', e = .returned v' ∧ WRow w' w.heap.size v' Ws ∧ Below w.heap.size w w' := by
  have HC := Lib.hid (cl_wa base vw Ws w h.ws (by omega))
  have x0 := h.c0
  obtain ⟨a, cc, rfl, _, _⟩ := waV_form h.ws
  clear h
  go_enter Tryz.func14, Tryz.ntmps14
  go_wp2_with fail
  refine HC.out.mono ?_
  rintro e w1 ⟨v1, rfl, hr, hb⟩
  have HR := Lib.hid hr
  obtain ⟨a1, c1, rfl, _, _⟩ := waV_form hr
  clear hr
  go_wp2_with fail
  go_ret
  exact ⟨_, rfl, HR.out, hb⟩
set_option maxHeartbeats 4000000 in
theorem events_any (base bb : Nat) (vw ve vm : Value) (Ws : List Wa) (Es : List Ev) (k c : Nat) (N : Int → Option Int) (s : Int) (w : World) (h : BkW w base bb vw ve vm Ws Es k c N) (hl : Es.length ≤ 100000) :
    Calls Tryz.prog 18 #[.pointer (some ⟨bb, 0, none⟩), .int .i64 s] w fun e w' => ∃ v', e = .returned v' ∧ ERow w' w.heap.size v' (Es.filter fun x => x.ses == s) ∧ Below w.heap.size w w' := by
  obtain ⟨i1, hi1, hz1, hz2, hz3⟩ := info_parts info_ev
  have HE := Lib.hid h.es
  have x0 := h.c1
  obtain ⟨a, cc, rfl, hga, hlc⟩ := evV_form h.es
  have HG := Lib.hid hga
  clear h hga hlc
  go_enter Tryz.func18, Tryz.ntmps18
  go_wp2_with fail
  go_loopw [5, 7, 15] (fun ov _ iv wr => ∃ (vv : Value) (j : Nat), vv = ov ∧ j ≤ Es.length ∧ iv = .int .i64 j ∧ ERow wr w.heap.size ov ((Es.take j).filter fun x => x.ses == s) ∧ Below w.heap.size w wr) (fun _ _ iv _ => Es.length - (intOf iv).toNat)
  case atStart => exact ⟨_, 0, rfl, by omega, rfl, World.ownsRow_nil _ _ _ _, Below.refl _ _⟩
  case round =>
    obtain ⟨vv, j, hvv, hj, rfl, hO, bk⟩ := hrel
    subst hvv
    by_cases hlt : j < Es.length
    · have hlt2 : decide ((j : Int) < (Es.length : Int)) = true := by simp; omega
      obtain ⟨y, hy⟩ : ∃ y, Es[j]? = some y := ⟨Es[j], by simp [hlt]⟩
      obtain ⟨g, rfl, hgw, _⟩ := HG.out (by omega)
      have hrw := HE.out.below bk
      have y0 := evC0 hrw hy rfl
      have y1 := evC1 hrw hy rfl
      have y2 := evC2 hrw hy rfl
      have y3 := evC3 hrw hy rfl
      have y4 := evC4 hrw hy rfl
      have hj0 : (0 : Int) ≤ (j : Int) := by omega
      have hji : (j : Int) < (Es.length : Int) := by omega
      have t2 : IntKind.i64.wrap ((j : Int) + 1) = (j : Int) + 1 := IntWalk.i64_in _ (by omega)
      have HST := Lib.hid (filter_take_succ (fun x => x.ses == s) Es j y hy)
      have hfl : ((Es.take j).filter fun x => x.ses == s).length ≤ j := by
        have := List.length_filter_le (fun x : Ev => x.ses == s) (Es.take j)
        rw [List.length_take] at this; omega
      have bA := bk.alloc bk.size (.cells #[.int .i64 y.ses, .int .i64 y.no, .string y.path, .int .i64 y.what, .int .i64 y.when] 54)
      have bA0 := (Below.refl _ wr).alloc (Nat.le_refl _) (.cells #[.int .i64 y.ses, .int .i64 y.no, .string y.path, .int .i64 y.what, .int .i64 y.when] 54)
      have OA := hO.below bA0
      obtain ⟨F, hF⟩ : ∃ F, F = (Es.take j).filter fun x => x.ses == s := ⟨_, rfl⟩
      rw [← hF] at HST OA hfl
      cases hq : y.ses == s with
      | false =>
        have HF : Hid ((Es.take (j + 1)).filter (fun x => x.ses == s) = F) := Lib.hid (by rw [HST.out, if_neg (by rw [hq]; decide), List.append_nil])
        have HO := Lib.hid OA
        clear HST OA hrw hy hO hF
        go_wp2_with fail
        go_roundw
        case rel => exact ⟨_, j + 1, rfl, by omega, by go_num, by rw [HF.out]; exact HO.out, bA⟩
        case measure => simp [intOf]; omega
      | true =>
        have HF : Hid ((Es.take (j + 1)).filter (fun x => x.ses == s) = F ++ [y]) := Lib.hid (by rw [HST.out, if_pos hq])
        obtain ⟨w5, hw5⟩ : ∃ w5, w5 = wr.alloc (.cells #[.int .i64 y.ses, .int .i64 y.no, .string y.path, .int .i64 y.what, .int .i64 y.when] 54) := ⟨_, rfl⟩
        have N5 := heap_alloc_new wr (.cells #[.int .i64 y.ses, .int .i64 y.no, .string y.path, .int .i64 y.what, .int .i64 y.when] 54)
        rw [← hw5] at OA bA N5
        have HO := Lib.hid OA
        have HBA := Lib.hid bA
        have HW5 := Lib.hid hw5
        obtain ⟨oa, oc, hov, _, _⟩ := evV_form OA
        clear HST OA hrw hy hO hF bA hw5
        subst hov
        go_upto_region 8 with fail
        rw [← HW5.out]
        have n0 : w5.cell? ⟨wr.heap.size, 0, none⟩ = some (.int .i64 y.ses) := by simp [World.cell?, N5]
        have n1 : w5.cell? ⟨wr.heap.size, 1, none⟩ = some (.int .i64 y.no) := by simp [World.cell?, N5]
        have n2 : w5.cell? ⟨wr.heap.size, 2, none⟩ = some (.string y.path) := by simp [World.cell?, N5]
        have n3 : w5.cell? ⟨wr.heap.size, 3, none⟩ = some (.int .i64 y.what) := by simp [World.cell?, N5]
        have n4 : w5.cell? ⟨wr.heap.size, 4, none⟩ = some (.int .i64 y.when) := by simp [World.cell?, N5]
        have b6 := (Below.refl _ w5).alloc (Nat.le_refl _) (.cells #[.int .i64 y.ses, .int .i64 y.no, .string y.path, .int .i64 y.what, .int .i64 y.when] 54)
        have N6 := heap_alloc_new w5 (.cells #[.int .i64 y.ses, .int .i64 y.no, .string y.path, .int .i64 y.what, .int .i64 y.when] 54)
        have O6 := Lib.hid (HO.out.below b6)
        obtain ⟨w6, hw6⟩ : ∃ w6, w6 = w5.alloc (.cells #[.int .i64 y.ses, .int .i64 y.no, .string y.path, .int .i64 y.what, .int .i64 y.when] 54) := ⟨_, rfl⟩
        rw [← hw6] at b6 N6 O6
        have HC : Hid (∀ j u, (evOne y)[j]? = some u → w6.cell? ((⟨w5.heap.size, 0, none⟩ : Addr).add j) = some u) := Lib.hid fun j u hu => by
          rw [show (⟨w5.heap.size, 0, none⟩ : Addr).add j = ⟨w5.heap.size, j, none⟩ by rw [Addr.add_lit, Nat.zero_add]]
          match j, hu with
          | 0, hu => simp [evOne] at hu; rw [← hu]; simp [World.cell?, N6]
          | 1, hu => simp [evOne] at hu; rw [← hu]; simp [World.cell?, N6]
          | 2, hu => simp [evOne] at hu; rw [← hu]; simp [World.cell?, N6]
          | 3, hu => simp [evOne] at hu; rw [← hu]; simp [World.cell?, N6]
          | 4, hu => simp [evOne] at hu; rw [← hu]; simp [World.cell?, N6]
          | n + 5, hu => simp [evOne] at hu
        have HW6 := Lib.hid hw6
        have HB6 := Lib.hid (HBA.out.trans (b6.mono HBA.out.size))
        clear hw6 b6 N6 N5
        go_wp2_with (at_builtin; rw [← HW6.out]; refine wpList_append_own _ rfl _ _ _ rfl w.heap.size 54 i1 _ 5 48 und_evs hi1 hz1 hz2 hz3 rfl (by decide) (.slice oa F.length oc) F.length (cellsK evOne F) rfl O6.out ⟨w5.heap.size, 0, none⟩ 1 1 (evOne y) rfl rfl HC.out (evOne_one y) (by unfold maxLen; omega) (by omega) HB6.out.size ?_; intro v8 w8 hown8 hgrow8 hiff8; go_frame)
        have O8 : ERow w8 w.heap.size v8 (F ++ [y]) := by
          unfold ERow
          rw [cellsK_append, List.length_append]
          simpa [cellsK] using hown8
        have b8 := HB6.out.grown hgrow8 HB6.out.size (fun q hq => (O6.out.lt q hq).1)
        have HO8 := Lib.hid O8
        clear hown8 hgrow8 hiff8 O8
        go_wp2_with fail
        go_roundw
        case rel => exact ⟨_, j + 1, rfl, by omega, by go_num, by rw [HF.out]; exact HO8.out, b8⟩
        case measure => simp [intOf]; omega
    · obtain rfl : j = Es.length := by omega
      have hlt2 : decide ((Es.length : Int) < (Es.length : Int)) = false := by simp
      rw [List.take_length] at hO
      go_wp2_with fail
      go_ret
      exact ⟨_, rfl, hO, bk⟩
end Go.Proofs.YtbbdokfankgllaaGreatDoor
