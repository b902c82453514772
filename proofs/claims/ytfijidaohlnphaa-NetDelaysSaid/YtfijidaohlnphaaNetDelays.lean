/- NetDelays: a message comes just when its time has come. No condition on the input. -/
import Derived.Test.YtfijidaohlnphaaNArgs
import Derived.Test.YtfijidaohlnphaaRows
import Derived.ProofKit
import Derived.OpenShut
import Derived.ShutString
import Derived.ChangeOld
import Derived.Deep.DeepHandedRow
import Derived.Lib.LaidTab
import Derived.Stop.LaidErr
import Derived.Lay
namespace Go.Proofs.Ytfijidaohlnphaa.netDelays
open Go.ChangeShapes Go.WideShapes Go.ChangeAt Go.RowKit
open Go.ChangeMaps (open_string shut_string)
set_option linter.unusedVariables false
set_option maxRecDepth 100000
/-- Which flights are still there at time t, behind the one of number last. -/
def stay (t : Nat) (last : Int) (f : Fl) : Bool := decide ((t : Int) < f.due ∨ (f.due = t ∧ last < f.m.ix))
/-- The flights of the law, in their order. -/
structure DlF (zs : List Int) (G : List Fl) : Prop where
  len : G.length ≤ zs.length
  at_ : ∀ j (hj : j < G.length), G[j].due = zs.getD j 0 % 16 ∧ G[j].m.ix = (j : Int)
theorem DlF.snoc {zs : List Int} {G : List Fl} (h : DlF zs G) {f : Fl} (hl : G.length < zs.length) (h1 : f.due = zs.getD G.length 0 % 16) (h2 : f.m.ix = (G.length : Int)) : DlF zs (G ++ [f]) := by
  refine ⟨by simp; omega, fun j hj => ?_⟩
  by_cases e : j < G.length
  · rw [List.getElem_append_left e]; exact h.at_ j e
  · rw [List.length_append, List.length_singleton] at hj
    obtain rfl : j = G.length := by omega
    simp only [List.getElem_append_right (Nat.le_refl _), Nat.sub_self, List.getElem_cons_zero]
    exact ⟨h1, h2⟩
theorem DlF.mem {zs : List Int} {G : List Fl} (h : DlF zs G) {f : Fl} (hf : f ∈ G) : ∃ j : Nat, j < G.length ∧ f.m.ix = (j : Int) ∧ f.due = zs.getD j 0 % 16 := by
  obtain ⟨j, hj, rfl⟩ := List.getElem_of_mem hf
  exact ⟨j, hj, (h.at_ j hj).2, (h.at_ j hj).1⟩
theorem DlF.inc {zs : List Int} {G : List Fl} (h : DlF zs G) : G.Pairwise fun a b => a.m.ix < b.m.ix :=
  List.pairwise_iff_getElem.2 fun i j hi hj hij => by rw [(h.at_ i hi).2, (h.at_ j hj).2]; omega
theorem DlF.start {zs : List Int} {G : List Fl} (h : DlF zs G) : G.filter (stay 0 (-1)) = G := by
  refine List.filter_eq_self.2 fun f hf => ?_
  obtain ⟨j, _, h1, h2⟩ := h.mem hf
  unfold stay
  rw [decide_eq_true_iff, h1, h2]
  omega
/-- The first one that is due, if there is any. -/
theorem first_due (t : Nat) : ∀ H : List Fl, (∀ f ∈ H, (t : Int) ≤ f.due) → (∀ f ∈ H, (t : Int) < f.due) ∨ ∃ A f B, H = A ++ f :: B ∧ f.due = (t : Int) ∧ (∀ g ∈ A, (t : Int) < g.due) ∧ ∀ g ∈ B, (t : Int) ≤ g.due
  | [], _ => .inl (fun f hf => by cases hf)
  | f :: H, h => by
    by_cases hd : f.due = (t : Int)
    · exact .inr ⟨[], f, H, rfl, hd, (fun g hg => by cases hg), fun g hg => h g (List.mem_cons_of_mem _ hg)⟩
    · have hf := h f (List.mem_cons_self ..)
      rcases first_due t H (fun g hg => h g (List.mem_cons_of_mem _ hg)) with h1 | ⟨A, f', B, h1, h2, h3, h4⟩
      · refine .inl fun g hg => ?_
        rcases List.mem_cons.1 hg with rfl | hg
        · omega
        · exact h1 g hg
      · refine .inr ⟨f :: A, f', B, by rw [h1]; rfl, h2, fun g hg => ?_, h4⟩
        rcases List.mem_cons.1 hg with rfl | hg
        · omega
        · exact h3 g hg
theorem stay_step {t : Nat} {last : Int} {G A B : List Fl} {f : Fl} (hi : G.Pairwise fun a b => a.m.ix < b.m.ix) (h : G.filter (stay t last) = A ++ f :: B) (hd : f.due = t) (hA : ∀ g ∈ A, (t : Int) < g.due) (hB : ∀ g ∈ B, (t : Int) ≤ g.due) : last < f.m.ix ∧ G.filter (stay t f.m.ix) = A ++ B := by
  have hf : f ∈ G.filter (stay t last) := by rw [h]; simp
  have hs := (List.mem_filter.1 hf).2
  unfold stay at hs
  rw [decide_eq_true_iff] at hs
  have hl : last < f.m.ix := by omega
  refine ⟨hl, ?_⟩
  have e : G.filter (stay t f.m.ix) = (G.filter (stay t last)).filter (stay t f.m.ix) := by
    rw [List.filter_filter]
    refine List.filter_congr fun g hg => ?_
    rw [Bool.eq_iff_iff, Bool.and_eq_true]
    unfold stay
    simp only [decide_eq_true_iff]
    omega
  rw [e, h, List.filter_append]
  have hp : (A ++ f :: B).Pairwise fun a b => a.m.ix < b.m.ix := by rw [← h]; exact hi.sublist List.filter_sublist
  have hp2 := (List.pairwise_cons.1 (List.pairwise_append.1 hp).2.1).1
  have ef : stay t f.m.ix f = false := by unfold stay; rw [decide_eq_false_iff_not]; omega
  rw [List.filter_cons_of_neg (by rw [ef]; decide), List.filter_eq_self.2 (fun g hg => ?_), List.filter_eq_self.2 (fun g hg => ?_)]
  · unfold stay; rw [decide_eq_true_iff]; have := hB g hg; have := hp2 g hg; omega
  · unfold stay; rw [decide_eq_true_iff]; have := hA g hg; omega
theorem stay_next {t : Nat} {last : Int} {zs : List Int} {G : List Fl} (hG : DlF zs G) (h : ∀ f ∈ G.filter (stay t last), (t : Int) < f.due) : G.filter (stay (t + 1) (-1)) = G.filter (stay t last) := by
  refine List.filter_congr fun g hg => ?_
  obtain ⟨j, _, h1, h2⟩ := hG.mem hg
  rw [Bool.eq_iff_iff]
  constructor
  · intro hs
    unfold stay at hs ⊢
    rw [decide_eq_true_iff] at hs ⊢
    omega
  · intro hs
    have := h g (List.mem_filter.2 ⟨hg, hs⟩)
    unfold stay
    rw [decide_eq_true_iff]
    omega
theorem stay_end {zs : List Int} {G : List Fl} (hG : DlF zs G) : G.filter (stay 17 (-1)) = [] := by
  refine List.filter_eq_nil_iff.2 fun g hg => ?_
  obtain ⟨j, _, h1, h2⟩ := hG.mem hg
  unfold stay
  rw [decide_eq_true_iff]
  omega
theorem stay_due {t : Nat} {last : Int} {G : List Fl} : ∀ f ∈ G.filter (stay t last), (t : Int) ≤ f.due := by
  intro f hf
  have hs := (List.mem_filter.1 hf).2
  unfold stay at hs
  rw [decide_eq_true_iff] at hs
  omega
/-- The state of the two loops that take. -/
structure DlS (W w : World) (nb : Nat) (zs : List Int) (G : List Fl) (t : Nat) (last : Int) (c : Nat) : Prop where
  net : NetX w nb nb t G.length (G.filter (stay t last))
  bel : Below W.heap.size W w
  cnt : c + (G.filter (stay t last)).length = G.length
  dlf : DlF zs G
  all : G.length = zs.length
set_option maxHeartbeats 16000000 in
theorem walk (v : Value) (zs : List Int) (W : World) (hz : IntsR W v zs) : Calls Try.prog 5 #[v] W fun e w' => e = .returned (.bool true) ∧ Below W.heap.size W w' := by
  have HH := Lib.hid (head_any W)
  obtain ⟨a, cc, rfl, hz⟩ := hz
  have HZ := Lib.hid hz
  clear hz
  go_enter Try.func5, Try.ntmps5
  go_wp2_with fail
  refine HH.out.mono ?_
  rintro e w1 ⟨rfl, b1⟩
  by_cases hbig : 40 < zs.length
  · have q1 : decide ((40 : Int) < (zs.length : Int)) = true := by simp; omega
    have HB1 := Lib.hid b1
    clear HH b1 hbig
    go_wp2_with fail
    go_ret
    exact ⟨rfl, HB1.out⟩
  · have q1 : decide ((40 : Int) < (zs.length : Int)) = false := by simp; omega
    have HL : Hid (zs.length ≤ 40) := Lib.hid (by omega)
    have N1 := NetX.new (base := w1.heap.size) (heap_alloc_new w1 (.cells #[.int .i64 0, .int .i64 0, .slice none 0 0] 28)) (Nat.le_refl _)
    have bA := (Below.refl w1.heap.size w1).alloc (Nat.le_refl _) (.cells #[.int .i64 0, .int .i64 0, .slice none 0 0] 28)
    have HN2 := Lib.hid N1
    have HB2 := Lib.hid (b1.trans (bA.mono b1.size))
    have HS1 := Lib.hid b1.size
    clear N1 bA b1 HH hbig
    go_wp2_with fail
    obtain ⟨nb, hnb⟩ : ∃ nb, nb = w1.heap.size := ⟨_, rfl⟩
    rw [← hnb] at HN2 HS1 ⊢
    have HNB := Lib.hid hnb
    clear hnb
    go_loopw [20] (fun iv wr => ∃ (i : Nat) (G : List Fl), iv = .int .i64 i ∧ i ≤ zs.length ∧ Hid (G.length = i) ∧ Hid (DlF zs G) ∧ Hid (NetX wr nb nb 0 G.length G) ∧ Hid (Below W.heap.size W wr)) (fun iv _ => zs.length - (intOf iv).toNat)
    case atStart => exact ⟨0, [], rfl, Nat.zero_le _, Lib.hid rfl, Lib.hid ⟨Nat.zero_le _, fun j hj => absurd hj (Nat.not_lt_zero _)⟩, HN2, HB2⟩
    case round =>
      obtain ⟨i, G, rfl, hin, HG, HD, HN, HB⟩ := hrel
      clear HN2 HB2
      by_cases hlt : i < zs.length
      · have hlt2 : decide ((i : Int) < (zs.length : Int)) = true := by simp; omega
        obtain ⟨g, off, rfl, hg, hc⟩ := HZ.out i hlt
        have c1 := (HB.out.cell (p := ⟨g, off + i, none⟩) hg).trans hc
        obtain ⟨z, hz⟩ : ∃ z, z = zs.getD i 0 := ⟨_, rfl⟩
        rw [← hz] at c1
        have HZI := Lib.hid hz
        obtain ⟨u, hu16, hu⟩ : ∃ u : Nat, u < 16 ∧ bits .and .i64 z 15 = (u : Int) := ⟨(z % 16).toNat, by omega, by rw [i64_and15]; omega⟩
        have HU : Hid ((u : Int) = z % 16) := Lib.hid (by rw [← hu, i64_and15])
        obtain ⟨W3, hW3, N3, M3, b3⟩ := one_new HN.out i
        have HSD := Lib.hid (N3.send1 (by have := HG.out; have := HL.out; omega) u M3 (by decide) (by have := HG.out; have := HL.out; omega))
        have HB3 := Lib.hid (HB.out.trans (b3.mono HB.out.size))
        unfold mgA mgI at hW3
        simp only at hW3
        have HW3 := Lib.hid hW3
        have hi0 : (0 : Int) ≤ (i : Int) := by omega
        have hi1 : (i : Int) < (zs.length : Int) := by omega
        have e7 : wrap64 ((i : Int) + 1) = (i : Int) + 1 := IntWalk.wrap64_in _ (by have := HL.out; omega)
        clear hz hc hu16 N3 M3 b3 hW3
        go_wp2_with fail
        rw [← HW3.out]
        refine HSD.out.mono ?_
        rintro e w4 ⟨rfl, f, hf, N4, b4, k4⟩
        have HN4 : Hid (NetX w4 nb nb 0 ((G ++ [f]).length : Nat) (G ++ [f])) := Lib.hid (by
          have e : (((G ++ [f]).length : Nat) : Int) = (G.length : Int) + 1 := by rw [List.length_append]; rfl
          rw [e]; exact N4)
        have HB4 := Lib.hid (HB3.out.trans (b4.mono HS1.out))
        have HD4 : Hid (DlF zs (G ++ [f])) := Lib.hid (HD.out.snoc (by rw [HG.out]; exact hlt) (by
          have h1 := HU.out
          rw [hf.due, HG.out, ← HZI.out]
          omega) (by rw [hf.ix, HG.out]))
        have HG4 : Hid ((G ++ [f]).length = i + 1) := Lib.hid (by rw [List.length_append, HG.out]; rfl)
        clear HSD HN HB HB3 hf N4 b4 k4 HW3
        go_wp2_with fail
        go_roundw
        case rel => exact ⟨i + 1, G ++ [f], by rw [e7]; rfl, hlt, HG4, HD4, HN4, HB4⟩
        case measure =>
          show zs.length - (intOf (.int .i64 (wrap64 ((i : Int) + 1)))).toNat < zs.length - (intOf (.int .i64 (i : Int))).toNat
          rw [e7]
          simp [intOf]; omega
      · have hlt2 : decide ((i : Int) < (zs.length : Int)) = false := by simp; omega
        have hie : i = zs.length := by omega
        have HGL : Hid (G.length = zs.length) := Lib.hid (HG.out.trans hie)
        have hst := HD.out.start
        have HS0 : Hid (DlS W wr nb zs G 0 (-1) 0) := Lib.hid ⟨by rw [hst]; exact HN.out, HB.out, by rw [hst]; omega, HD.out, HGL.out⟩
        clear hie hst HN HB HG HD hin
        go_wp2_with fail
        clear hlt2 hlt
        go_loopw [6, 7] (fun cv tv wr => ∃ c t : Nat, cv = .int .i64 c ∧ tv = .int .i64 t ∧ t ≤ 17 ∧ Hid (DlS W wr nb zs G t (-1) c)) (fun _ tv _ => 17 - (intOf tv).toNat)
        case atStart => exact ⟨0, 0, rfl, rfl, by decide, HS0⟩
        case round =>
          obtain ⟨c, t, rfl, rfl, ht, HD⟩ := hrel
          clear HS0
          by_cases hlt : t < 17
          · have hlt2 : decide ((t : Int) < 17) = true := by simp; omega
            have HT := Lib.hid hlt
            clear hlt ht
            go_wp2_with fail
            go_loopw [6, 8] (fun cv lv wr => ∃ (c : Nat) (last : Int), cv = .int .i64 c ∧ lv = .int .i64 last ∧ Hid (DlS W wr nb zs G t last c)) (fun cv _ _ => zs.length - (intOf cv).toNat)
            case atStart => exact ⟨c, -1, rfl, rfl, HD⟩
            case round =>
              obtain ⟨c, last, rfl, rfl, HR⟩ := hrel
              clear HD
              rcases first_due t _ (stay_due (t := t) (last := last) (G := G)) with hnone | ⟨A, f, B, hH, hdue, hA, hB⟩
              · have HNX := Lib.hid (HR.out.net.late hnone)
                have HNO := Lib.hid hnone
                clear hnone
                go_wp2_with fail
                refine HNX.out.mono ?_
                rintro e w4 ⟨rfl, N4, b4, k4⟩
                obtain ⟨W5, hst5, N5, M5, b5, s5⟩ := got_new N4 0 0 0 0 none none Mg.zero
                have HB4 := Lib.hid (HR.out.bel.trans (b4.mono HS1.out))
                have HB5 := Lib.hid (HB4.out.trans (b5.mono HB4.out.size))
                have HPA := Lib.hid (N5.pass (by have := HT.out; omega))
                unfold mgV at hst5
                have HST := Lib.hid hst5
                have e7 : wrap64 ((t : Int) + 1) = (t : Int) + 1 := IntWalk.wrap64_in _ (by have := HT.out; omega)
                clear HNX N4 b4 k4 hst5 N5 M5 b5 s5
                unfold mgV
                go_wp2_with (first | (refine wpList_store_run HST.out rfl rfl rfl rfl ?_))
                refine HPA.out.mono ?_
                rintro e w6 ⟨rfl, N6, b6, k6⟩
                have HD6 : Hid (DlS W w6 nb zs G (t + 1) (-1) c) := Lib.hid ⟨by rw [stay_next HR.out.dlf HNO.out]; exact N6, HB5.out.trans (b6.mono HS1.out), by rw [stay_next HR.out.dlf HNO.out]; exact HR.out.cnt, HR.out.dlf, HR.out.all⟩
                clear HPA HST HB4 HB5 N6 b6 k6 HNO HR
                go_wp2_with fail
                go_roundw
                case rel => exact ⟨c, t + 1, rfl, by rw [e7]; rfl, HT.out, HD6⟩
                case measure =>
                  have := HT.out
                  show 17 - (intOf (.int .i64 (wrap64 ((t : Int) + 1)))).toNat < 17 - (intOf (.int .i64 (t : Int))).toNat
                  rw [e7]
                  simp [intOf]; omega
              · obtain ⟨hlast, hstep⟩ := stay_step HR.out.dlf.inc hH hdue hA hB
                have hfm : f ∈ G := (List.mem_filter.1 (show f ∈ G.filter (stay t last) by rw [hH]; simp)).1
                obtain ⟨j, hj, hix, hdu⟩ := HR.out.dlf.mem hfm
                have hjz : j < zs.length := by have := HR.out.all; omega
                have hcnt := HR.out.cnt
                have hlen : (G.filter (stay t last)).length = (A ++ B).length + 1 := by rw [hH]; simp; omega
                have hn := HR.out.net
                rw [hH] at hn
                have HNX := Lib.hid (NetX.next hn (by rw [hdue]; exact Int.le_refl _) (fun g hg => by rw [hdue]; exact hA g hg) (fun g hg => by rw [hdue]; exact hB g hg))
                obtain ⟨g, off, ha, hg, hc⟩ := HZ.out j hjz
                obtain ⟨z, hz⟩ : ∃ z, z = zs.getD j 0 := ⟨_, rfl⟩
                rw [← hz] at hc hdu
                have hand : bits .and .i64 z 15 = (t : Int) := by rw [i64_and15, ← hdu]; exact hdue
                have hcz : c < zs.length := by have := HR.out.all; omega
                have HSTEP := Lib.hid hstep
                have HCNT : Hid (c + 1 + (A ++ B).length = G.length) := Lib.hid (by omega)
                have HJZ := Lib.hid hjz
                have HLA := Lib.hid hlast
                have HCZ := Lib.hid hcz
                have HHC := Lib.hid hc
                have HIX := Lib.hid hix
                have HHG := Lib.hid hg
                have HHA := Lib.hid ha
                clear hlast hstep hfm hj hix hdu hjz hcnt hlen hn hz hcz hH hdue hA hB hc hg ha
                go_wp2_with fail
                refine HNX.out.mono ?_
                rintro e w4 ⟨rfl, N4, b4, k4⟩
                obtain ⟨W5, hst5, N5, M5, b5, s5⟩ := got_new N4 f.un f.uc f.vn f.vc f.ua f.va f.m
                have HB4 := Lib.hid (HR.out.bel.trans (b4.mono HS1.out))
                have HB5 := Lib.hid (HB4.out.trans (b5.mono HB4.out.size))
                have c4 := M5.cells.1.2.2.2.2.1
                rw [HIX.out] at c4
                have c9 := (HB5.out.cell (p := ⟨g, off + j, none⟩) HHG.out).trans HHC.out
                have HN5 := Lib.hid N5
                unfold mgV at hst5
                have HST := Lib.hid hst5
                have e7 : wrap64 ((c : Int) + 1) = (c : Int) + 1 := IntWalk.wrap64_in _ (by have := HCZ.out; have := HL.out; omega)
                have hjz := HJZ.out
                have d1 : decide ((j : Int) < 0) = false := decide_eq_false (by omega)
                have d2 : decide ((zs.length : Int) ≤ (j : Int)) = false := decide_eq_false (by omega)
                have d3 : decide ((j : Int) ≤ last) = false := decide_eq_false (by have := HLA.out; have := HIX.out; omega)
                have d4 : (0 : Int) ≤ (j : Int) := by omega
                have d5 : (j : Int) < (zs.length : Int) := by omega
                have d6 : ¬ ((j : Int) ≤ last) := of_decide_eq_false d3
                obtain rfl := HHA.out
                clear HNX N4 b4 k4 hst5 N5 M5 b5 s5
                unfold mgV Fl.u Fl.v
                go_wp2_with (first | (refine wpList_store_run HST.out rfl rfl rfl rfl ?_))
                go_roundw
                case rel =>
                  refine ⟨c + 1, j, by rw [e7]; rfl, rfl, Lib.hid ⟨?_, HB5.out, ?_, HR.out.dlf, HR.out.all⟩⟩
                  · have := HSTEP.out
                    rw [HIX.out] at this
                    rw [this]; exact HN5.out
                  · have := HSTEP.out
                    rw [HIX.out] at this
                    rw [this]; exact HCNT.out
                case measure =>
                  have := HCZ.out
                  show zs.length - (intOf (.int .i64 (wrap64 ((c : Int) + 1)))).toNat < zs.length - (intOf (.int .i64 (c : Int))).toNat
                  rw [e7]
                  simp [intOf]; omega
          · have hlt2 : decide ((t : Int) < 17) = false := by simp; omega
            obtain rfl : t = 17 := by omega
            have hse := stay_end HD.out.dlf
            have hn := HD.out.net
            rw [hse] at hn
            have HLN := Lib.hid hn.nlen
            have hce : c = zs.length := by have h1 := HD.out.all; have h2 := HD.out.cnt; rw [hse] at h2; simp at h2; omega
            have HB := Lib.hid HD.out.bel
            clear ht hse hn HD
            have hce2 : ((c : Int) == (zs.length : Int)) = true := by rw [hce]; simp
            clear hce
            go_wp2_with fail
            refine HLN.out.mono ?_
            rintro e w4 ⟨rfl, rfl⟩
            clear HLN
            go_wp2_with fail
            go_ret
            exact ⟨rfl, HB.out⟩

theorem own : ownKnob Try.prog.godebug = none := by kernel_rfl
theorem laidOut : laidOutB Try.prog = true := by kernel_rfl

set_option maxRecDepth 100000 in
theorem lifted (os : Os) (started : os.Started) (H : Type) (enc : TypeId × Value → H) :
    ReturnsInHanded {} Try.checked os 5 .any (Rows.netDelaysSpec.pre6 enc Try.prog Try.f5 Rows.netDelaysRow.domain false) (Rows.netDelaysSpec.post enc Try.prog Try.f5 false true false false) := by
  refine returnsInHanded_of_change (C := Try.checked) own started (by kernel_rfl) Try.func5
    (ChangeSpec.witness6 (enc := enc) (C := Try.checked) false ⟨#[], #[.slice none 0 0], []⟩ 8 (by kernel_rfl) (by kernel_rfl) (by kernel_rfl) (by kernel_rfl)) ?_
  intro W base args ds gs before hval0 hW hcnd _
  have hval : ∀ (j : Nat) t v, Try.f5.params[j]? = some t → args[j]? = some v → Value.okWide Try.prog W .any base t v := hval0
  have hW' := hW
  obtain ⟨p, q, hA0, hV, rfl, hfz, hnd⟩ := hW
  have hA : DataW.TrodAll enc Try.prog W 0 (fun _ => true) true Try.f5.params.toList args.toList ds p := hA0
  rw [Try.params5] at hA hval
  obtain ⟨v0, vs0, d0, ds0, p0, q0, hargs, rfl, rfl, h0, r0⟩ := trodAll_cons hA
  obtain ⟨rfl, rfl, rfl⟩ := trodAll_nil r0
  obtain rfl : args = #[v0] := by cases args; simp_all
  obtain ⟨rfl, rfl⟩ := trodVars_none hV
  have k0 := h0
  have lt0 : ∀ x ∈ p0, x.block < W.heap.size := by obtain ⟨m, hm⟩ := k0; exact DataW.trod_lt m _ _ _ hm
  obtain ⟨z0, w0⟩ := ints_of (hval 0 50 v0 rfl rfl) h0
  clear hA0 hval0
  refine (walk v0 z0 W w0).mono fun e W' ⟨he, bel⟩ => ?_
  subst he
  exact ⟨_, rfl, _, _, _, [], _, [], hW', trodAll_mk1 (shut_bool Try.underlying4 _), (trodAll_cons_mk (Below.trod laidOut (by kernel_rfl) (of_decide_eq_true (by kernel_rfl)) k0 bel lt0) trodAll_mk0), rfl, bel.frame _, fun h => by cases h⟩

theorem over : Rows.netDelaysRow.holds Try.pinned (OpenSpec.ofChange Rows.netDelaysSpec) :=
  OpenClaim.holds_of_wide 5 Try.f5 rfl rfl rfl rfl rfl rfl rfl ⟨rfl, rfl, rfl, rfl, rfl⟩ rfl rfl rfl rfl rfl (by kernel_rfl) Try.func5 (by kernel_rfl)
    (of_decide_eq_true (by kernel_rfl)) (by unfold Func.isWrapper; first | (rw [if_pos (by decide +kernel)]; kernel_rfl) | (rw [if_neg (by decide +kernel)]; exact ⟨rfl, rfl⟩))
    (fun os started H enc _ => lifted os started H enc)

theorem proved : Rows.NetDelaysSaid := over
end Go.Proofs.Ytfijidaohlnphaa.netDelays
