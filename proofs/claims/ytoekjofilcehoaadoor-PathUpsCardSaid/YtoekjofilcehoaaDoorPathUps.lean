/- PathUps: up from a made path and down again, and which made path lies below which; no condition on the input (the listed tables lie as the program's text lays them). -/
import Derived.Test.YtoekjofilcehoaaDoorPathHeld
import Derived.Test.YtoekjofilcehoaaDoorCards
import Derived.Test.YtoekjofilcehoaaDoorTie
import Derived.ProofKit
import Derived.OpenShut
import Derived.ShutString
import Derived.ChangeOld
import Derived.Deep.DeepHandedRow
import Derived.Lib.LaidTab
import Derived.Stop.LaidErr
import Derived.Lay
namespace Go.Proofs.YtoekjofilcehoaaDoor.pathUps
open Go.ChangeShapes Go.WideShapes Go.ChangeAt Go.RowKit
open Go.ChangeMaps (open_string shut_string)
set_option linter.unusedVariables false
set_option maxRecDepth 100000
theorem upB_body (ns : List Int) : upB (bodyL (wsOf ns)) = madeL (wsOf ns) := by
  unfold upB madeL
  by_cases h : wsOf ns = []
  · rw [if_pos h, if_pos ((bodyL_nil _).2 h)]
  · rw [if_neg h, if_neg (fun e => h ((bodyL_nil _).1 e))]
theorem made_snoc (l : List Int) (n : Int) : madeL (wsOf (l ++ [n])) = bodyL (wsOf l) ++ 47 :: wordU n := by
  unfold madeL; rw [if_neg (by simp [wsOf])]; rw [show wsOf (l ++ [n]) = wsOf l ++ [wordU n] by simp [wsOf], bodyL_snoc]
theorem base_made (ns : List Int) : (if (bs (madeL (wsOf ns))).data.toList = [47] then [] else (bs (madeL (wsOf ns))).data.toList) = bodyL (wsOf ns) := by
  rw [bs_list]
  by_cases h : madeL (wsOf ns) = [47]
  · rw [if_pos h, (root_wsOf ns).1 h]; rfl
  · rw [if_neg h]
    have : ns ≠ [] := fun e => h ((root_wsOf ns).2 e)
    unfold madeL; rw [if_neg (by simpa [wsOf] using this)]
theorem str_eq8 (a b : ByteArray) (B : Bool) (h : B = true ↔ a.data.toList = b.data.toList) : (a.toList == b.toList) = B := by
  rw [Lib.toList_data, Lib.toList_data, Bool.eq_iff_iff, h]; simp
theorem IntsA.head {w : World} {g off cap : Nat} {ns l : List Int} {n : Int} (h : IntsA w (.slice (some ⟨g, off, none⟩) ns.length cap) ns) (e : ns = l ++ [n]) : IntsA w (.slice (some ⟨g, off, none⟩) l.length cap) l := by
  obtain ⟨a, c, hv, h1, h2, h3⟩ := h
  injection hv with ha _ hc
  subst hc ha
  refine ⟨_, _, rfl, by rw [e] at h1; simp at h1; omega, h2, ?_⟩
  by_cases hl : l.length = 0
  · exact .inl hl
  · right
    obtain ⟨g', off', ha, hg, hcell⟩ := h3.resolve_left (by rw [e]; simp)
    injection ha with ha
    injection ha with hg1 ho1 _
    subst hg1 ho1
    refine ⟨g, off, rfl, hg, fun j hj => ?_⟩
    have := hcell j (by rw [e]; simp; omega)
    rw [this, e]; simp [List.getD_eq_getElem?_getD, List.getElem?_append_left hj]
theorem IntsA.one {w : World} {g off cap : Nat} {ns : List Int} (h : IntsA w (.slice (some ⟨g, off, none⟩) ns.length cap) ns) (k : Nat) (hk : k < ns.length) (c2 : Nat) (hc2 : 1 ≤ c2 ∧ c2 ≤ maxLen) : IntsA w (.slice (some ⟨g, off + k, none⟩) 1 c2) [ns.getD k 0] := by
  obtain ⟨a, c, hv, h1, h2, h3⟩ := h
  injection hv with ha _ hc
  subst hc ha
  refine ⟨_, _, rfl, hc2.1, hc2.2, .inr ?_⟩
  obtain ⟨g', off', ha, hg, hcell⟩ := h3.resolve_left (by omega)
  injection ha with ha
  injection ha with hg1 ho1 _
  subst hg1 ho1
  refine ⟨g, off + k, rfl, hg, fun j hj => ?_⟩
  obtain rfl : j = 0 := by simpa using hj
  exact hcell k hk
/-- What Up answers of a made path. -/
def UpRel (a : List Int) (u l : ByteArray) : Prop := (a = [] ∧ u = bs [] ∧ l = bs []) ∨ ∃ l0 n, a = l0 ++ [n] ∧ u = bs (madeL (wsOf l0)) ∧ l = bs (wordU n)
theorem up_made (a : List Int) (ha : a.length ≤ 8) : ∃ u l : ByteArray, UpRel a u l ∧ ∀ W : World, Calls Tryd.prog 14 #[.string (bs (madeL (wsOf a)))] W fun e w' => e = .returned (.tuple #[.string u, .string l]) ∧ ∃ n, w' = W.drewN n := by
  rcases List.eq_nil_or_concat a with rfl | ⟨l0, n, rfl⟩
  · exact ⟨bs [], bs [], .inl ⟨rfl, rfl, rfl⟩, fun W => up_root W⟩
  · refine ⟨_, _, .inr ⟨l0, n, by simp, rfl, rfl⟩, fun W => ?_⟩
    have hw := word_len (n % 18446744073709551616)
    have := up_any (bodyL (wsOf l0)) (wordU n) W (word_noslash _) (by have := bodyL_len l0; simp at ha; omega) (by unfold wordU; omega) (fun _ e => by unfold wordU at e; rw [e] at hw; simp at hw)
    rw [upB_body] at this
    rw [show l0.concat n = l0 ++ [n] by simp, made_snoc]; exact this
/-- The law's test, after k rounds. -/
def eqT (a b : List Int) (k : Nat) : Bool := decide ((wsOf a).take k = (wsOf b).take k)
theorem eqT_succ (a b : List Int) (k : Nat) (ha : k < a.length) (hb : k < b.length) (B : Bool) (hB : B = true ↔ wordU (a.getD k 0) = wordU (b.getD k 0)) : eqT a b (k + 1) = (eqT a b k && B) := by
  unfold eqT
  have h1 : (wsOf a).take (k + 1) = (wsOf a).take k ++ [wordU (a.getD k 0)] := by
    rw [List.take_succ_eq_append_getElem (by simpa [wsOf] using ha)]; simp [wsOf, List.getD_eq_getElem?_getD, ha]
  have h2 : (wsOf b).take (k + 1) = (wsOf b).take k ++ [wordU (b.getD k 0)] := by
    rw [List.take_succ_eq_append_getElem (by simpa [wsOf] using hb)]; simp [wsOf, List.getD_eq_getElem?_getD, hb]
  rw [h1, h2, Bool.eq_iff_iff]
  simp only [Bool.and_eq_true, decide_eq_true_eq, hB]
  constructor
  · intro h
    have := List.append_inj' h rfl
    exact ⟨this.1, by simpa using this.2⟩
  · rintro ⟨h3, h4⟩; rw [h3, h4]
theorem eqT_all (a b : List Int) : (decide (b.length < a.length) && eqT a b b.length) = inB (wsOf a) (wsOf b) := by
  rw [Bool.eq_iff_iff, inB_iff]
  unfold eqT
  have hb : (wsOf b).take b.length = wsOf b := by rw [List.take_of_length_le (by simp [wsOf])]
  rw [hb]
  simp only [Bool.and_eq_true, decide_eq_true_eq]
  constructor
  · rintro ⟨h1, h2⟩; exact ⟨by rw [← h2]; exact List.take_prefix _ _, by simpa [wsOf] using h1⟩
  · rintro ⟨h1, h2⟩
    refine ⟨by simpa [wsOf] using h2, ?_⟩
    have := List.prefix_iff_eq_take.1 h1
    rw [show (wsOf b).length = b.length by simp [wsOf]] at this; exact this.symm
theorem one_made (z z' : Int) (B : Bool) (hB : B = true ↔ wordU z = wordU z') : B = true ↔ (bs (madeL (wsOf [z]))).data.toList = (bs (madeL (wsOf [z']))).data.toList := by
  rw [hB, bs_list, bs_list]
  have e : ∀ x : Int, madeL (wsOf [x]) = 47 :: wordU x := fun x => by unfold madeL wsOf; rw [if_neg (by simp)]; simp [bodyL]
  rw [e, e]; simp
set_option maxHeartbeats 4000000 in
theorem walk (v0 : Value) (a : List Int) (v1 : Value) (b : List Int) (w : World) (w0 : IntsR w v0 a) (w1 : IntsR w v1 b) :
    Calls Tryd.prog 4 #[v0, v1] w fun e w' => e = .returned (.bool true) ∧ Below w.heap.size w w' := by
  have HH := Lib.hid (head8_any w)
  have i0 := w0.1
  have i1 := w1.1
  have wfa := w0.2
  have wfb := w1.2
  have HMA := Lib.hid (fun (W : World) (hb : Below w.heap.size w W) (h : a.length ≤ 1000) => made_any v0 a W (i0.below hb) h w0.2)
  have HMB := Lib.hid (fun (W : World) (hb : Below w.heap.size w W) (h : b.length ≤ 1000) => made_any v1 b W (i1.below hb) h w1.2)
  have I0 := Lib.hid i0
  have I1 := Lib.hid i1
  obtain ⟨xa, xc, hva, hxc, hxm, _⟩ := i0
  obtain ⟨ya, yc, hvb, hyc, hym, _⟩ := i1
  clear w0 w1
  subst hva hvb
  by_cases ha : 8 < a.length
  · have d1 : decide ((8 : Int) < (a.length : Int)) = true := by simp; omega
    go_enter Tryd.func4, Tryd.ntmps4
    go_wp2_with fail
    refine HH.out.mono ?_
    rintro e w1 ⟨rfl, hb⟩
    go_wp2_with fail
    go_ret
    exact ⟨rfl, hb⟩
  have d1 : decide ((8 : Int) < (a.length : Int)) = false := by simp; omega
  by_cases hb : 8 < b.length
  · have d2 : decide ((8 : Int) < (b.length : Int)) = true := by simp; omega
    go_enter Tryd.func4, Tryd.ntmps4
    go_wp2_with fail
    refine HH.out.mono ?_
    rintro e w1 ⟨rfl, hb⟩
    go_wp2_with fail
    go_ret
    exact ⟨rfl, hb⟩
  have d2 : decide ((8 : Int) < (b.length : Int)) = false := by simp; omega
  have la : a.length ≤ 8 := by omega
  have lb : b.length ≤ 8 := by omega
  clear ha hb
  obtain ⟨s, hs⟩ : ∃ s, s = bs (madeL (wsOf a)) := ⟨_, rfl⟩
  obtain ⟨t, ht⟩ : ∃ t, t = bs (madeL (wsOf b)) := ⟨_, rfl⟩
  have HS := Lib.hid hs
  have HT := Lib.hid ht
  clear hs ht
  go_enter Tryd.func4, Tryd.ntmps4
  go_wp2_with fail
  refine HH.out.mono ?_
  rintro e w1 ⟨rfl, b1⟩
  go_wp2_with fail
  refine (HMA.out _ b1 (by omega)).mono ?_
  rintro e w2 ⟨rfl, b2⟩
  rw [← HS.out]
  replace b2 := b1.trans (b2.mono b1.size)
  go_wp2_with fail
  refine (HMB.out _ b2 (by omega)).mono ?_
  rintro e w3 ⟨rfl, b3⟩
  rw [← HT.out]
  replace b3 := b2.trans (b3.mono b2.size)
  clear b1 b2
  obtain ⟨u, l, hur, hup⟩ := up_made a la
  rw [← HS.out] at hup
  have HUR := Lib.hid hur
  have HUP := Lib.hid hup
  clear hur hup
  go_wp2_with fail
  refine (HUP.out _).mono ?_
  rintro e w4 ⟨rfl, n4, hw4⟩
  have b4 : Below w.heap.size w w4 := by rw [hw4]; exact b3.trans ⟨rfl, rfl, rfl, Nat.le_refl _, fun _ _ => rfl⟩
  clear hw4 b3
  go_upto_if 31 with (fail)
  go_cut [] (fun wx => Below w.heap.size w wx)
  case first =>
    rcases HUR.out with ⟨h0, hu, hl⟩ | ⟨l0, n, h0, hu, hl⟩
    · have er : (s.toList == [47]) = true := eq_true (by rw [HS.out, bs_list, h0]; rfl)
      simp only [er]
      have eu : u.toList.isEmpty = true := by rw [hu, Lib.toList_data, bs_list]; rfl
      have el : l.toList.isEmpty = true := by rw [hl, Lib.toList_data, bs_list]; rfl
      clear h0 hu hl
      go_wp2_with fail
      go_meet
      exact b4
    · have er : (s.toList == [47]) = false := eq_false (by rw [HS.out, bs_list]; intro e; rw [(root_wsOf a).1 e] at h0; simp at h0)
      simp only [er]
      have hal : a.length = l0.length + 1 := by rw [h0]; simp
      have hslice : Hid (∀ W : World, Below w.heap.size w W → Calls Tryd.prog 13 #[.slice xa (a.length - 1) xc] W fun e w' => e = .returned (.string (bs (madeL (wsOf l0)))) ∧ Below W.heap.size W w') := Lib.hid (fun W hb => by
        have hx : ∃ g off, xa = some ⟨g, off, none⟩ := by
          obtain ⟨_, _, hv, _, _, h3⟩ := I0.out
          injection hv with ha
          obtain ⟨g, off, h4, _⟩ := h3.resolve_left (by omega)
          exact ⟨g, off, ha.trans h4⟩
        obtain ⟨g, off, rfl⟩ := hx
        have h5 := IntsA.head (IntsA.below I0.out hb) h0
        rw [show l0.length = a.length - 1 by omega] at h5
        exact made_any _ l0 W h5 (by omega) (fun n hn => wfa n (by rw [h0]; simp [hn])))
      have hx : ∃ g off, xa = some ⟨g, off, none⟩ := by
        obtain ⟨_, _, hv, _, _, h3⟩ := I0.out
        injection hv with ha
        obtain ⟨g, off, h4, _⟩ := h3.resolve_left (by omega)
        exact ⟨g, off, ha.trans h4⟩
      obtain ⟨g, off, hxa⟩ := hx
      subst hxa
      have hal1 : 1 ≤ a.length := by omega
      have hal2 : (1 : Int) ≤ (a.length : Int) := by omega
      have HA := Lib.hid h0
      have HAL := Lib.hid hal
      have HU := Lib.hid hu
      have HL := Lib.hid hl
      clear h0 hal hu hl
      have hl0 : l0.length ≤ 7 := by have := HAL.out; omega
      have hmw := made_len l0
      have hus : u.size ≤ 1000 := by rw [HU.out, bs_size]; omega
      have hww := word_len (n % 18446744073709551616)
      have hls : l.size ≤ 1000 := by rw [HL.out, bs_size]; unfold wordU; omega
      have HP : Hid (∀ W : World, Calls Tryd.prog 10 #[.string l] W fun e w' => e = .returned (.bool true) ∧ w' = W) := Lib.hid (fun W => by
        have := part8_any l W (by unfold maxLen; omega)
        rw [HL.out, bs_list] at this; unfold wordU at this; rw [partL_word] at this; rw [HL.out]; exact this)
      have HJ : Hid (∀ W : World, Calls Tryd.prog 15 #[.string u, .string l] W fun e w' => e = .returned (.string s) ∧ w' = W) := Lib.hid (fun W => by
        have := join_any u l W (by omega) (by omega)
        rw [HU.out, base_made, HL.out, bs_list, ← made_snoc, ← HA.out, ← HS.out] at this; rw [HU.out, HL.out]; exact this)
      have h1 : inB (wsOf a) (wsOf l0) = true := by rw [inB_iff, HA.out]; exact ⟨by simp [wsOf], by simp [wsOf]⟩
      have HB1 : Hid (belowL s.data.toList u.data.toList = true) := Lib.hid (by rw [HS.out, HU.out, bs_list, bs_list, below_wsOf a l0 (by omega), h1])
      have HB2 : Hid (belowL u.data.toList s.data.toList = false) := Lib.hid (by rw [HS.out, HU.out, bs_list, bs_list, below_wsOf l0 a (by omega)]; exact inB_anti h1)
      have eu : ∀ B, B = bs (madeL (wsOf l0)) → (u.toList == B.toList) = true := fun B hB => by rw [hB, HU.out]; simp
      have es : (s.toList == s.toList) = true := by simp
      clear h1 hww hmw
      go_wp2_with fail
      refine (hslice.out _ b4).mono ?_
      rintro e w5 ⟨rfl, b5⟩
      rw [← HU.out]
      replace b5 := b4.trans (b5.mono b4.size)
      clear eu
      have eu : (u.toList == u.toList) = true := by simp
      go_wp2_with fail
      refine (HP.out _).mono ?_
      rintro e w6 ⟨rfl, rfl⟩
      go_wp2_with fail
      refine (HJ.out _).mono ?_
      rintro e w7 ⟨rfl, rfl⟩
      go_wp2_with fail
      refine (below_any s u _).mono ?_
      rintro e w8 ⟨rfl, b8⟩
      rw [HB1.out]
      replace b8 := b5.trans (b8.mono b5.size)
      go_wp2_with fail
      refine (below_any u s _).mono ?_
      rintro e w9 ⟨rfl, b9⟩
      rw [HB2.out]
      replace b9 := b8.trans (b9.mono b8.size)
      go_wp2_with fail
      go_meet
      exact b9
  case rest =>
    clear b4
    have b5 : Below w.heap.size w wc := hcut
    clear hcut
    obtain ⟨w5, hw5⟩ : ∃ w5, w5 = wc := ⟨_, rfl⟩
    rw [← hw5] at b5 ⊢
    clear hw5
    go_wp2_with fail
    go_loopw [9, 10, 76] (fun bv _ kv wr => ∃ k : Nat, k ≤ b.length ∧ kv = .int .i64 k ∧ bv = .bool (decide (b.length < a.length) && eqT a b k) ∧ Below w.heap.size w wr) (fun _ _ kv _ => b.length - (intOf kv).toNat)
    case atStart => exact ⟨0, Nat.zero_le _, rfl, by simp [eqT], b5⟩
    case round =>
      obtain ⟨k, hk, rfl, rfl, bk⟩ := hrel
      by_cases hlt : k < b.length
      · have hlt2 : (k : Int) < (b.length : Int) := by omega
        cases hB : (decide (b.length < a.length) && eqT a b k)
        · have hB2 : Hid ((decide (b.length < a.length) && eqT a b (k + 1)) = false) := Lib.hid (by
            by_cases hl : b.length < a.length
            · rw [eqT_succ a b k (by omega) hlt (decide (wordU (a.getD k 0) = wordU (b.getD k 0))) (by simp), ← Bool.and_assoc, hB]; rfl
            · simp [hl])
          clear hB
          go_wp2_with fail
          go_quiet (fail)
          go_wp2_with fail
          go_roundw
          case rel => exact ⟨k + 1, by omega, by go_num, by rw [hB2.out], bk.trans ⟨rfl, rfl, rfl, Nat.le_refl _, fun _ _ => rfl⟩⟩
          case measure => simp [intOf]; omega
        · have hB' := hB
          simp at hB'
          have hla : k < a.length := by omega
          have hx : ∃ g off, xa = some ⟨g, off, none⟩ := by
            obtain ⟨_, _, hv, _, _, h3⟩ := I0.out
            injection hv with ha
            obtain ⟨g, off, h4, _⟩ := h3.resolve_left (by omega)
            exact ⟨g, off, ha.trans h4⟩
          have hy : ∃ g off, ya = some ⟨g, off, none⟩ := by
            obtain ⟨_, _, hv, _, _, h3⟩ := I1.out
            injection hv with ha
            obtain ⟨g, off, h4, _⟩ := h3.resolve_left (by omega)
            exact ⟨g, off, ha.trans h4⟩
          obtain ⟨g, off, rfl⟩ := hx
          obtain ⟨g2, off2, rfl⟩ := hy
          obtain ⟨B, hBB⟩ : ∃ B : Bool, B = true ↔ wordU (a.getD k 0) = wordU (b.getD k 0) := ⟨decide (wordU (a.getD k 0) = wordU (b.getD k 0)), by simp⟩
          have HBS : Hid ((decide (b.length < a.length) && eqT a b (k + 1)) = B) := Lib.hid (by rw [eqT_succ a b k hla hlt B hBB, ← Bool.and_assoc, hB]; rfl)
          obtain ⟨x, hx⟩ : ∃ x, x = bs (madeL (wsOf [a.getD k 0])) := ⟨_, rfl⟩
          obtain ⟨y, hy⟩ : ∃ y, y = bs (madeL (wsOf [b.getD k 0])) := ⟨_, rfl⟩
          have exy : (x.toList == y.toList) = B := str_eq8 x y B (by rw [hx, hy]; exact one_made _ _ B hBB)
          have HK1 : Hid (∀ W : World, Below w.heap.size w W → Calls Tryd.prog 13 #[.slice (if xc = k then some ⟨g, off, none⟩ else some ⟨g, off + k, none⟩) 1 (xc - k)] W fun e w' => e = .returned (.string x) ∧ Below w.heap.size w w') := Lib.hid (fun W hb => by
            rw [hx, if_neg (by omega)]; refine (made_any _ [a.getD k 0] W (IntsA.one (IntsA.below I0.out hb) k hla _ ⟨by omega, by omega⟩) (by simp) (fun n hn => by
              rw [List.mem_singleton.1 hn]; exact wfa _ (by simp [List.getD_eq_getElem?_getD, hla]))).mono ?_
            rintro e w' ⟨h1, h2⟩; exact ⟨h1, hb.trans (h2.mono hb.size)⟩)
          have HK2 : Hid (∀ W : World, Below w.heap.size w W → Calls Tryd.prog 13 #[.slice (if yc = k then some ⟨g2, off2, none⟩ else some ⟨g2, off2 + k, none⟩) 1 (yc - k)] W fun e w' => e = .returned (.string y) ∧ Below w.heap.size w w') := Lib.hid (fun W hb => by
            rw [hy, if_neg (by omega)]; refine (made_any _ [b.getD k 0] W (IntsA.one (IntsA.below I1.out hb) k hlt _ ⟨by omega, by omega⟩) (by simp) (fun n hn => by
              rw [List.mem_singleton.1 hn]; exact wfb _ (by simp [List.getD_eq_getElem?_getD, hlt]))).mono ?_
            rintro e w' ⟨h1, h2⟩; exact ⟨h1, hb.trans (h2.mono hb.size)⟩)
          have HK3 : Hid (∀ W : World, Below w.heap.size w W → Calls Tryd.prog 13 #[.slice (some ⟨g, off + k, none⟩) 1 (xc - k)] W fun e w' => e = .returned (.string x) ∧ Below w.heap.size w w') := Lib.hid (fun W hb => by
            have := HK1.out W hb; rw [if_neg (by omega)] at this; exact this)
          have HK4 : Hid (∀ W : World, Below w.heap.size w W → Calls Tryd.prog 13 #[.slice (some ⟨g2, off2 + k, none⟩) 1 (yc - k)] W fun e w' => e = .returned (.string y) ∧ Below w.heap.size w w') := Lib.hid (fun W hb => by
            have := HK2.out W hb; rw [if_neg (by omega)] at this; exact this)
          clear hB hB' hx hy hBB
          have bk2 := Lib.hid bk
          have s1 : IntKind.i64.wrap ((k : Int) + 1) = (k : Int) + 1 := IntWalk.i64_in _ (by omega)
          have s2 : (0 : Int) ≤ (k : Int) + 1 := by omega
          have s3 : ((k : Int) + 1).toNat = k + 1 := by omega
          have s4 : (k : Int) + 1 ≤ (xc : Int) := by omega
          have s5 : (k : Int) + 1 ≤ (yc : Int) := by omega
          have s6 : k ≤ xc := by omega
          have s7 : k ≤ yc := by omega
          have s8 : ¬ k = xc := by omega
          have s9 : ¬ k = yc := by omega
          have bkD : Below w.heap.size w wr.drew := bk.trans ⟨rfl, rfl, rfl, Nat.le_refl _, fun _ _ => rfl⟩
          go_wp2_with fail
          go_region_held3 (fun w' => Below w.heap.size w w') (first | (with_reducible assumption) | exact bkD | go_keep)
            ((first | (go_at_call 13; ((with_reducible refine (HK1.out _ ?hb1).mono ?_); (case hb1 => with_reducible assumption); rintro e w6 ⟨rfl, b6⟩)) | (go_at_call 13; ((with_reducible refine (HK2.out _ ?hb2).mono ?_); (case hb2 => with_reducible assumption); rintro e w6 ⟨rfl, b6⟩)) | (go_at_call 13; ((with_reducible refine (HK3.out _ ?hb3).mono ?_); (case hb3 => with_reducible assumption); rintro e w6 ⟨rfl, b6⟩)) | (go_at_call 13; ((with_reducible refine (HK4.out _ ?hb4).mono ?_); (case hb4 => with_reducible assumption); rintro e w6 ⟨rfl, b6⟩))))
          clear s1 s2 s3
          go_wp2_with fail
          go_roundw
          case rel => exact ⟨k + 1, by omega, by go_num, by rw [HBS.out], by assumption⟩
          case measure => simp [intOf]; omega
      · obtain rfl : k = b.length := by omega
        have hlt2 : ¬ (b.length : Int) < (b.length : Int) := by omega
        obtain ⟨R, hR⟩ : ∃ R, R = inB (wsOf a) (wsOf b) := ⟨_, rfl⟩
        rw [eqT_all, ← hR]
        have HB1 : Hid (belowL s.data.toList t.data.toList = R) := Lib.hid (by rw [HS.out, HT.out, bs_list, bs_list, below_wsOf a b (by omega), hR])
        have HB2 : Hid (belowL s.data.toList s.data.toList = false) := Lib.hid (by rw [HS.out, bs_list, below_wsOf a a (by omega), inB_irr])
        have HC : Hid (checkE s.data.toList = 0) := Lib.hid (by
          have := check_made (wsOf_wd a) (wsOf_part a) (by have := made_len a; omega)
          unfold checkE; rw [HS.out, bs_list, this]; rfl)
        clear hR hlt hlt2
        go_wp2_with fail
        refine (below_any s t _).mono ?_
        rintro e w6 ⟨rfl, b6⟩
        rw [HB1.out]
        replace b6 := bk.trans (b6.mono bk.size)
        have eR : (R == R) = true := by simp
        go_wp2_with fail
        refine (check_any s _).mono ?_
        rintro e w7 ⟨rfl, b7⟩
        rw [HC.out]
        replace b7 := b6.trans (b7.mono b6.size)
        go_wp2_with fail
        refine (below_any s s _).mono ?_
        rintro e w8 ⟨rfl, b8⟩
        rw [HB2.out]
        replace b8 := b7.trans (b8.mono b7.size)
        go_wp2_with fail
        go_ret
        exact ⟨by simp, b8⟩

theorem own : ownKnob Tryd.prog.godebug = none := by kernel_rfl
theorem laidOut : laidOutB Tryd.prog = true := by kernel_rfl

theorem contract (H : Type) (enc : TypeId × Value → H) (W : World) (base : Nat) (args : Array Value) (ds gs : List (DataW H)) (before : List MemPlace)
    (hval : ∀ (j : Nat) t v, Tryd.f4.params[j]? = some t → args[j]? = some v → Value.okWide Tryd.prog W .any base t v)
    (hW : DataW.Whole enc Tryd.prog Tryd.f4.params.toList Rows.pathUpsSpec.vars false W args.toList ds gs before) (hL : laidMetH Tryd.prog Rows.pathUpsRow.laid W) :
    Calls Tryd.prog 4 args W fun e W' => ∃ v, e = .returned v ∧ Rows.pathUpsSpec.post enc Tryd.prog Tryd.f4 false true false false W args v W' := by
  have hW' := hW
  obtain ⟨p, q, hA0, hV, rfl, hfz, hnd⟩ := hW
  have hA : DataW.TrodAll enc Tryd.prog W 0 (fun _ => true) true Tryd.f4.params.toList args.toList ds p := hA0
  rw [Tryd.params4] at hA hval
  obtain ⟨v0, vs0, d0, ds0, p0, q0, hargs, rfl, rfl, h0, r0⟩ := trodAll_cons hA
  obtain ⟨v1, vs1, d1, ds1, p1, q1, rfl, rfl, rfl, h1, r1⟩ := trodAll_cons r0
  obtain ⟨rfl, rfl, rfl⟩ := trodAll_nil r1
  obtain rfl : args = #[v0, v1] := by cases args; simp_all
  obtain ⟨rfl, rfl⟩ := trodVars_none hV
  have k0 := h0
  have lt0 : ∀ x ∈ p0, x.block < W.heap.size := by obtain ⟨m, hm⟩ := k0; exact DataW.trod_lt m _ _ _ hm
  obtain ⟨z0, w0⟩ := ints_of (hval 0 26 v0 rfl rfl) h0
  have k1 := h1
  have lt1 : ∀ x ∈ p1, x.block < W.heap.size := by obtain ⟨m, hm⟩ := k1; exact DataW.trod_lt m _ _ _ hm
  obtain ⟨z1, w1⟩ := ints_of (hval 1 26 v1 rfl rfl) h1
  clear hA0
  refine (walk v0 z0 v1 z1 W w0 w1).mono fun e W' ⟨he, bel⟩ => ?_
  subst he
  exact ⟨_, rfl, _, _, _, [], _, [], hW', trodAll_mk1 (shut_bool Tryd.underlying4 _), (trodAll_cons_mk (Below.trod laidOut (by kernel_rfl) (of_decide_eq_true (by kernel_rfl)) k0 bel lt0) (trodAll_cons_mk (Below.trod laidOut (by kernel_rfl) (of_decide_eq_true (by kernel_rfl)) k1 bel lt1) trodAll_mk0)), rfl, bel.frame _, fun h => by cases h⟩

theorem laid_met (os : Os) : laidMet Tryd.prog Rows.pathUpsRow.laid ((World.laidAll Tryd.prog os Rows.pathUpsRow.laid).forCall (fun _ _ => 0) ⟨#[], #[.slice none 0 0, .slice none 0 0], []⟩).memory :=
  laidMet_laidAll _ (by kernel_rfl) (by kernel_rfl)
theorem reads (os : Os) {H : Type} (enc : TypeId × Value → H) : ∃ places, DataW.whole enc Tryd.prog ((World.laidAll Tryd.prog os Rows.pathUpsRow.laid).forCall (fun _ _ => 0) ⟨#[], #[.slice none 0 0, .slice none 0 0], []⟩).memory Tryd.f4.params.toList Rows.pathUpsSpec.vars false #[Value.slice none 0 0, Value.slice none 0 0].toList 8 = some ([.nil, .nil], [], places) :=
  ⟨[], by kernel_rfl⟩

set_option maxRecDepth 100000 in
theorem lifted (os : Os) (started : os.Started) (H : Type) (enc : TypeId × Value → H) (F : Stop.Interp) :
    ReturnsInHanded {} Tryd.checked os 4 .any ((OpenSpec.ofChange Rows.pathUpsSpec).preRow enc Tryd.prog Tryd.f4 Rows.pathUpsRow.domain false Rows.pathUpsRow.laid) (((OpenSpec.ofChange Rows.pathUpsSpec).at F).post enc Tryd.prog Tryd.f4 false true false false) := by
  obtain ⟨places, hx⟩ := reads os enc
  refine returnsInHanded_of_row (C := Tryd.checked) (s := OpenSpec.ofChange Rows.pathUpsSpec) own started (by kernel_rfl) Tryd.func4
    (witness_zip (enc := enc) (C := Tryd.checked) false (World.laidAll Tryd.prog os Rows.pathUpsRow.laid) #[.slice none 0 0, .slice none 0 0] (World.laidAll_os _ _ _) (World.shaped_of_ZipB (by kernel_rfl) (by kernel_rfl)) (by kernel_rfl)
      (OpenSpec.preRow_of_cond 8 hx (by kernel_rfl) (fun k hk => by cases hk) (by kernel_rfl) (laid_met os))) ?_
  intro W base args ds gs before hval hW _ _ _ hL _ _
  exact contract H enc W base args ds gs before hval hW hL

theorem said : Rows.PathUpsSaid :=
  OpenClaim.holds_of_cond 4 Tryd.f4 rfl rfl rfl rfl rfl rfl rfl ⟨rfl, rfl, rfl, rfl, rfl⟩ rfl rfl rfl rfl rfl (by kernel_rfl) Tryd.func4 (by kernel_rfl)
    (of_decide_eq_true (by kernel_rfl)) (by unfold Func.isWrapper; first | (rw [if_pos (by decide +kernel)]; kernel_rfl) | (rw [if_neg (by decide +kernel)]; exact ⟨rfl, rfl⟩))
    (fun os started H enc _ F => by rw [OpenClaim.pre_eq_preRow]; exact lifted os started H enc F)

theorem plain (f : FuncId) (fn : Func) (hf : Tryd.pinned.checked.prog.funcNamed "orchard/orchardlaw08.PathUps" = some f) (hfn : Tryd.pinned.checked.prog.funcs[f]? = some fn) :
    true = Tryd.pinned.checked.prog.looks [] ∧ ∀ (j : Nat) t, fn.params[j]? = some t → Tryd.pinned.checked.prog.wantsStandIn t = false := by
  obtain rfl : f = 4 := Option.some.inj ((show Tryd.prog.funcNamed "orchard/orchardlaw08.PathUps" = some 4 by kernel_rfl).symm.trans hf) |>.symm
  obtain rfl : fn = Tryd.f4 := (Option.some.inj (Tryd.func4.symm.trans hfn)).symm
  refine ⟨by kernel_rfl, fun j t ht => ?_⟩
  rw [Tryd.params4] at ht
  have hm := Array.mem_of_getElem? ht
  simp at hm
  subst hm
  exact (show Tryd.prog.wantsStandIn 26 = false by kernel_rfl)

theorem card : Rows.PathUpsCardSaid :=
  Claim7.holds_tied_plain_at .later [] _ _ _ _ said (fun _ h => by cases h) (by kernel_rfl) (fun _ h => by cases h) pathUps_row_tie rfl ⟨rfl, rfl⟩ (by kernel_rfl) rfl plain (by kernel_rfl)
end Go.Proofs.YtoekjofilcehoaaDoor.pathUps
