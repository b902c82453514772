/- PithMosts: numbers and texts are read up to the limit that is given, and not beyond it; several numbers in one call are those in several calls; a nil reader gives nothing; no condition on the input. -/
import Derived.Test.YtefofhejaafgnaaPithNil
import Derived.Test.YtefofhejaafgnaaParts
import Derived.Deep.RegionWith
import Derived.Deep.DeepCutAuto
namespace Go.Proofs.Ytefofhejaafgnaa.pithMosts
open Go.ChangeShapes Go.WideShapes Go.ChangeAt Go.RowKit
open Go.ChangeMaps (open_string shut_string)
set_option linter.unusedVariables false

/-- The slice of integers that came in. -/
def IsRow (k : IntKind) (w : World) (a : Option Addr) (len cap : Nat) (zs : List Int) : Prop :=
  (a = none ∧ len = 0 ∧ cap = 0 ∧ zs = []) ∨
  ∃ x, a = some x ∧ len ≤ cap ∧ cap ≤ maxLen ∧ zs.length = cap ∧ (∀ i, i < zs.length → w.cell? (x.add i) = some (.int k (zs.getD i 0))) ∧ ∀ n ∈ zs, (Lit.int k n).wf = true
theorem i64_and65535 (n : Int) : bits .and .i64 n 65535 = n % 65536 := by
  have h127 : (BitVec.ofInt 64 65535).toNat = 2 ^ 16 - 1 := by decide
  have key : (BitVec.ofInt 64 n &&& BitVec.ofInt 64 65535).toNat = (n % ((2 ^ 64 : Nat) : Int)).toNat % 2 ^ 16 := by
    rw [BitVec.toNat_and, BitVec.toNat_ofInt, h127, Nat.and_two_pow_sub_one_eq_mod]
  show IntKind.i64.wrap ((BitVec.ofInt 64 n &&& BitVec.ofInt 64 65535).toNat : Nat) = n % 65536
  rw [key, IntKind.wrap_i64]
  omega

set_option maxRecDepth 100000 in
set_option maxHeartbeats 1000000 in
theorem walk_long (x0 x1 : Int) (a2 : ByteArray) (a1 : Option Addr) (len1 cap1 : Nat) (w : World) (w0 : a2.size ≤ maxLen) (hl : 200 < a2.size ∨ 20 < len1) (hcap : len1 ≤ maxLen) :
    Calls Try.prog 5 #[.int .i64 x0, .int .i64 x1, .string a2, .slice a1 len1 cap1] w fun e w' => e = .returned (.bool true) ∧ Below w.heap.size w w' := by
  unfold maxLen at w0 hcap
  by_cases h1 : 200 < a2.size
  · have hd : decide ((200 : Int) < (a2.size : Int)) = true := by simp; omega
    clear hl
    go_enter Try.func5, Try.ntmps5
    go_wp2_with (go_at_call 10; refine (head_any _).mono ?_; rintro e w1 ⟨rfl, hb⟩)
    go_ret
    exact ⟨rfl, hb⟩
  · have hd : decide ((200 : Int) < (a2.size : Int)) = false := by simp; omega
    have hd2 : decide ((20 : Int) < (len1 : Int)) = true := by simp; omega
    clear hl
    go_enter Try.func5, Try.ntmps5
    go_wp2_with (go_at_call 10; refine (head_any _).mono ?_; rintro e w1 ⟨rfl, hb⟩)
    go_ret
    exact ⟨rfl, hb⟩

set_option maxRecDepth 100000 in
set_option maxHeartbeats 4000000 in
theorem walk_some (x0 x1 : Int) (a2 : ByteArray) (b off len1 cap1 : Nat) (zs : List Int) (w : World) (h0 : a2.size ≤ 200) (h1 : len1 ≤ 20) (hzl : zs.length = len1) (hbw : 0 < len1 → b < w.heap.size)
    (hz : ∀ j, j < len1 → -9223372036854775808 ≤ zs.getD j 0 ∧ zs.getD j 0 ≤ 9223372036854775807)
    (hc : ∀ j, j < len1 → w.cell? ⟨b, off + j, none⟩ = some (.int .i64 (zs.getD j 0))) (a1 : Option Addr) (ha1 : 0 < len1 → a1 = some ⟨b, off, none⟩)
    (N : Nat) (hN : x0 % 65536 = (N : Int)) (hN2 : N < 65536) (M : Int) (hM : max x1 0 = M) (ok fits : Bool) (X : Int) (Y : ByteArray) (st1 st2 : RS)
    (hnum : numF 6 M (some (be 6 N)) = (X, st1)) (hst1 : okF st1 = ok) (hX1 : ok = true → X = N) (hX0 : ok = false → X = 0) (hok : decide ((N : Int) ≤ M) = ok)
    (htext : textF x1 (some (textE a2.data.toList)) = (Y.data.toList, st2)) (hst2 : okF st2 = fits) (hY1 : fits = true → Y = a2) (hY0 : fits = false → Y = ⟨#[]⟩) (hfits : decide ((a2.size : Int) ≤ x1) = fits) :
    Calls Try.prog 5 #[.int .i64 x0, .int .i64 x1, .string a2, .slice a1 len1 cap1] w fun e w' => e = .returned (.bool true) ∧ Below w.heap.size w w' := by
  have hd : decide ((200 : Int) < (a2.size : Int)) = false := by simp; omega
  have hd2 : decide ((20 : Int) < (len1 : Int)) = false := by simp; omega
  have HZL := Lib.hid hzl
  have HZ := Lib.hid hz
  have HC := Lib.hid hc
  have HA := Lib.hid ha1
  have HB := Lib.hid hbw
  have HNUM := Lib.hid hnum
  have HTEXT := Lib.hid htext
  have HS1 := Lib.hid hst1
  have HS2 := Lib.hid hst2
  have HX1 := Lib.hid hX1
  have HX0 := Lib.hid hX0
  have HY1 := Lib.hid hY1
  have HY0 := Lib.hid hY0
  have HOK := Lib.hid hok
  have HFITS := Lib.hid hfits
  have hand := i64_and65535
  have hNE : numE (N : Int) = be 6 N := by rw [numE_in _ (by omega) (by omega)]; rfl
  have HNE := Lib.hid hNE
  clear hzl hz hc ha1 hbw hnum htext hst1 hst2 hX1 hX0 hY1 hY0 hok hfits hNE
  go_enter Try.func5, Try.ntmps5
  go_wp2_with (go_at_call 10; refine (head_any _).mono ?_; rintro e w1 ⟨rfl, hb1⟩)
  refine (num_one_at (.slice none 0 0) [] (N : Int) _ _ rfl (Src.nil _) (by simp) (by omega)).mono ?_
  rintro e w2 ⟨v2, rfl, ho2, hb2'⟩
  have hb2 := hb1.trans (hb2'.mono hb1.size)
  have hcv2 := run_str ho2.src
  rw [HNE.out, List.nil_append] at hcv2
  obtain ⟨S1, hS1⟩ : ∃ S1, S1 = ByteArray.mk (be 6 N).toArray := ⟨_, rfl⟩
  rw [← hS1] at hcv2
  have HS1' := Lib.hid hS1
  clear hb1 hb2' ho2 hS1
  go_wp2_with fail
  refine (read_any S1 _).mono ?_
  rintro e w3 ⟨rfl, hr3, hb3', hs3⟩
  have hb3 := hb2.trans (hb3'.mono hb2.size)
  have hra : Rs w3 w2.heap.size (some (be 6 N)) := by
    rw [HS1'.out] at hr3
    exact ⟨hr3, by rw [be_length]; omega⟩
  have hra0 := hb2.size
  have hra1 : w2.heap.size < w3.heap.size := by omega
  generalize w2.heap.size = ra at *
  clear hr3 hb3' hs3 hb2 hcv2
  go_wp2_with fail
  refine (text_one_at (.slice none 0 0) [] a2 _ _ rfl (Src.nil _) (by simp) (by unfold maxLen; omega)).mono ?_
  rintro e w4 ⟨v4, rfl, ho4, hb4'⟩
  have hb4 := hb3.trans (hb4'.mono hb3.size)
  have hra4 := hra.below hb4'
  have hra2 : ra < w4.heap.size := Nat.lt_of_lt_of_le hra1 hb4'.size
  have hcv4 := run_str ho4.src
  rw [List.nil_append] at hcv4
  obtain ⟨S2, hS2⟩ : ∃ S2, S2 = ByteArray.mk (textE a2.data.toList).toArray := ⟨_, rfl⟩
  rw [← hS2] at hcv4
  have HS2' := Lib.hid hS2
  clear hb3 hb4' ho4 hS2 hra
  go_wp2_with fail
  refine (read_any S2 _).mono ?_
  rintro e w5 ⟨rfl, hr5, hb5', hs5⟩
  have hb5 := hb4.trans (hb5'.mono hb4.size)
  have hrb5 : Rs w5 w4.heap.size (some (textE a2.data.toList)) := by
    rw [HS2'.out] at hr5
    have := textE_length a2.data.toList
    exact ⟨hr5, by omega⟩
  have hra5 := hra4.below hb5'
  have hrb0 := hb4.size
  generalize w4.heap.size = rb at *
  clear hr5 hb5' hs5 hb4 hcv4 hra4 hra1
  have hne : ra ≠ rb := by omega
  have hn6 := num_rs ra x1 _ w5 hra5
  rw [hM, HNUM.out] at hn6
  have HN6 := Lib.hid hn6
  clear hn6
  go_wp2_with fail
  refine HN6.out.mono ?_
  rintro e w6 ⟨rfl, hra6, hg6⟩
  have hb6 := hb5.grown hg6 hb5.size (by intro k hk; simp at hk; rw [← hk]; exact hra0)
  have hrb6 := hrb5.kept hg6 (by simp; omega)
  clear hra5 hrb5 hg6 hb5 HN6
  have hn7 := text_rs rb x1 _ w6 hrb6
  rw [HTEXT.out] at hn7
  have HN7 := Lib.hid hn7
  clear hn7
  go_wp2_with fail
  refine HN7.out.mono ?_
  rintro e w7 ⟨rfl, hrb7, hg7⟩
  have hb7 := hb6.grown hg7 hb6.size (by intro k hk; simp at hk; rw [← hk]; exact hrb0)
  have hra7 := hra6.kept hg7 (by simp; omega)
  rw [show ByteArray.mk Y.data.toList.toArray = Y by simp]
  clear hra6 hrb6 hg7 hb6 HN7
  go_upto_region 12 with fail
  have ha7 := ok_rs ra st1 w7 hra7
  have hb7' := ok_rs rb st2 w7 hrb7
  rw [HS1.out] at ha7
  rw [HS2.out] at hb7'
  have HA7 := Lib.hid ha7
  have HB7 := Lib.hid hb7'
  clear ha7 hb7'
  go_cut [11, 12, 13, 14, 96] (fun t11 t12 t13 t14 t wx => t = .bool false ∧ Below w.heap.size w wx)
  case first =>
    have hok := HOK.out
    have hfits := HFITS.out
    cases ok with
    | true =>
      have hX := HX1.out rfl
      subst hX
      cases fits with
      | true =>
        have hY := HY1.out rfl
        subst hY
        go_wp2_with (first
          | (go_at_call_of 18 (Value.pointer (some ⟨ra, 0, none⟩)); refine HA7.out.mono ?_; rintro e w8 ⟨rfl, rfl⟩)
          | (go_at_call_of 18 (Value.pointer (some ⟨rb, 0, none⟩)); refine HB7.out.mono ?_; rintro e w8 ⟨rfl, rfl⟩))
        go_meet
        exact ⟨rfl, hb7⟩
      | false =>
        have hY := HY0.out rfl
        subst hY
        go_wp2_with (first
          | (go_at_call_of 18 (Value.pointer (some ⟨ra, 0, none⟩)); refine HA7.out.mono ?_; rintro e w8 ⟨rfl, rfl⟩)
          | (go_at_call_of 18 (Value.pointer (some ⟨rb, 0, none⟩)); refine HB7.out.mono ?_; rintro e w8 ⟨rfl, rfl⟩))
        go_meet
        exact ⟨rfl, hb7⟩
    | false =>
      have hX := HX0.out rfl
      subst hX
      cases fits with
      | true =>
        have hY := HY1.out rfl
        subst hY
        go_wp2_with (first
          | (go_at_call_of 18 (Value.pointer (some ⟨ra, 0, none⟩)); refine HA7.out.mono ?_; rintro e w8 ⟨rfl, rfl⟩)
          | (go_at_call_of 18 (Value.pointer (some ⟨rb, 0, none⟩)); refine HB7.out.mono ?_; rintro e w8 ⟨rfl, rfl⟩))
        go_meet
        exact ⟨rfl, hb7⟩
      | false =>
        have hY := HY0.out rfl
        subst hY
        go_wp2_with (first
          | (go_at_call_of 18 (Value.pointer (some ⟨ra, 0, none⟩)); refine HA7.out.mono ?_; rintro e w8 ⟨rfl, rfl⟩)
          | (go_at_call_of 18 (Value.pointer (some ⟨rb, 0, none⟩)); refine HB7.out.mono ?_; rintro e w8 ⟨rfl, rfl⟩))
        go_meet
        exact ⟨rfl, hb7⟩
  case rest =>
    obtain ⟨rfl, hb8⟩ := hcut
    clear hb7 hra7 hrb7 HA7 HB7
    have hb9 := hb8.alloc hb8.size (.cells #[] 5)
    have hbs : Bs (wc.alloc (.cells #[] 5)) w.heap.size (.slice (some ⟨wc.heap.size, 0, none⟩) 0 0) [] :=
      ⟨rfl, .inr ⟨wc.heap.size, 0, #[], rfl, hb8.size, heap_alloc_new wc _, Nat.le_refl _, by unfold maxLen; omega, rfl, rfl⟩⟩
    clear hb8
    go_wp2_with fail
    go_loopw [15, 100] (fun v i wr => ∃ k : Nat, k ≤ len1 ∧ i = .int .i64 k ∧ Bs wr w.heap.size v (numsE (zs.take k)) ∧ Below w.heap.size w wr) (fun _ i _ => len1 - (intOf i).toNat)
    case atStart => exact ⟨0, Nat.zero_le _, rfl, by simpa [numsE] using hbs, hb9⟩
    case round =>
      obtain ⟨k, hk, rfl, hown, hbw⟩ := hrel
      clear hbs hb9
      by_cases hlt : k < len1
      · have hcell : wr.cell? ⟨b, off + k, none⟩ = some (.int .i64 (zs.getD k 0)) := (hbw.cell (p := ⟨b, off + k, none⟩) (HB.out (by omega))).trans (HC.out k hlt)
        have hzk := HZ.out k hlt
        have ha := HA.out (by omega)
        subst ha
        have HES := Lib.hid (numsE_snoc zs k (by rw [HZL.out]; exact hlt))
        have hlen : (numsE (zs.take k)).length ≤ 120 := by
          rw [numsE_length, List.length_take]; omega
        generalize zs.getD k 0 = z at *
        generalize numsE (zs.take k) = m at *
        go_wp2_with fail
        refine (num_one_at _ m z _ _ rfl hown.src (by omega) hzk).mono ?_
        rintro e wn ⟨vn, rfl, hon, hbn⟩
        rw [← HES.out] at hon
        have hon2 := hon.mono (C := w.heap.size) hbw.size
        have hbn2 := hbw.trans (hbn.mono hbw.size)
        clear hon hbn hown hbw hcell
        go_wp2_with fail
        go_roundw
        case rel => exact ⟨k + 1, by omega, by go_num, hon2, hbn2⟩
        case measure => simp [intOf]; omega
      · have hkk : zs.take k = zs := List.take_of_length_le (by rw [HZL.out]; omega)
        rw [hkk] at hown
        obtain ⟨S, hS⟩ : ∃ S, S = ByteArray.mk (numsE zs).toArray := ⟨_, rfl⟩
        have HNL : Hid (∀ W : World, Below w.heap.size w W → Calls Try.prog 12 #[.slice none 0 0, .slice a1 len1 cap1] W fun e w' => ∃ v', e = .returned v' ∧ Bs w' W.heap.size v' (numsE zs) ∧ Below W.heap.size W w') := by
          intro W hW
          by_cases hz0 : len1 = 0
          · have he : zs = [] := List.eq_nil_of_length_eq_zero (by rw [HZL.out, hz0])
            rw [he, hz0]
            exact num_none (.slice none 0 0) [] a1 cap1 W (Src.nil W) (by simp)
          · rw [HA.out (by omega), ← HZL.out]
            have hbb := HB.out (by omega)
            have h := num_list (.slice none 0 0) [] b off cap1 zs W (Src.nil W) (Nat.lt_of_lt_of_le hbb hW.size) (by rw [HZL.out]; simp; omega) (fun j hj => HZ.out j (by rw [← HZL.out]; exact hj))
              (fun j hj => (hW.cell (p := ⟨b, off + j, none⟩) hbb).trans (HC.out j (by rw [← HZL.out]; exact hj)))
            simpa using h
        have hcv := run_str hown.src
        have hcvd := run_str (hown.src.below ((Below.refl _ wr).drew))
        have hSRC := Lib.hid hown.src
        rw [← hS] at hcv hcvd
        have HSX := Lib.hid hS
        have HBW := Lib.hid hbw
        clear hS hown hkk hbw
        go_wp2_with fail
        refine (fail_nil _).mono ?_
        rintro e wf ⟨rfl, rfl⟩
        go_wp2_with fail
        go_region_with (first
          | (go_at_call 12; refine (HNL.out _ HBW.out.drew).mono ?_; rintro e w3 ⟨v3, rfl, ho3, hb3⟩; have hcx := run_str ho3.src; have hcy := run_str (hSRC.out.below ((Below.refl _ wr).drew.trans hb3)); rw [← HSX.out] at hcx hcy; clear ho3)
          | (go_at_call 20; refine (num_nil 1 _).mono ?_; rintro e w4 ⟨rfl, rfl⟩)
          | (go_at_call 21; refine (text_nil 1 _).mono ?_; rintro e w4 ⟨rfl, rfl⟩)
          | (go_at_call 22; refine (flag_nil _).mono ?_; rintro e w4 ⟨rfl, rfl⟩)
          | (go_at_call 18; refine (ok_nil _).mono ?_; rintro e w4 ⟨rfl, rfl⟩)
          | (go_at_call 19; refine (done_nil _).mono ?_; rintro e w4 ⟨rfl, rfl⟩))
        all_goals (go_wp2_with fail; go_ret; exact ⟨rfl, HBW.out.trans (((Below.refl _ wr).drew.trans hb3).mono HBW.out.size)⟩)

theorem walk_both (x0 x1 : Int) (a2 : ByteArray) (b off len1 cap1 : Nat) (zs : List Int) (w : World) (h0 : a2.size ≤ 200) (h1 : len1 ≤ 20) (hzl : zs.length = len1) (hbw : 0 < len1 → b < w.heap.size)
    (hz : ∀ j, j < len1 → -9223372036854775808 ≤ zs.getD j 0 ∧ zs.getD j 0 ≤ 9223372036854775807)
    (hc : ∀ j, j < len1 → w.cell? ⟨b, off + j, none⟩ = some (.int .i64 (zs.getD j 0))) (a1 : Option Addr) (ha1 : 0 < len1 → a1 = some ⟨b, off, none⟩) :
    Calls Try.prog 5 #[.int .i64 x0, .int .i64 x1, .string a2, .slice a1 len1 cap1] w fun e w' => e = .returned (.bool true) ∧ Below w.heap.size w w' := by
  obtain ⟨N, hN⟩ := Int.eq_ofNat_of_zero_le (Int.emod_nonneg x0 (show (65536 : Int) ≠ 0 by omega))
  have hN2 : N < 65536 := by omega
  have hnum := numF_be 6 N (max x1 0) [] (by omega)
  rw [List.append_nil] at hnum
  have htext := textF_E a2.data.toList [] x1 (by rw [← Lib.size_eq]; omega)
  rw [List.append_nil, ← Lib.size_eq] at htext
  by_cases c1 : (N : Int) ≤ max x1 0
  · rw [if_pos c1] at hnum
    by_cases c2 : (a2.size : Int) ≤ x1
    · rw [if_pos c2] at htext
      exact walk_some x0 x1 a2 b off len1 cap1 zs w h0 h1 hzl hbw hz hc a1 ha1 N hN hN2 _ rfl true true N a2 _ _ hnum rfl (fun _ => rfl) (fun h => by cases h) (by simpa using c1) htext rfl (fun _ => rfl) (fun h => by cases h) (by simpa using c2)
    · rw [if_neg c2] at htext
      exact walk_some x0 x1 a2 b off len1 cap1 zs w h0 h1 hzl hbw hz hc a1 ha1 N hN hN2 _ rfl true false N ⟨#[]⟩ _ _ hnum rfl (fun _ => rfl) (fun h => by cases h) (by simpa using c1) htext rfl (fun h => by cases h) (fun _ => rfl) (by simpa using c2)
  · rw [if_neg c1] at hnum
    by_cases c2 : (a2.size : Int) ≤ x1
    · rw [if_pos c2] at htext
      exact walk_some x0 x1 a2 b off len1 cap1 zs w h0 h1 hzl hbw hz hc a1 ha1 N hN hN2 _ rfl false true 0 a2 _ _ hnum rfl (fun h => by cases h) (fun _ => rfl) (by simpa using c1) htext rfl (fun _ => rfl) (fun h => by cases h) (by simpa using c2)
    · rw [if_neg c2] at htext
      exact walk_some x0 x1 a2 b off len1 cap1 zs w h0 h1 hzl hbw hz hc a1 ha1 N hN hN2 _ rfl false false 0 ⟨#[]⟩ _ _ hnum rfl (fun h => by cases h) (fun _ => rfl) (by simpa using c1) htext rfl (fun h => by cases h) (fun _ => rfl) (by simpa using c2)

theorem walk (x0 x1 : Int) (a2 : ByteArray) (a3 : Option Addr) (len3 cap3 : Nat) (z3 : List Int) (w : World) (w0 : (Lit.int .i64 x0).wf = true) (w1 : (Lit.int .i64 x1).wf = true) (w2 : a2.size ≤ maxLen) (w3 : IsRow .i64 w a3 len3 cap3 z3) :
    Calls Try.prog 5 #[.int .i64 x0, .int .i64 x1, .string a2, .slice a3 len3 cap3] w fun e w' => e = .returned (.bool true) ∧ Below w.heap.size w w' := by
  by_cases hl : 200 < a2.size ∨ 20 < len3
  · refine walk_long x0 x1 a2 a3 len3 cap3 w w2 hl ?_
    rcases w3 with ⟨_, rfl, _, _⟩ | ⟨x, _, h1, h2, _⟩
    · unfold maxLen; omega
    · omega
  · by_cases hz : len3 = 0
    · exact walk_both x0 x1 a2 0 0 len3 cap3 [] w (by omega) (by omega) (by simp [hz]) (by omega) (by omega) (by omega) a3 (by omega)
    · rcases w3 with ⟨_, h, _, _⟩ | ⟨x, rfl, h1, h2, h3, h4, h5⟩
      · exact absurd h hz
      · obtain ⟨b, off, rfl, hc⟩ := ints_at h4 (by omega)
        have hg : ∀ j, j < len3 → (z3.take len3).getD j 0 = z3.getD j 0 := fun j hj => by simp [hj]
        refine walk_both x0 x1 a2 b off len3 cap3 (z3.take len3) w (by omega) (by omega) (by rw [List.length_take]; omega) (fun _ => World.block_lt_of_cell? w _ (hc 0 (by omega))) (fun j hj => ?_) (fun j hj => ?_) _ (fun _ => rfl)
        · rw [hg j hj]
          have hm : z3.getD j 0 ∈ z3 := by
            rw [show z3.getD j 0 = z3[j]'(by omega) by simp [show j < z3.length by omega]]
            exact List.getElem_mem _
          exact bounds_i64 (h5 _ hm)
        · rw [hg j hj]; exact hc j (by omega)

theorem own : ownKnob Try.prog.godebug = none := by kernel_rfl
theorem laidOut : laidOutB Try.prog = true := by kernel_rfl

set_option maxRecDepth 100000 in
theorem lifted (os : Os) (started : os.Started) (H : Type) (enc : TypeId × Value → H) :
    ReturnsInHanded {} Try.checked os 5 .any (Rows.pithMostsSpec.pre6 enc Try.prog Try.f5 Rows.pithMostsRow.domain false) (Rows.pithMostsSpec.post enc Try.prog Try.f5 false true false false) := by
  refine returnsInHanded_of_change (C := Try.checked) own started (by kernel_rfl) Try.func5
    (ChangeSpec.witness6 (enc := enc) (C := Try.checked) false ⟨#[], #[.int .i64 0, .int .i64 0, .string ByteArray.empty, .slice none 0 0], []⟩ 8 (by kernel_rfl) (by kernel_rfl) (by kernel_rfl) (by kernel_rfl)) ?_
  intro W base args ds gs before hval0 hW hcnd _
  have hval : ∀ (j : Nat) t v, Try.f5.params[j]? = some t → args[j]? = some v → Value.okWide Try.prog W .any base t v := hval0
  have hW' := hW
  obtain ⟨p, q, hA0, hV, rfl, hfz, hnd⟩ := hW
  have hA : DataW.TrodAll enc Try.prog W 0 (fun _ => true) true Try.f5.params.toList args.toList ds p := hA0
  rw [Try.params5] at hA hval
  obtain ⟨v0, vs0, d0, ds0, p0, q0, hargs, rfl, rfl, h0, r0⟩ := trodAll_cons hA
  obtain ⟨v1, vs1, d1, ds1, p1, q1, rfl, rfl, rfl, h1, r1⟩ := trodAll_cons r0
  obtain ⟨v2, vs2, d2, ds2, p2, q2, rfl, rfl, rfl, h2, r2⟩ := trodAll_cons r1
  obtain ⟨v3, vs3, d3, ds3, p3, q3, rfl, rfl, rfl, h3, r3⟩ := trodAll_cons r2
  obtain ⟨rfl, rfl, rfl⟩ := trodAll_nil r3
  obtain rfl : args = #[v0, v1, v2, v3] := by cases args; simp_all
  obtain ⟨rfl, rfl⟩ := trodVars_none hV
  obtain ⟨a0, rfl, rfl, rfl, w0⟩ := open_int Try.underlying3 (hval 0 3 v0 rfl rfl) h0
  obtain ⟨a1, rfl, rfl, rfl, w1⟩ := open_int Try.underlying3 (hval 1 3 v1 rfl rfl) h1
  obtain ⟨a2, rfl, rfl, rfl, w2⟩ := open_string Try.underlying9 (hval 2 9 v2 rfl rfl) h2
  obtain ⟨a3, len3, cap3, rfl⟩ := okWide_slice Try.underlying38 (hval 3 38 v3 rfl rfl)
  have k3 := h3
  have lt3 : ∀ x ∈ p3, x.block < W.heap.size := by obtain ⟨m, hm⟩ := k3; exact DataW.trod_lt m _ _ _ hm
  obtain ⟨z3, w3⟩ : ∃ zs, IsRow .i64 W a3 len3 cap3 zs := by
    obtain ⟨fuel, hf⟩ := h3
    rcases open_ints Try.underlying38 Try.underlying3 (by kernel_rfl) hf with ⟨hcs, _⟩ | ⟨x, l, c, zs, hcs, _, hl, hm, hz, _, hcell, hwz⟩
    · simp [Value.cells] at hcs
      obtain ⟨rfl, rfl, rfl⟩ := hcs
      exact ⟨[], .inl ⟨rfl, rfl, rfl, rfl⟩⟩
    · simp [Value.cells] at hcs
      obtain ⟨rfl, rfl, rfl⟩ := hcs
      exact ⟨zs, .inr ⟨_, rfl, hl, hm, by simpa using hz, hcell, hwz⟩⟩
  clear hA0 hval0
  refine (walk a0 a1 a2 a3 len3 cap3 z3 W w0 w1 w2 w3).mono fun e W' ⟨he, bel⟩ => ?_
  subst he
  exact ⟨_, rfl, _, _, _, [], _, [], hW', trodAll_mk1 (shut_bool Try.underlying4 _), (trodAll_cons_mk (shut_int Try.underlying3 w0) (trodAll_cons_mk (shut_int Try.underlying3 w1) (trodAll_cons_mk (shut_string Try.underlying9 w2) (trodAll_cons_mk (Below.trod laidOut (by kernel_rfl) (of_decide_eq_true (by kernel_rfl)) k3 bel lt3) trodAll_mk0)))), rfl, bel.frame _, fun h => by cases h⟩

theorem over : Rows.pithMostsRow.holds Try.pinned (OpenSpec.ofChange Rows.pithMostsSpec) :=
  OpenClaim.holds_of_wide 5 Try.f5 rfl rfl rfl rfl rfl rfl rfl ⟨rfl, rfl, rfl, rfl, rfl⟩ rfl rfl rfl rfl rfl (by kernel_rfl) Try.func5 (by kernel_rfl)
    (of_decide_eq_true (by kernel_rfl)) (by unfold Func.isWrapper; first | (rw [if_pos (by decide +kernel)]; kernel_rfl) | (rw [if_neg (by decide +kernel)]; exact ⟨rfl, rfl⟩))
    (fun os started H enc _ => lifted os started H enc)

theorem proved : Rows.PithMostsSaid := over
end Go.Proofs.Ytefofhejaafgnaa.pithMosts
