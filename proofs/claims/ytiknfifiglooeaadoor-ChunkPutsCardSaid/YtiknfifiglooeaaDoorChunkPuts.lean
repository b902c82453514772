/- ChunkPuts: behind any Puts with any failure of the power, the store has the last snapshot that was answered, or the one under way, whole; no condition on the input (the two tables start as the program text lays them). -/
import Derived.Test.YtiknfifiglooeaaDoorChunkPw
import Derived.Test.YtiknfifiglooeaaDoorCards
import Derived.Test.YtiknfifiglooeaaDoorTie
import Derived.ProofKit
import Derived.OpenShut
import Derived.ShutString
import Derived.ChangeOld
import Derived.Deep.DeepHandedRow
import Derived.Lib.LaidTab
import Derived.Stop.LaidErr
namespace Go.Proofs.YtiknfifiglooeaaDoor.chunkPuts
open Go.ChangeShapes Go.WideShapes Go.ChangeAt Go.RowKit
open Go.ChangeMaps (open_string shut_string)
set_option linter.unusedVariables false
set_option maxRecDepth 100000
set_option maxHeartbeats 16000000 in
theorem walk (v0 : Value) (qs : List Aq7) (w : World) (w0 : Acts7 w v0 qs) (hT : Tabs w) :
    Calls Tryd.prog 6 #[v0] w fun e w' => e = .returned (.bool true) ∧ Below w.heap.size w w' := by
  have HT := Lib.hid (fun (x : World) (hb : Below w.heap.size w x) => hT.below hb)
  obtain ⟨va, vcap, rfl, hlen, _⟩ := id w0
  unfold maxLen at hlen
  have HACT := Lib.hid w0
  clear hT w0
  go_enter Tryd.func6, Tryd.ntmps6
  go_wp2_with fail
  refine (head7_any w HT.out).mono ?_
  rintro e w1 ⟨rfl, hb1⟩
  have HB1 := Lib.hid hb1
  by_cases hfew : 12 < qs.length
  · have hd : decide ((12 : Int) < (qs.length : Int)) = true := by simp; omega
    have hd2 : decide ((qs.length : Int) > 12) = true := by simp; omega
    clear hfew hlen
    go_wp2_with fail
    go_ret
    exact ⟨rfl, HB1.out⟩
  have hd : decide ((12 : Int) < (qs.length : Int)) = false := by simp; omega
  have hd2 : decide ((qs.length : Int) > 12) = false := by simp; omega
  have HLEN : Hid (qs.length ≤ 12) := by show _ ≤ _; omega
  clear hfew hlen hb1
  go_wp2_with fail
  refine (new_any 200 w1).mono ?_
  rintro e w3 ⟨B, rfl, hd3, hb3⟩
  have X3 : DevW w.heap.size (fun _ => False) w3 B (Dv.new ((200 : Nat) : Int)) := devw_new hd3 HB1.out.size (fun j hj => hj.elim) hb3.size
  have HB3 := Lib.hid (HB1.out.trans (hb3.mono HB1.out.size))
  obtain ⟨c1, n1, k1⟩ := new_calm 200 (by decide)
  have HC1 := Lib.hid c1
  have HN1 := Lib.hid n1
  have HK1 := Lib.hid k1
  have HL1 : Hid (∀ b ∈ (Dv.new ((200 : Nat) : Int)).bs, b.lost = false) := fun b hb => by
    have : b ∈ List.replicate (howMany ((200 : Nat) : Int)) blk0 := hb
    rw [List.eq_of_mem_replicate this]; rfl
  have HO := Lib.hid (st_open (M := 200) (base := 5) X3 HC1.out HN1.out (by decide) (by decide) HB3.out.size (HT.out _ HB3.out))
  have HH0 : Hid (Has (cont (Dv.new ((200 : Nat) : Int))) 5 ls0 0 0 0 ⟨#[]⟩) := .inl ⟨rfl, rfl, rfl, fun a n _ _ => by rw [cpC_rc0 (x := 0) (by rw [HK1.out])]; rfl⟩
  have hopn : opnC (cont (Dv.new ((200 : Nat) : Int))) 5 = (ls0, 0) := has_open HH0.out
  rw [hopn] at HO
  clear hopn X3 hd3 c1 n1 k1 hb3
  go_wp2_with fail
  refine HO.out.mono ?_
  rintro e w4 ⟨b, sv, ar, rfl, hbb, har, S4, hb4⟩
  obtain rfl : ar = 0 := by simpa using har
  have bA := (Below.refl w4.heap.size w4).alloc (Nat.le_refl _) (.cells #[.int .i64 0, .int .i64 0, .string ⟨#[]⟩] 80)
  have L5 := ShB.new w4 0 0 ⟨#[]⟩
  obtain ⟨lb, hlb⟩ : ∃ q, q = w4.heap.size := ⟨_, rfl⟩
  obtain ⟨E5, S5, hE5⟩ : ∃ E5 : Nat → Prop, StC w.heap.size E5 (w4.alloc (.cells #[.int .i64 0, .int .i64 0, .string ⟨#[]⟩] 80)) b B 200 5 ls0 sv 0 (Dv.new ((200 : Nat) : Int)) ∧ E5 lb := ⟨_, S4.grow bA, .inr ⟨by omega, by rw [hlb]; exact L5.lt⟩⟩
  have HB5 := Lib.hid ((HB3.out.trans (hb4.mono HB3.out.size)).trans (bA.mono (HB3.out.trans (hb4.mono HB3.out.size)).size))
  have HLM : Hid (w.heap.size ≤ lb) := by show _ ≤ _; have := (HB3.out.trans (hb4.mono HB3.out.size)).size; omega
  rw [← hlb] at L5
  clear S4 hb4 hbb har HO bA
  go_upto_region 10 with fail
  rw [← hlb]
  generalize w4.alloc (.cells #[.int .i64 0, .int .i64 0, .string ⟨#[]⟩] 80) = w5 at S5 L5 HB5 ⊢
  have HS5 := Lib.hid S5
  have HL5 := Lib.hid L5
  have HE5 := Lib.hid hE5
  clear S5 L5 hE5 hlb
  go_wp2_with fail
  go_loopw [3, 4, 29] (fun dv sv iv wx => ∃ (k : Nat) (E : Nat → Prop) (B b : Nat) (sv' : Value) (l : Ls) (ar : Nat) (D : Dv) (i0 t0 : Int) (s0 : ByteArray), k ≤ qs.length ∧ dv = .pointer (some ⟨B, 0, none⟩) ∧ sv = .pointer (some ⟨b, 0, none⟩) ∧ iv = .int .i64 (k : Int) ∧
    StC w.heap.size E wx b B 200 5 l sv' ar D ∧ (∀ b ∈ D.bs, b.lost = false) ∧ Has (cont D) 5 l ar i0 t0 s0 ∧ ShB wx lb i0 t0 s0 ∧ E lb ∧ i0 ≤ 8 * (k : Int) ∧ Below w.heap.size w wx) (fun _ _ iv _ => qs.length - (intOf iv).toNat)
  case atStart => exact ⟨0, E5, B, b, sv, ls0, 0, _, 0, 0, ⟨#[]⟩, Nat.zero_le _, rfl, rfl, rfl, HS5.out, HL1.out, HH0.out, HL5.out, HE5.out, by omega, HB5.out⟩
  case round =>
    obtain ⟨k, E, C, c, sk, l, ar, D, i0, t0, s0, hk, rfl, rfl, rfl, Sk, hlk, hhk, Lk, hEk, hik, Bk⟩ := hrel
    clear HS5 HL1 HH0 HL5 HE5 HB5 HK1 HC1 HN1
    by_cases hlt : k < qs.length
    case neg =>
      obtain rfl : k = qs.length := by omega
      have hge : ¬ ((qs.length : Int) < (qs.length : Int)) := by omega
      have HBk := Lib.hid Bk
      clear Sk hlk hhk Lk
      go_wp2_with fail
      go_ret
      exact ⟨rfl, HBk.out⟩
    have hlt' : (k : Int) < (qs.length : Int) := by omega
    have hk0 : (0 : Int) ≤ (k : Int) := by omega
    obtain ⟨hok, hfz, g, off, hga, a0, a1, a2, a3, a4⟩ := act7_at HACT.out Bk hlt
    subst hga
    obtain ⟨q, hq⟩ : ∃ q, q = qs.getD k aq0 := ⟨_, rfl⟩
    rw [← hq] at hok hfz a0 a1 a2 a3 a4
    obtain ⟨fa, fc, hfv, _⟩ := id hfz
    have A6 := ActB7.new wr q
    have bA := (Below.refl wr.heap.size wr).alloc (Nat.le_refl _) (.cells #[.int .i64 q.k, .int .i64 q.n, .int .i64 q.step, .int .i64 q.fall, q.fv] 82)
    obtain ⟨ab, hab⟩ : ∃ z, z = wr.heap.size := ⟨_, rfl⟩
    have HSK := Lib.hid Sk
    have HLK := Lib.hid hlk
    have HHK := Lib.hid hhk
    have HLB0 := Lib.hid Lk
    have HEK := Lib.hid hEk
    have HBK := Lib.hid Bk
    have HLT := Lib.hid hlt
    have HOK := Lib.hid hok
    have HFW := Lib.hid (act7_at HACT.out (Below.refl _ _) hlt).2.1
    rw [← hq, hfv] at HFW
    have HWK : Hid (wrap64 ((k : Int) + 1) = (k : Int) + 1) := IntWalk.wrap64_in _ (by have := HLEN.out; omega)
    have HIK := Lib.hid hik
    rw [← hab] at A6
    rw [hfv] at a4 A6 bA
    have HFV := Lib.hid hfv
    clear Sk hlk hhk Lk hEk Bk hlt hok hfz hik hq hfv hk
    go_upto_region 13 with fail
    rw [← hab]
    generalize wr.alloc (.cells #[.int .i64 q.k, .int .i64 q.n, .int .i64 q.step, .int .i64 q.fall, .slice fa q.zs.length fc] 82) = w6 at A6 bA ⊢
    obtain ⟨E6, hE6, S6, hEa⟩ : ∃ E6 : Nat → Prop, (∀ j, E j → E6 j) ∧ StoW w.heap.size E6 w6 c C ((5 : Nat) : Int) l sk (ar : Int) D ∧ E6 ab := ⟨_, fun j h => .inl h, HSK.out.sto.grow bA, .inr ⟨by omega, lt_of_block A6⟩⟩
    have HS6 := Lib.hid S6
    have HB6 := Lib.hid (HBK.out.trans (bA.mono HBK.out.size))
    have HL6 := Lib.hid (HLB0.out.below bA)
    have HEL := Lib.hid (hE6 lb HEK.out)
    have HEA := Lib.hid hEa
    have A6' : ActB7 w6 ab q := A6
    have HA6 := Lib.hid A6'
    obtain ⟨y0, y1, y2, y3, y4⟩ := A6'.cells
    rw [HFV.out] at y4
    clear bA A6 A6' S6 hE6 hEa hab HLB0 HEK HBK a0 a1 a2 a3 a4
    by_cases h60 : 60 < q.zs.length
    · have hx : decide ((60 : Int) < (q.zs.length : Int)) = true := by simp; omega
      have hx2 : decide ((q.zs.length : Int) > 60) = true := by simp; omega
      clear h60
      go_wp2_with fail
      go_ret
      exact ⟨rfl, HB6.out⟩
    have hx : decide ((60 : Int) < (q.zs.length : Int)) = false := by simp; omega
    have hx2 : decide ((q.zs.length : Int) > 60) = false := by simp; omega
    clear h60
    obtain ⟨kq, hkq⟩ : ∃ kq : Int, kq = q.k % 4 := ⟨_, rfl⟩
    by_cases hfall : q.fall % 2 = 1
    · have hf1 : bits .and .i64 q.fall 1 = 1 := by rw [i64_and1]; exact hfall
      obtain ⟨tf, htf⟩ : ∃ tf : Int, bits .and .i64 (q.fall / 2) 15 = tf := ⟨_, rfl⟩
      have htf2 : tf ≤ 15 := by rw [i64_and15] at htf; omega
      have HTF := Lib.hid htf2
      have HFL := Lib.hid (devw_fall tf (by omega) HB6.out.size HS6.out.dev)
      clear hfall htf2
      go_wp2_with fail
      refine HFL.out.mono ?_
      rintro e w7 ⟨rfl, X7, hb7, hk7⟩
      have HS7 := Lib.hid (HS6.out.turn X7 hk7 (fun _ h => h) hb7.size)
      have HB7 := Lib.hid (HB6.out.trans hb7)
      have HL7 := Lib.hid (HL6.out.keep hk7 HEL.out)
      have HA7 := Lib.hid (HA6.out.keep hk7 HEA.out)
      clear X7 hb7 hk7 HFL HS6 HB6 HL6 HA6
      have l0 := HL7.out.cells.1
      have l1 := HL7.out.cells.2.1
      have l2' := HL7.out.cells.2.2
      have bN := (Below.refl w7.heap.size w7).alloc (Nat.le_refl _) (.cells #[.int .i64 i0, .int .i64 t0, .string s0] 80)
      have N8 := ShB.new w7 i0 t0 s0
      obtain ⟨nb, hnb'⟩ : ∃ z, z = w7.heap.size := ⟨_, rfl⟩
      rw [← hnb'] at N8
      have HLN : Hid (lb ≠ nb) := by show lb ≠ nb; have := HL7.out.lt; omega
      go_upto_region 18 with fail
      rw [← hnb']
      generalize w7.alloc (.cells #[.int .i64 i0, .int .i64 t0, .string s0] 80) = w8 at N8 bN ⊢
      obtain ⟨E8, hE8, S8, hEn⟩ : ∃ E8 : Nat → Prop, (∀ j, E6 j → E8 j) ∧ StoW w.heap.size E8 w8 c C ((5 : Nat) : Int) l sk (ar : Int) (D.fall tf) ∧ E8 nb := ⟨_, fun j h => .inl h, HS7.out.grow bN, .inr ⟨by omega, N8.lt⟩⟩
      have HS8 := Lib.hid S8
      have HB8 := Lib.hid (HB7.out.trans (bN.mono HB7.out.size))
      have HL8 := Lib.hid (HL7.out.below bN)
      have HA8 := Lib.hid (HA7.out.below bN)
      have HN8 := Lib.hid N8
      have HEN := Lib.hid hEn
      have HEL8 := Lib.hid (hE8 lb HEL.out)
      have HEA8 := Lib.hid (hE8 ab HEA.out)
      have HNM : Hid (w.heap.size ≤ nb) := by show _ ≤ _; have := HB7.out.size; omega
      clear bN N8 S8 hE8 hEn hnb' l0 l1 l2' y0 y1 y2 y3 y4
      obtain ⟨x0, x1, x2, x3, x4⟩ := HA8.out.cells
      rw [HFV.out] at x4
      by_cases hk4 : kq < 3
      · have hk3 : True := trivial
        have hk3 : bits .and .i64 q.k 3 = kq := by rw [i64_and3, hkq]
        have hkl : decide (kq < (3 : Int)) = true := decide_eq_true hk4
        have HKL := Lib.hid hk4
        obtain ⟨st, hst⟩ : ∃ st : Int, bits .and .i64 q.step 7 = st := ⟨_, rfl⟩
        have hst2 : 0 ≤ st ∧ st ≤ 7 := by rw [i64_and7] at hst; omega
        obtain ⟨nn, hnn⟩ : ∃ nn : Nat, bits .and .i64 q.n 2047 = (nn : Int) := ⟨(q.n % 2048).toNat, by rw [i64_and2047]; omega⟩
        have hnn2 : nn ≤ 2047 := by rw [i64_and2047] at hnn; omega
        obtain ⟨i1, hi1⟩ : ∃ i1 : Int, i1 = i0 + 1 + st := ⟨_, rfl⟩
        have hir : 0 ≤ i0 ∧ i0 ≤ 96 := by have := HHK.out.index; have := HIK.out; have := HLT.out; have := HLEN.out; omega
        have HI1 : Hid (i0 < i1 ∧ i1 ≤ i0 + 8 ∧ 0 ≤ i0 ∧ i1 ≤ 104) := by show i0 < i1 ∧ i1 ≤ i0 + 8 ∧ 0 ≤ i0 ∧ i1 ≤ 104; omega
        have HW1 : Hid (IntKind.i64.wrap (i0 + 1) = i0 + 1) := IntWalk.i64_in _ (by omega)
        have HW2 : Hid (IntKind.i64.wrap (i0 + 1 + st) = i1) := by show _ = _; rw [hi1]; exact IntWalk.i64_in _ (by omega)
        have HW3 : Hid (IntKind.i64.wrap (1 + (k : Int)) = 1 + (k : Int)) := IntWalk.i64_in _ (by have := HLT.out; have := HLEN.out; omega)
        have HST := Lib.hid hst
        have HNN := Lib.hid hnn
        have HN2 : Hid (nn ≤ 1000000) := by show _ ≤ _; omega
        have HN3 : Hid (nn ≤ 2047) := hnn2
        have HLB := Lib.hid (fun (W : World) (hb : Below w8.drew.heap.size w8.drew W) => HL8.out.below (((Below.refl _ w8).drew).trans hb))
        have HAB := Lib.hid (fun (W : World) (hb : Below w8.drew.heap.size w8.drew W) => HA8.out.below (((Below.refl _ w8).drew).trans hb))
        have HNB := Lib.hid (fun (W : World) (hb : Below w8.drew.heap.size w8.drew W) => HN8.out.below (((Below.refl _ w8).drew).trans hb))
        clear hst hst2 hnn hnn2 hi1 hir hkq hk4
        go_upto_region 19 with fail
        clear x0 x1 x2 x3 x4
        refine wp_region_steps_last 15 (atP [fun v _ => v = (.pointer (some ⟨lb, 0, none⟩)),
          fun v _ => v = (.int .i64 i0),
          fun v _ => v = (.int .i64 (i0 + 1)),
          fun v _ => v = (.pointer (some ⟨ab, 2, none⟩)),
          fun v _ => v = (.int .i64 q.step),
          fun v _ => v = (.int .i64 st),
          fun v _ => v = (.int .i64 i1),
          fun v _ => v = (.int .i64 (k : Int)),
          fun v _ => v = (.int .i64 (1 + (k : Int))),
          fun v _ => v = (.pointer (some ⟨ab, 1, none⟩)),
          fun v _ => v = (.int .i64 q.n),
          fun v _ => v = (.int .i64 (nn : Int)),
          fun v _ => v = (.int .i64 (k : Int)),
          fun v W => ∃ sx : ByteArray, v = .string sx ∧ sx.size = nn,
          fun v W => ∃ sx : ByteArray, v = .agg #[.int .i64 i1, .int .i64 (1 + (k : Int)), .string sx] ∧ sx.size = nn]) (fun w w' => Below w.heap.size w w') (by kernel_rfl) (by kernel_rfl) (by kernel_rfl) (by kernel_rfl) (by kernel_rfl) (Below.refl _ _) (fun i v w w' _ h1 h2 => atP_keep (R := fun w w' => Below w.heap.size w w') (atK1 (fun _ _ _ h _ => h) (atK1 (fun _ _ _ h _ => h) (atK1 (fun _ _ _ h _ => h) (atK1 (fun _ _ _ h _ => h) (atK1 (fun _ _ _ h _ => h) (atK1 (fun _ _ _ h _ => h) (atK1 (fun _ _ _ h _ => h) (atK1 (fun _ _ _ h _ => h) (atK1 (fun _ _ _ h _ => h) (atK1 (fun _ _ _ h _ => h) (atK1 (fun _ _ _ h _ => h) (atK1 (fun _ _ _ h _ => h) (atK1 (fun _ _ _ h _ => h) (atK1 (fun _ _ _ h _ => h) (atK1 (fun _ _ _ h _ => h) (atK0)))))))))))))))) i h1 h2) (fun u v w h1 h2 => h1.trans (h2.mono h1.size)) ?_ ?_
        · intro q9 o hq9 ho x W1 hR hF
          match q9, ho with
          | 0, ho =>
            obtain rfl := Option.some.inj ho
            exact gstep_field rfl (wanted0 rfl) _ _ _ rfl _ (eval_of 6 _ (by kernel_rfl) rfl) _ ((by go_simp)) ⟨_, rfl, rfl, Below.refl _ _⟩
          | 1, ho =>
            obtain rfl := Option.some.inj ho
            exact gstep_load rfl (wanted0 rfl) _ _ rfl _ (eval_at 53 0 _ (by kernel_rfl) (show 53 < 130 by decide) (hF 0 (by kernel_rfl))) _ (run_loadI W1 _ _ (HLB.out W1 hR).cells.1) ⟨_, rfl, rfl, Below.refl _ _⟩
          | 2, ho =>
            obtain rfl := Option.some.inj ho
            exact gstep_bin rfl (wanted0 rfl) _ _ _ _ _ rfl _ _ (eval_at 54 1 _ (by kernel_rfl) (show 54 < 130 by decide) (hF 1 (by kernel_rfl))) rfl _ (run_addI W1 _ _ _ HW1.out _ _) ⟨_, rfl, rfl, Below.refl _ _⟩
          | 3, ho =>
            obtain rfl := Option.some.inj ho
            exact gstep_field rfl (wanted0 rfl) _ _ _ rfl _ (eval_of 8 _ (by kernel_rfl) rfl) _ ((by go_simp)) ⟨_, rfl, rfl, Below.refl _ _⟩
          | 4, ho =>
            obtain rfl := Option.some.inj ho
            exact gstep_load rfl (wanted0 rfl) _ _ rfl _ (eval_at 56 3 _ (by kernel_rfl) (show 56 < 130 by decide) (hF 3 (by kernel_rfl))) _ (run_loadI W1 _ _ (HAB.out W1 hR).cells.2.2.1) ⟨_, rfl, rfl, Below.refl _ _⟩
          | 5, ho =>
            obtain rfl := Option.some.inj ho
            exact gstep_bin rfl (wanted0 rfl) _ _ _ _ _ rfl _ _ (eval_at 57 4 _ (by kernel_rfl) (show 57 < 130 by decide) (hF 4 (by kernel_rfl))) rfl _ (run_andI W1 _ _ _ HST.out _ _) ⟨_, rfl, rfl, Below.refl _ _⟩
          | 6, ho =>
            obtain rfl := Option.some.inj ho
            exact gstep_bin rfl (wanted0 rfl) _ _ _ _ _ rfl _ _ (eval_at 55 2 _ (by kernel_rfl) (show 55 < 130 by decide) (hF 2 (by kernel_rfl))) (eval_at 58 5 _ (by kernel_rfl) (show 58 < 130 by decide) (hF 5 (by kernel_rfl))) _ (run_addI W1 _ _ _ HW2.out _ _) ⟨_, rfl, rfl, Below.refl _ _⟩
          | 7, ho =>
            obtain rfl := Option.some.inj ho
            exact gstep_move rfl (wanted0 rfl) _ rfl _ (eval_of 7 _ (by kernel_rfl) rfl) ⟨_, rfl, rfl, Below.refl _ _⟩
          | 8, ho =>
            obtain rfl := Option.some.inj ho
            exact gstep_bin rfl (wanted0 rfl) _ _ _ _ _ rfl _ _ rfl (eval_at 60 7 _ (by kernel_rfl) (show 60 < 130 by decide) (hF 7 (by kernel_rfl))) _ (run_addI W1 _ _ _ HW3.out _ _) ⟨_, rfl, rfl, Below.refl _ _⟩
          | 9, ho =>
            obtain rfl := Option.some.inj ho
            exact gstep_field rfl (wanted0 rfl) _ _ _ rfl _ (eval_of 8 _ (by kernel_rfl) rfl) _ ((by go_simp)) ⟨_, rfl, rfl, Below.refl _ _⟩
          | 10, ho =>
            obtain rfl := Option.some.inj ho
            exact gstep_load rfl (wanted0 rfl) _ _ rfl _ (eval_at 62 9 _ (by kernel_rfl) (show 62 < 130 by decide) (hF 9 (by kernel_rfl))) _ (run_loadI W1 _ _ (HAB.out W1 hR).cells.2.1) ⟨_, rfl, rfl, Below.refl _ _⟩
          | 11, ho =>
            obtain rfl := Option.some.inj ho
            exact gstep_bin rfl (wanted0 rfl) _ _ _ _ _ rfl _ _ (eval_at 63 10 _ (by kernel_rfl) (show 63 < 130 by decide) (hF 10 (by kernel_rfl))) rfl _ (run_andI W1 _ _ _ HNN.out _ _) ⟨_, rfl, rfl, Below.refl _ _⟩
          | 12, ho =>
            obtain rfl := Option.some.inj ho
            exact gstep_move rfl (wanted0 rfl) _ rfl _ (eval_of 7 _ (by kernel_rfl) rfl) ⟨_, rfl, rfl, Below.refl _ _⟩
          | 13, ho =>
            obtain rfl := Option.some.inj ho
            refine gstep_call2 rfl (wanted0 rfl) _ _ _ _ rfl _ _ (eval_at 64 11 _ (by kernel_rfl) (show 64 < 130 by decide) (hF 11 (by kernel_rfl))) (eval_at 65 12 _ (by kernel_rfl) (show 65 < 130 by decide) (hF 12 (by kernel_rfl))) (by go_simp) ?_
            refine (text7_any nn (k : Int) HN2.out W1).mono ?_
            rintro e w2 ⟨sx, rfl, hsx, hb⟩
            exact ⟨_, rfl, _, rfl, ⟨sx, rfl, hsx⟩, hb⟩
          | 14, ho =>
            obtain rfl := Option.some.inj ho
            obtain ⟨sx, hx1, hx2⟩ := hF 13 (by kernel_rfl)
            exact gstep_mkS rfl (wanted0 rfl) _ _ _ rfl _ _ _ (eval_at 59 6 _ (by kernel_rfl) (show 59 < 130 by decide) (hF 6 (by kernel_rfl))) (eval_at 61 8 _ (by kernel_rfl) (show 61 < 130 by decide) (hF 8 (by kernel_rfl))) (eval_at 66 13 _ (by kernel_rfl) (show 66 < 130 by decide) hx1) ⟨_, rfl, ⟨sx, rfl, hx2⟩, Below.refl _ _⟩
          | n + 15, ho => exact absurd hq9 (by omega)
        · intro o ho x w5 hR hF
          obtain rfl := Option.some.inj ho
          obtain ⟨s1, hx1, hs1⟩ := hF 14 (by decide)
          have hnb := HNB.out w5 hR
          refine gstep_store rfl (wanted0 rfl) _ _ _ rfl _ _ (eval_of 9 _ (by kernel_rfl) rfl) (eval_at 67 14 _ (by kernel_rfl) (show 67 < 130 by decide) hx1) _ (run_stSh hnb i1 (1 + (k : Int)) s1) ?_
          have S9 := (HS8.out.below (((Below.refl _ w8).drew).trans hR)).shot hnb HEN.out i1 (1 + (k : Int)) s1
          have L9 : ShB (setSh w5 nb i1 (1 + (k : Int)) s1) lb i0 t0 s0 := (setSh_other HLN.out).trans (HLB.out w5 hR)
          have N9 := hnb.set i1 (1 + (k : Int)) s1
          have A9 : ActB7 (setSh w5 nb i1 (1 + (k : Int)) s1) ab q := (setSh_other ((HAB.out w5 hR).ne_shot hnb)).trans (HAB.out w5 hR)
          have B9 := below_setSh (HB8.out.trans ((((Below.refl _ w8).drew).trans hR).mono HB8.out.size)) HNM.out i1 (1 + (k : Int)) s1
          generalize setSh w5 nb i1 (1 + (k : Int)) s1 = w9 at S9 L9 N9 A9 B9 ⊢
          simp only [putAll, Act.put, List.setIfInBounds_toArray, List.set_cons_succ, List.set_cons_zero]
          have hg : (ofL i1 (1 + (k : Int)) s1).Good := ofL_good2 (by have := HI1.out; omega) (by have := HLT.out; have := HLEN.out; omega) (by have := HN3.out; omega)
          have HG := Lib.hid hg
          have HS9 := Lib.hid S9
          have HL9 := Lib.hid L9
          have HN9 := Lib.hid N9
          have HA9 := Lib.hid A9
          have HB9 := Lib.hid B9
          have hne1 := S9.ne_shot L9
          have hne2 := S9.ne_shot N9
          have hne3 : ab ≠ c := fun e => by
            have h2 := S9.st
            have h3 := A9
            unfold CsB at h2
            unfold ActB7 at h3
            rw [e, h2] at h3
            simp at h3
          have HNE := Lib.hid (And.intro hne1 (And.intro hne2 hne3))
          have HPT := Lib.hid (st_put_power (M := 200) i1 (1 + (k : Int)) s1 S9 (show Neat D.bs from calm_neat HSK.out.calm HLK.out) HSK.out.len (by decide) (by decide) HSK.out.ar HSK.out.calm.writes hg (by have := HI1.out; have := HHK.out.index; omega) B9.size (fun x hx => HT.out x (B9.trans hx)))
          obtain ⟨n0, n1, n2⟩ := HN9.out.cells
          clear hR hF hx1 hnb hs1 S9 L9 N9 A9 B9 hg hne1 hne2 hne3 HS8 HB8 HL8 HA8 HN8 HLB HAB HNB
          go_wp2_with fail
          refine HPT.out.mono ?_
          rintro e wq ⟨f, EQ, DQ, rfl, hf, hEQ, hdv, hbq, hkq', hwq, hql, hqn, hq0, hqx⟩
          have HDV := Lib.hid hdv
          have HBQ := Lib.hid (HB9.out.trans hbq)
          have HWQ := Lib.hid hwq
          have HQL := Lib.hid hql
          have HQN := Lib.hid hqn
          have HQ0 := Lib.hid hq0
          have HQX := Lib.hid hqx
          have HLQ := Lib.hid (HL9.out.keep hkq' ⟨HEL8.out, HNE.out.1⟩)
          have HNQ := Lib.hid (HN9.out.keep hkq' ⟨HEN.out, HNE.out.2.1⟩)
          have HAQ := Lib.hid (HA9.out.keep hkq' ⟨HEA8.out, HNE.out.2.2⟩)
          have HEQ := Lib.hid (hEQ lb HEL8.out)
          clear n0 n1 n2 hdv hbq hwq hql hqn hq0 hqx hkq' hEQ HPT HS9 HL9 HN9 HA9 HB9 HNE
          obtain ⟨n0, n1, n2⟩ := HNQ.out.cells
          rcases hf with rfl | rfl
          · -- answered: the last one is the new one
            have hST := Lib.hid (run_stSh HLQ.out i1 (1 + (k : Int)) s1)
            have HL11 := Lib.hid (HLQ.out.set i1 (1 + (k : Int)) s1)
            have HA11 : Hid (ActB7 (setSh wq lb i1 (1 + (k : Int)) s1) ab q) := Lib.hid ((setSh_other (HAQ.out.ne_shot HLQ.out)).trans HAQ.out)
            have HN11 : Hid (ShB (setSh wq lb i1 (1 + (k : Int)) s1) nb i1 (1 + (k : Int)) s1) := Lib.hid ((setSh_other (Ne.symm HLN.out)).trans HNQ.out)
            have HB11 := Lib.hid (below_setSh HBQ.out HLM.out i1 (1 + (k : Int)) s1)
            have HD11 : Hid (DevW w.heap.size EQ (setSh wq lb i1 (1 + (k : Int)) s1) C DQ) := Lib.hid (((HDV.out.setCellC (p := ⟨lb, 0, none⟩) HEQ.out _).setCellC (p := ⟨lb, 1, none⟩) HEQ.out _).setCellC (p := ⟨lb, 2, none⟩) HEQ.out _)
            go_upto_region 25 with (first | (refine wpList_store_run7 hST.out rfl rfl rfl rfl ?_))
            clear hST n0 n1 n2 HDV HBQ HLQ HNQ HAQ
            generalize setSh wq lb i1 (1 + (k : Int)) s1 = w11 at HL11 HA11 HN11 HB11 HD11 ⊢
            have HDN := Lib.hid (devw_down HD11.out)
            obtain ⟨dn, hdn⟩ : ∃ z, z = DQ.down := ⟨_, rfl⟩
            rw [← hdn] at HDN
            clear hdn
            obtain ⟨z0, z1, z2, z3, z4⟩ := HA11.out.cells
            simp only [Act.put]
            go_cut [95] (fun v wx => v = .bool false ∧ wx = w11)
            case first =>
              go_wp2_with fail
              refine HDN.out.mono ?_
              rintro e w12 ⟨rfl, rfl⟩
              cases dn with
              | true => go_wp2_with fail; go_meet; exact ⟨rfl, rfl⟩
              | false => go_wp2_with fail; go_meet; exact ⟨rfl, rfl⟩
            case rest =>
              obtain ⟨rfl, hwc⟩ := hcut
              obtain rfl : w11 = _ := hwc.symm
              clear HDN z0 z1 z2 z3 z4
              have HDV := HD11
              have HBQ := HB11
              have HLQ := HL11
              have HNQ := HN11
              have HAQ := HA11
              have HPOST : Hid (Calm (DQ.crash q.zs) ∧ (∀ b ∈ (DQ.crash q.zs).bs, b.lost = false) ∧ (DQ.crash q.zs).bs.length = 200 ∧ ∃ (l2 : Ls) (ar2 : Nat) (i2 t2 : Int) (s2 : ByteArray), Has (cont (DQ.crash q.zs)) 5 l2 ar2 i2 t2 s2 ∧ ((l2.index = i1 ∧ l2.index ≠ 0 ∧ i2 = i1 ∧ t2 = 1 + (k : Int) ∧ s2 = s1) ∨ ((l2.index = 0 ∨ l2.index ≠ i1) ∧ i2 = i1 ∧ t2 = 1 + (k : Int) ∧ s2 = s1)) ∧ i2 ≤ 8 * ((k : Int) + 1)) := by
                show _ ∧ _
                obtain ⟨c1, c2⟩ := calm_crash HQL.out q.zs
                obtain ⟨x1, x2⟩ := HQ0.out (by trivial)
                refine ⟨c1, c2, by rw [crash_bs, List.length_map]; exact HQN.out, ofL i1 (1 + (k : Int)) s1, nxtA l ar, i1, 1 + (k : Int), s1, .inr ⟨rfl, ?_⟩, .inl ⟨rfl, by have := HI1.out; show i1 ≠ 0; omega, rfl, rfl, rfl⟩, by have := HI1.out; have := HIK.out; omega⟩
                have he : cont (DQ.crash q.zs) = putC (cont D) (5 + nxtA l ar * 66) i1 (1 + (k : Int)) s1 := by
                  rw [cont_B, crash_bs]
                  funext j
                  unfold contB
                  rw [crash_same x1 rfl]
                  exact congrFun x2 j
                rw [he]
                exact has_put HHK.out HG.out HI1.out.1
              clear HD11 HB11 HL11 HN11 HA11 HQ0 HQX
              obtain ⟨p1, p2, p3, l2, ar2, i2, t2, s2, p4, p5, p6⟩ := HPOST.out
              obtain ⟨DC, hDC⟩ : ∃ DC, DC = DQ.crash q.zs := ⟨_, rfl⟩
              have HCR := Lib.hid (devw_crash _ q.zs HWQ.out HDV.out (HFW.out.below HBQ.out))
              rw [← hDC] at p1 p2 p3 p4 HCR
              have HP1 := Lib.hid p1
              have HP2 := Lib.hid p2
              have HP3 := Lib.hid p3
              have HP4 := Lib.hid p4
              have HP5 := Lib.hid p5
              have HP6 := Lib.hid p6
              obtain ⟨z0, z1, z2, z3, z4⟩ := HAQ.out.cells
              rw [HFV.out] at z4
              clear p1 p2 p3 p4 p5 p6 hDC HPOST
              go_wp2_with fail
              refine HCR.out.mono ?_
              rintro e w20 ⟨CC, rfl, hd20, hb20⟩
              have X20 : DevW w.heap.size (fun j => j < w11.heap.size) w20 CC DC := devw_new hd20 HBQ.out.size (fun j hj => hj) hb20.size
              have HB20 := Lib.hid (HBQ.out.trans (hb20.mono HBQ.out.size))
              have HL20 := Lib.hid (HLQ.out.below hb20)
              have HN20 := Lib.hid (HNQ.out.below hb20)
              have hlq : lb < w11.heap.size := HLQ.out.lt
              have HO := Lib.hid (st_open (M := 200) (base := 5) X20 HP1.out HP3.out (by decide) (by decide) HB20.out.size (HT.out _ HB20.out))
              rw [has_open HP4.out] at HO
              clear HCR X20 hd20 hb20 z0 z1 z2 z3 z4 HAQ HLQ HNQ HDV HWQ
              go_wp2_with fail
              refine HO.out.mono ?_
              rintro e w21 ⟨b2, sv2, arx, rfl, _, har2, S21, hb21⟩
              obtain rfl : arx = ar2 := by have h9 : (arx : Int) = (ar2 : Int) := har2; omega
              obtain ⟨E21, S21', hE21⟩ : ∃ E21 : Nat → Prop, StC w.heap.size E21 w21 b2 CC 200 5 l2 sv2 arx DC ∧ E21 lb := ⟨_, S21, .inl hlq⟩
              have HS21 := Lib.hid S21'
              have HE21 := Lib.hid hE21
              have HB21 := Lib.hid (HB20.out.trans (hb21.mono HB20.out.size))
              have HL21 := Lib.hid (HL20.out.below hb21)
              have HN21 := Lib.hid (HN20.out.below hb21)
              have HLi := Lib.hid (clist_any l2 HS21.out.sto.st HS21.out.sto.sums)
              obtain ⟨isB, hisB⟩ : ∃ z, z = decide (l2.index ≠ 0) := ⟨_, rfl⟩
              rw [← hisB] at HLi
              have HIB := Lib.hid hisB
              clear hisB
              clear S21 S21' hE21 hb21 har2 hlq HO HL20 HN20 HB20
              go_wp2_with fail
              refine HLi.out.mono ?_
              rintro e w22 ⟨sv3, rfl, hrow, hb22⟩
              obtain ⟨ra, rc, rfl⟩ := slice_of hrow
              obtain ⟨hl, hhl⟩ : ∃ hl, hl = hasL l2 := ⟨_, rfl⟩
              have HHL := Lib.hid hhl
              rw [← hhl]
              have bA := (Below.refl w22.heap.size w22).alloc (Nat.le_refl _) (.cells #[.int .i64 hl.index, .int .i64 hl.term, .int .i64 hl.bytes, .slice ra hl.sums.length rc] 67)
              have Y23 := LsB.new w22 hl.index hl.term hl.bytes (.slice ra hl.sums.length rc)
              obtain ⟨yb, hyb⟩ : ∃ z, z = w22.heap.size := ⟨_, rfl⟩
              have HB23 := Lib.hid ((HB21.out.trans (hb22.mono HB21.out.size)).trans (bA.mono (HB21.out.trans (hb22.mono HB21.out.size)).size))
              have HS23 := Lib.hid ((HS21.out.below hb22).below bA)
              have HL23 := Lib.hid ((HL21.out.below hb22).below bA)
              have HN23 := Lib.hid ((HN21.out.below hb22).below bA)
              rw [← hyb] at Y23
              clear hhl hb22 hrow HLi bA HS21 HL21 HN21 HB21
              unfold lsV
              simp only
              go_upto_region 33 with fail
              rw [← hyb]
              generalize w22.alloc (.cells #[.int .i64 hl.index, .int .i64 hl.term, .int .i64 hl.bytes, .slice ra hl.sums.length rc] 67) = w23 at Y23 HB23 HS23 HL23 HN23 ⊢
              obtain ⟨⟨q0, q1, q2, q3⟩, _⟩ := Y23.cells
              obtain ⟨n0, n1, n2⟩ := HN23.out.cells
              clear Y23 hyb
              rcases HP5.out with ⟨g1, g2, g3, g4, g5⟩ | ⟨g1, g3, g4, g5⟩
              · obtain rfl : i1 = i2 := g3.symm
                obtain rfl : (1 + (k : Int)) = t2 := g4.symm
                obtain rfl : s1 = s2 := g5.symm
                have hhi : hl.index = i1 := by rw [HHL.out]; unfold hasL; rw [if_neg g2]; exact g1
                rw [hhi] at q0
                obtain rfl : true = isB := by rw [HIB.out]; exact (decide_eq_true g2).symm
                have hST := Lib.hid (run_stSh HL23.out i1 (1 + (k : Int)) s1)
                have S24 := HS23.out.sto.shot HL23.out HE21.out i1 (1 + (k : Int)) s1
                have L24 := HL23.out.set i1 (1 + (k : Int)) s1
                have B24 := below_setSh HB23.out HLM.out i1 (1 + (k : Int)) s1
                have HS24 := Lib.hid S24
                have HL24 := Lib.hid L24
                have HB24 := Lib.hid B24
                have hbe : (i1 == i1) = true := by simp
                clear S24 L24 B24 g1 g2 hhi
                go_upto_region 35 with (first | (refine wpList_store_run7 hST.out rfl rfl rfl rfl ?_))
                have HC24 : Hid (StC w.heap.size E21 (setSh w23 lb i1 (1 + (k : Int)) s1) b2 CC 200 5 l2 sv2 arx DC) := Lib.hid { HS23.out with sto := HS24.out }
                generalize setSh w23 lb i1 (1 + (k : Int)) s1 = w24 at HC24 HL24 HB24 ⊢
                obtain ⟨m0, m1, m2⟩ := HL24.out.cells
                have HHO := Lib.hid (holds_has HC24.out HP4.out (fun x hx => HT.out x (HB24.out.trans (hx.mono HB24.out.size))))
                clear HS24 hST n0 n1 n2 q0 q1 q2 q3 HS23 HL23 HN23 HB23
                go_wp2_with fail
                refine HHO.out.mono ?_
                rintro e w25 ⟨rfl, hb25⟩
                have HC25 := Lib.hid (HC24.out.below hb25)
                have HL25 := Lib.hid (HL24.out.below hb25)
                have HB25 := Lib.hid (HB24.out.trans (hb25.mono HB24.out.size))
                clear hb25 HHO m0 m1 m2 HC24 HL24 HB24
                go_wp2_with fail
                try rw [HWK.out]
                refine ⟨⟨k + 1, E21, CC, b2, sv2, l2, arx, DC, i1, (1 + (k : Int)), s1, HLT.out, rfl, rfl, by simp, HC25.out, HP2.out, HP4.out, HL25.out, HE21.out, by have := HP6.out; omega, HB25.out⟩, ?_⟩
                have := HLT.out
                simp [intOf]
                omega
              · obtain rfl : i1 = i2 := g3.symm
                obtain rfl : (1 + (k : Int)) = t2 := g4.symm
                obtain rfl : s1 = s2 := g5.symm
                have hcase : (false = isB) ∨ (true = isB ∧ (hl.index == i1) = false) := by
                  by_cases h0 : l2.index = 0
                  · exact .inl (by rw [HIB.out]; simp [h0])
                  · refine .inr ⟨by rw [HIB.out]; exact (decide_eq_true h0).symm, beq_eq_false_iff_ne.2 ?_⟩
                    rw [HHL.out]; unfold hasL; rw [if_neg h0]
                    exact g1.resolve_left h0
                have HCS := Lib.hid hcase
                obtain ⟨m0, m1, m2⟩ := HL23.out.cells
                have HHO := Lib.hid (holds_has HS23.out HP4.out (fun x hx => HT.out x (HB23.out.trans (hx.mono HB23.out.size))))
                clear g1 hcase
                rcases HCS.out with rfl | ⟨rfl, hne⟩
                all_goals
                  go_wp2_with fail
                  refine HHO.out.mono ?_
                  rintro e w25 ⟨rfl, hb25⟩
                  have HC25 := Lib.hid (HS23.out.below hb25)
                  have HL25 := Lib.hid (HL23.out.below hb25)
                  have HB25 := Lib.hid (HB23.out.trans (hb25.mono HB23.out.size))
                  clear hb25 HHO m0 m1 m2 n0 n1 n2 q0 q1 q2 q3
                  go_wp2_with fail
                  try rw [HWK.out]
                  refine ⟨⟨k + 1, E21, CC, b2, sv2, l2, arx, DC, i1, (1 + (k : Int)), s1, HLT.out, rfl, rfl, by simp, HC25.out, HP2.out, HP4.out, HL25.out, HE21.out, by have := HP6.out; omega, HB25.out⟩, ?_⟩
                  have := HLT.out
                  simp [intOf]
                  omega
          · -- the power failed
            have HDN := Lib.hid (devw_down HDV.out)
            obtain ⟨dn, hdn⟩ : ∃ z, z = DQ.down := ⟨_, rfl⟩
            rw [← hdn] at HDN
            clear hdn
            obtain ⟨z0, z1, z2, z3, z4⟩ := HAQ.out.cells
            go_upto_region 25 with fail
            go_cut [95] (fun v wx => v = .bool false ∧ wx = wq)
            case first =>
              go_wp2_with fail
              refine HDN.out.mono ?_
              rintro e w12 ⟨rfl, rfl⟩
              cases dn with
              | true => go_wp2_with fail; go_meet; exact ⟨rfl, rfl⟩
              | false => go_wp2_with fail; go_meet; exact ⟨rfl, rfl⟩
            case rest =>
              obtain ⟨rfl, hwc⟩ := hcut
              obtain rfl : wq = _ := hwc.symm
              clear HDN z0 z1 z2 z3 z4 n0 n1 n2
              have HPOST : Hid (Calm (DQ.crash q.zs) ∧ (∀ b ∈ (DQ.crash q.zs).bs, b.lost = false) ∧ (DQ.crash q.zs).bs.length = 200 ∧ ∃ (l2 : Ls) (ar2 : Nat) (i2 t2 : Int) (s2 : ByteArray), Has (cont (DQ.crash q.zs)) 5 l2 ar2 i2 t2 s2 ∧ ((l2.index = i1 ∧ l2.index ≠ 0 ∧ i2 = i1 ∧ t2 = 1 + (k : Int) ∧ s2 = s1) ∨ ((l2.index = 0 ∨ l2.index ≠ i1) ∧ i2 = i0 ∧ t2 = t0 ∧ s2 = s0)) ∧ i2 ≤ 8 * ((k : Int) + 1)) := by
                show _ ∧ _
                obtain ⟨c1, c2⟩ := calm_crash HQL.out q.zs
                have hx := has_power HHK.out HG.out HI1.out.1 (C2 := cont (DQ.crash q.zs)) (HQX.out q.zs)
                refine ⟨c1, c2, by rw [crash_bs, List.length_map]; exact HQN.out, ?_⟩
                have hix := HHK.out.index.1
                rcases hx with hx | hx
                · exact ⟨l, ar, i0, t0, s0, hx, .inr ⟨.inr (by have := HI1.out; omega), rfl, rfl, rfl⟩, by have := HIK.out; omega⟩
                · exact ⟨ofL i1 (1 + (k : Int)) s1, nxtA l ar, i1, 1 + (k : Int), s1, .inr ⟨rfl, hx⟩, .inl ⟨rfl, by have := HI1.out; show i1 ≠ 0; omega, rfl, rfl, rfl⟩, by have := HI1.out; have := HIK.out; omega⟩
              clear HQ0 HQX
              obtain ⟨p1, p2, p3, l2, ar2, i2, t2, s2, p4, p5, p6⟩ := HPOST.out
              obtain ⟨DC, hDC⟩ : ∃ DC, DC = DQ.crash q.zs := ⟨_, rfl⟩
              have HCR := Lib.hid (devw_crash _ q.zs HWQ.out HDV.out (HFW.out.below HBQ.out))
              rw [← hDC] at p1 p2 p3 p4 HCR
              have HP1 := Lib.hid p1
              have HP2 := Lib.hid p2
              have HP3 := Lib.hid p3
              have HP4 := Lib.hid p4
              have HP5 := Lib.hid p5
              have HP6 := Lib.hid p6
              obtain ⟨z0, z1, z2, z3, z4⟩ := HAQ.out.cells
              rw [HFV.out] at z4
              clear p1 p2 p3 p4 p5 p6 hDC HPOST
              go_wp2_with fail
              refine HCR.out.mono ?_
              rintro e w20 ⟨CC, rfl, hd20, hb20⟩
              have X20 : DevW w.heap.size (fun j => j < wq.heap.size) w20 CC DC := devw_new hd20 HBQ.out.size (fun j hj => hj) hb20.size
              have HB20 := Lib.hid (HBQ.out.trans (hb20.mono HBQ.out.size))
              have HL20 := Lib.hid (HLQ.out.below hb20)
              have HN20 := Lib.hid (HNQ.out.below hb20)
              have hlq : lb < wq.heap.size := HLQ.out.lt
              have HO := Lib.hid (st_open (M := 200) (base := 5) X20 HP1.out HP3.out (by decide) (by decide) HB20.out.size (HT.out _ HB20.out))
              rw [has_open HP4.out] at HO
              clear HCR X20 hd20 hb20 z0 z1 z2 z3 z4 HAQ HLQ HNQ HDV HWQ
              go_wp2_with fail
              refine HO.out.mono ?_
              rintro e w21 ⟨b2, sv2, arx, rfl, _, har2, S21, hb21⟩
              obtain rfl : arx = ar2 := by have h9 : (arx : Int) = (ar2 : Int) := har2; omega
              obtain ⟨E21, S21', hE21⟩ : ∃ E21 : Nat → Prop, StC w.heap.size E21 w21 b2 CC 200 5 l2 sv2 arx DC ∧ E21 lb := ⟨_, S21, .inl hlq⟩
              have HS21 := Lib.hid S21'
              have HE21 := Lib.hid hE21
              have HB21 := Lib.hid (HB20.out.trans (hb21.mono HB20.out.size))
              have HL21 := Lib.hid (HL20.out.below hb21)
              have HN21 := Lib.hid (HN20.out.below hb21)
              have HLi := Lib.hid (clist_any l2 HS21.out.sto.st HS21.out.sto.sums)
              obtain ⟨isB, hisB⟩ : ∃ z, z = decide (l2.index ≠ 0) := ⟨_, rfl⟩
              rw [← hisB] at HLi
              have HIB := Lib.hid hisB
              clear hisB
              clear S21 S21' hE21 hb21 har2 hlq HO HL20 HN20 HB20
              go_wp2_with fail
              refine HLi.out.mono ?_
              rintro e w22 ⟨sv3, rfl, hrow, hb22⟩
              obtain ⟨ra, rc, rfl⟩ := slice_of hrow
              obtain ⟨hl, hhl⟩ : ∃ hl, hl = hasL l2 := ⟨_, rfl⟩
              have HHL := Lib.hid hhl
              rw [← hhl]
              have bA := (Below.refl w22.heap.size w22).alloc (Nat.le_refl _) (.cells #[.int .i64 hl.index, .int .i64 hl.term, .int .i64 hl.bytes, .slice ra hl.sums.length rc] 67)
              have Y23 := LsB.new w22 hl.index hl.term hl.bytes (.slice ra hl.sums.length rc)
              obtain ⟨yb, hyb⟩ : ∃ z, z = w22.heap.size := ⟨_, rfl⟩
              have HB23 := Lib.hid ((HB21.out.trans (hb22.mono HB21.out.size)).trans (bA.mono (HB21.out.trans (hb22.mono HB21.out.size)).size))
              have HS23 := Lib.hid ((HS21.out.below hb22).below bA)
              have HL23 := Lib.hid ((HL21.out.below hb22).below bA)
              have HN23 := Lib.hid ((HN21.out.below hb22).below bA)
              rw [← hyb] at Y23
              clear hhl hb22 hrow HLi bA HS21 HL21 HN21 HB21
              unfold lsV
              simp only
              go_upto_region 33 with fail
              rw [← hyb]
              generalize w22.alloc (.cells #[.int .i64 hl.index, .int .i64 hl.term, .int .i64 hl.bytes, .slice ra hl.sums.length rc] 67) = w23 at Y23 HB23 HS23 HL23 HN23 ⊢
              obtain ⟨⟨q0, q1, q2, q3⟩, _⟩ := Y23.cells
              obtain ⟨n0, n1, n2⟩ := HN23.out.cells
              clear Y23 hyb
              rcases HP5.out with ⟨g1, g2, g3, g4, g5⟩ | ⟨g1, g3, g4, g5⟩
              · obtain rfl : i1 = i2 := g3.symm
                obtain rfl : (1 + (k : Int)) = t2 := g4.symm
                obtain rfl : s1 = s2 := g5.symm
                have hhi : hl.index = i1 := by rw [HHL.out]; unfold hasL; rw [if_neg g2]; exact g1
                rw [hhi] at q0
                obtain rfl : true = isB := by rw [HIB.out]; exact (decide_eq_true g2).symm
                have hST := Lib.hid (run_stSh HL23.out i1 (1 + (k : Int)) s1)
                have S24 := HS23.out.sto.shot HL23.out HE21.out i1 (1 + (k : Int)) s1
                have L24 := HL23.out.set i1 (1 + (k : Int)) s1
                have B24 := below_setSh HB23.out HLM.out i1 (1 + (k : Int)) s1
                have HS24 := Lib.hid S24
                have HL24 := Lib.hid L24
                have HB24 := Lib.hid B24
                have hbe : (i1 == i1) = true := by simp
                clear S24 L24 B24 g1 g2 hhi
                go_upto_region 35 with (first | (refine wpList_store_run7 hST.out rfl rfl rfl rfl ?_))
                have HC24 : Hid (StC w.heap.size E21 (setSh w23 lb i1 (1 + (k : Int)) s1) b2 CC 200 5 l2 sv2 arx DC) := Lib.hid { HS23.out with sto := HS24.out }
                generalize setSh w23 lb i1 (1 + (k : Int)) s1 = w24 at HC24 HL24 HB24 ⊢
                obtain ⟨m0, m1, m2⟩ := HL24.out.cells
                have HHO := Lib.hid (holds_has HC24.out HP4.out (fun x hx => HT.out x (HB24.out.trans (hx.mono HB24.out.size))))
                clear HS24 hST n0 n1 n2 q0 q1 q2 q3 HS23 HL23 HN23 HB23
                go_wp2_with fail
                refine HHO.out.mono ?_
                rintro e w25 ⟨rfl, hb25⟩
                have HC25 := Lib.hid (HC24.out.below hb25)
                have HL25 := Lib.hid (HL24.out.below hb25)
                have HB25 := Lib.hid (HB24.out.trans (hb25.mono HB24.out.size))
                clear hb25 HHO m0 m1 m2 HC24 HL24 HB24
                go_wp2_with fail
                try rw [HWK.out]
                refine ⟨⟨k + 1, E21, CC, b2, sv2, l2, arx, DC, i1, (1 + (k : Int)), s1, HLT.out, rfl, rfl, by simp, HC25.out, HP2.out, HP4.out, HL25.out, HE21.out, by have := HP6.out; omega, HB25.out⟩, ?_⟩
                have := HLT.out
                simp [intOf]
                omega
              · obtain rfl : i0 = i2 := g3.symm
                obtain rfl : t0 = t2 := g4.symm
                obtain rfl : s0 = s2 := g5.symm
                have hcase : (false = isB) ∨ (true = isB ∧ (hl.index == i1) = false) := by
                  by_cases h0 : l2.index = 0
                  · exact .inl (by rw [HIB.out]; simp [h0])
                  · refine .inr ⟨by rw [HIB.out]; exact (decide_eq_true h0).symm, beq_eq_false_iff_ne.2 ?_⟩
                    rw [HHL.out]; unfold hasL; rw [if_neg h0]
                    exact g1.resolve_left h0
                have HCS := Lib.hid hcase
                obtain ⟨m0, m1, m2⟩ := HL23.out.cells
                have HHO := Lib.hid (holds_has HS23.out HP4.out (fun x hx => HT.out x (HB23.out.trans (hx.mono HB23.out.size))))
                clear g1 hcase
                rcases HCS.out with rfl | ⟨rfl, hne⟩
                all_goals
                  go_wp2_with fail
                  refine HHO.out.mono ?_
                  rintro e w25 ⟨rfl, hb25⟩
                  have HC25 := Lib.hid (HS23.out.below hb25)
                  have HL25 := Lib.hid (HL23.out.below hb25)
                  have HB25 := Lib.hid (HB23.out.trans (hb25.mono HB23.out.size))
                  clear hb25 HHO m0 m1 m2 n0 n1 n2 q0 q1 q2 q3
                  go_wp2_with fail
                  try rw [HWK.out]
                  refine ⟨⟨k + 1, E21, CC, b2, sv2, l2, arx, DC, i0, t0, s0, HLT.out, rfl, rfl, by simp, HC25.out, HP2.out, HP4.out, HL25.out, HE21.out, by have := HP6.out; omega, HB25.out⟩, ?_⟩
                  have := HLT.out
                  simp [intOf]
                  omega
      · have hk5 : True := trivial
        have hk3 : bits .and .i64 q.k 3 = kq := by rw [i64_and3, hkq]
        have hkl : decide (kq < (3 : Int)) = false := decide_eq_false hk4
        clear hkq hk4
        have HDN := Lib.hid (devw_down HS8.out.dev)
        rw [show ((D.fall tf)).down = false from HSK.out.calm.down] at HDN
        go_wp2_with fail
        refine HDN.out.mono ?_
        rintro e w9 ⟨rfl, rfl⟩
        clear HDN x0 x1 x2 x3 x4
        have HAQ := HA8
        have HDV := Lib.hid HS8.out.dev
        have HLQ := HL8
        have HNQ := HN8
        have HBQ := HB8
        have HFW' := HFW
        obtain ⟨DQ, hDQ⟩ : ∃ DQ, DQ = (D.fall tf) := ⟨_, rfl⟩
        have hbs : DQ.bs = D.bs := by rw [hDQ]; rfl
        rw [← hDQ] at HDV
        have HWQ : Hid (DQ.writes ≤ 1073741824) := by
          show DQ.writes ≤ 1073741824
          rw [hDQ]
          show D.writes ≤ _
          rw [HSK.out.calm.writes]
          decide
        obtain ⟨wq, hwq⟩ : ∃ z, z = w8 := ⟨_, rfl⟩
        subst hwq
        have HPOST : Hid (Calm (DQ.crash q.zs) ∧ (∀ b ∈ (DQ.crash q.zs).bs, b.lost = false) ∧ (DQ.crash q.zs).bs.length = 200 ∧ ∃ (l2 : Ls) (ar2 : Nat) (i2 t2 : Int) (s2 : ByteArray), Has (cont (DQ.crash q.zs)) 5 l2 ar2 i2 t2 s2 ∧ ((l2.index = i0 ∧ l2.index ≠ 0 ∧ i2 = i0 ∧ t2 = t0 ∧ s2 = s0) ∨ ((l2.index = 0 ∨ l2.index ≠ i0) ∧ i2 = i0 ∧ t2 = t0 ∧ s2 = s0)) ∧ i2 ≤ 8 * ((k : Int) + 1)) := by
          show _ ∧ _
          have hlost : ∀ b ∈ DQ.bs, b.lost = false := by rw [hbs]; exact HLK.out
          obtain ⟨c1, c2⟩ := calm_crash hlost q.zs
          refine ⟨c1, c2, by rw [crash_bs, List.length_map, hbs]; exact HSK.out.len, l, ar, i0, t0, s0, has_same HHK.out (fun j _ => ?_), ?_, by have := HIK.out; omega⟩
          · rw [cont_B, crash_bs, hbs]
            unfold contB
            rw [crash_same (calm_neat HSK.out.calm HLK.out) rfl]
            rfl
          · have hx := HHK.out.index.1
            by_cases h0 : l.index = 0
            · exact .inr ⟨.inl h0, rfl, rfl, rfl⟩
            · exact .inl ⟨hx, h0, rfl, rfl, rfl⟩
        clear hDQ hbs
        obtain ⟨p1, p2, p3, l2, ar2, i2, t2, s2, p4, p5, p6⟩ := HPOST.out
        obtain ⟨DC, hDC⟩ : ∃ DC, DC = DQ.crash q.zs := ⟨_, rfl⟩
        have HCR := Lib.hid (devw_crash _ q.zs HWQ.out HDV.out (HFW.out.below HBQ.out))
        rw [← hDC] at p1 p2 p3 p4 HCR
        have HP1 := Lib.hid p1
        have HP2 := Lib.hid p2
        have HP3 := Lib.hid p3
        have HP4 := Lib.hid p4
        have HP5 := Lib.hid p5
        have HP6 := Lib.hid p6
        obtain ⟨z0, z1, z2, z3, z4⟩ := HAQ.out.cells
        rw [HFV.out] at z4
        clear p1 p2 p3 p4 p5 p6 hDC HPOST
        go_wp2_with fail
        refine HCR.out.mono ?_
        rintro e w20 ⟨CC, rfl, hd20, hb20⟩
        have X20 : DevW w.heap.size (fun j => j < wq.heap.size) w20 CC DC := devw_new hd20 HBQ.out.size (fun j hj => hj) hb20.size
        have HB20 := Lib.hid (HBQ.out.trans (hb20.mono HBQ.out.size))
        have HL20 := Lib.hid (HLQ.out.below hb20)
        have HN20 := Lib.hid (HNQ.out.below hb20)
        have hlq : lb < wq.heap.size := HLQ.out.lt
        have HO := Lib.hid (st_open (M := 200) (base := 5) X20 HP1.out HP3.out (by decide) (by decide) HB20.out.size (HT.out _ HB20.out))
        rw [has_open HP4.out] at HO
        clear HCR X20 hd20 hb20 z0 z1 z2 z3 z4 HAQ HLQ HNQ HDV HWQ
        go_wp2_with fail
        refine HO.out.mono ?_
        rintro e w21 ⟨b2, sv2, arx, rfl, _, har2, S21, hb21⟩
        obtain rfl : arx = ar2 := by have h9 : (arx : Int) = (ar2 : Int) := har2; omega
        obtain ⟨E21, S21', hE21⟩ : ∃ E21 : Nat → Prop, StC w.heap.size E21 w21 b2 CC 200 5 l2 sv2 arx DC ∧ E21 lb := ⟨_, S21, .inl hlq⟩
        have HS21 := Lib.hid S21'
        have HE21 := Lib.hid hE21
        have HB21 := Lib.hid (HB20.out.trans (hb21.mono HB20.out.size))
        have HL21 := Lib.hid (HL20.out.below hb21)
        have HN21 := Lib.hid (HN20.out.below hb21)
        have HLi := Lib.hid (clist_any l2 HS21.out.sto.st HS21.out.sto.sums)
        obtain ⟨isB, hisB⟩ : ∃ z, z = decide (l2.index ≠ 0) := ⟨_, rfl⟩
        rw [← hisB] at HLi
        have HIB := Lib.hid hisB
        clear hisB
        clear S21 S21' hE21 hb21 har2 hlq HO HL20 HN20 HB20
        go_wp2_with fail
        refine HLi.out.mono ?_
        rintro e w22 ⟨sv3, rfl, hrow, hb22⟩
        obtain ⟨ra, rc, rfl⟩ := slice_of hrow
        obtain ⟨hl, hhl⟩ : ∃ hl, hl = hasL l2 := ⟨_, rfl⟩
        have HHL := Lib.hid hhl
        rw [← hhl]
        have bA := (Below.refl w22.heap.size w22).alloc (Nat.le_refl _) (.cells #[.int .i64 hl.index, .int .i64 hl.term, .int .i64 hl.bytes, .slice ra hl.sums.length rc] 67)
        have Y23 := LsB.new w22 hl.index hl.term hl.bytes (.slice ra hl.sums.length rc)
        obtain ⟨yb, hyb⟩ : ∃ z, z = w22.heap.size := ⟨_, rfl⟩
        have HB23 := Lib.hid ((HB21.out.trans (hb22.mono HB21.out.size)).trans (bA.mono (HB21.out.trans (hb22.mono HB21.out.size)).size))
        have HS23 := Lib.hid ((HS21.out.below hb22).below bA)
        have HL23 := Lib.hid ((HL21.out.below hb22).below bA)
        have HN23 := Lib.hid ((HN21.out.below hb22).below bA)
        rw [← hyb] at Y23
        clear hhl hb22 hrow HLi bA HS21 HL21 HN21 HB21
        unfold lsV
        simp only
        go_upto_region 33 with fail
        rw [← hyb]
        generalize w22.alloc (.cells #[.int .i64 hl.index, .int .i64 hl.term, .int .i64 hl.bytes, .slice ra hl.sums.length rc] 67) = w23 at Y23 HB23 HS23 HL23 HN23 ⊢
        obtain ⟨⟨q0, q1, q2, q3⟩, _⟩ := Y23.cells
        obtain ⟨n0, n1, n2⟩ := HN23.out.cells
        clear Y23 hyb
        rcases HP5.out with ⟨g1, g2, g3, g4, g5⟩ | ⟨g1, g3, g4, g5⟩
        · obtain rfl : i0 = i2 := g3.symm
          obtain rfl : t0 = t2 := g4.symm
          obtain rfl : s0 = s2 := g5.symm
          have hhi : hl.index = i0 := by rw [HHL.out]; unfold hasL; rw [if_neg g2]; exact g1
          rw [hhi] at q0
          obtain rfl : true = isB := by rw [HIB.out]; exact (decide_eq_true g2).symm
          have hST := Lib.hid (run_stSh HL23.out i0 t0 s0)
          have S24 := HS23.out.sto.shot HL23.out HE21.out i0 t0 s0
          have L24 := HL23.out.set i0 t0 s0
          have B24 := below_setSh HB23.out HLM.out i0 t0 s0
          have HS24 := Lib.hid S24
          have HL24 := Lib.hid L24
          have HB24 := Lib.hid B24
          have hbe : (i0 == i0) = true := by simp
          clear S24 L24 B24 g1 g2 hhi
          go_upto_region 35 with (first | (refine wpList_store_run7 hST.out rfl rfl rfl rfl ?_))
          have HC24 : Hid (StC w.heap.size E21 (setSh w23 lb i0 t0 s0) b2 CC 200 5 l2 sv2 arx DC) := Lib.hid { HS23.out with sto := HS24.out }
          generalize setSh w23 lb i0 t0 s0 = w24 at HC24 HL24 HB24 ⊢
          obtain ⟨m0, m1, m2⟩ := HL24.out.cells
          have HHO := Lib.hid (holds_has HC24.out HP4.out (fun x hx => HT.out x (HB24.out.trans (hx.mono HB24.out.size))))
          clear HS24 hST n0 n1 n2 q0 q1 q2 q3 HS23 HL23 HN23 HB23
          go_wp2_with fail
          refine HHO.out.mono ?_
          rintro e w25 ⟨rfl, hb25⟩
          have HC25 := Lib.hid (HC24.out.below hb25)
          have HL25 := Lib.hid (HL24.out.below hb25)
          have HB25 := Lib.hid (HB24.out.trans (hb25.mono HB24.out.size))
          clear hb25 HHO m0 m1 m2 HC24 HL24 HB24
          go_wp2_with fail
          try rw [HWK.out]
          refine ⟨⟨k + 1, E21, CC, b2, sv2, l2, arx, DC, i0, t0, s0, HLT.out, rfl, rfl, by simp, HC25.out, HP2.out, HP4.out, HL25.out, HE21.out, by have := HP6.out; omega, HB25.out⟩, ?_⟩
          have := HLT.out
          simp [intOf]
          omega
        · obtain rfl : i0 = i2 := g3.symm
          obtain rfl : t0 = t2 := g4.symm
          obtain rfl : s0 = s2 := g5.symm
          have hcase : (false = isB) ∨ (true = isB ∧ (hl.index == i0) = false) := by
            by_cases h0 : l2.index = 0
            · exact .inl (by rw [HIB.out]; simp [h0])
            · refine .inr ⟨by rw [HIB.out]; exact (decide_eq_true h0).symm, beq_eq_false_iff_ne.2 ?_⟩
              rw [HHL.out]; unfold hasL; rw [if_neg h0]
              exact g1.resolve_left h0
          have HCS := Lib.hid hcase
          obtain ⟨m0, m1, m2⟩ := HL23.out.cells
          have HHO := Lib.hid (holds_has HS23.out HP4.out (fun x hx => HT.out x (HB23.out.trans (hx.mono HB23.out.size))))
          clear g1 hcase
          rcases HCS.out with rfl | ⟨rfl, hne⟩
          all_goals
            go_wp2_with fail
            refine HHO.out.mono ?_
            rintro e w25 ⟨rfl, hb25⟩
            have HC25 := Lib.hid (HS23.out.below hb25)
            have HL25 := Lib.hid (HL23.out.below hb25)
            have HB25 := Lib.hid (HB23.out.trans (hb25.mono HB23.out.size))
            clear hb25 HHO m0 m1 m2 n0 n1 n2 q0 q1 q2 q3
            go_wp2_with fail
            try rw [HWK.out]
            refine ⟨⟨k + 1, E21, CC, b2, sv2, l2, arx, DC, i0, t0, s0, HLT.out, rfl, rfl, by simp, HC25.out, HP2.out, HP4.out, HL25.out, HE21.out, by have := HP6.out; omega, HB25.out⟩, ?_⟩
            have := HLT.out
            simp [intOf]
            omega
    · have hf1 : bits .and .i64 q.fall 1 = 0 := by rw [i64_and1]; omega
      clear hfall
      have l0 := HL6.out.cells.1
      have l1 := HL6.out.cells.2.1
      have l2' := HL6.out.cells.2.2
      have bN := (Below.refl w6.heap.size w6).alloc (Nat.le_refl _) (.cells #[.int .i64 i0, .int .i64 t0, .string s0] 80)
      have N8 := ShB.new w6 i0 t0 s0
      obtain ⟨nb, hnb'⟩ : ∃ z, z = w6.heap.size := ⟨_, rfl⟩
      rw [← hnb'] at N8
      have HLN : Hid (lb ≠ nb) := by show lb ≠ nb; have := HL6.out.lt; omega
      go_upto_region 18 with fail
      rw [← hnb']
      generalize w6.alloc (.cells #[.int .i64 i0, .int .i64 t0, .string s0] 80) = w8 at N8 bN ⊢
      obtain ⟨E8, hE8, S8, hEn⟩ : ∃ E8 : Nat → Prop, (∀ j, E6 j → E8 j) ∧ StoW w.heap.size E8 w8 c C ((5 : Nat) : Int) l sk (ar : Int) D ∧ E8 nb := ⟨_, fun j h => .inl h, HS6.out.grow bN, .inr ⟨by omega, N8.lt⟩⟩
      have HS8 := Lib.hid S8
      have HB8 := Lib.hid (HB6.out.trans (bN.mono HB6.out.size))
      have HL8 := Lib.hid (HL6.out.below bN)
      have HA8 := Lib.hid (HA6.out.below bN)
      have HN8 := Lib.hid N8
      have HEN := Lib.hid hEn
      have HEL8 := Lib.hid (hE8 lb HEL.out)
      have HEA8 := Lib.hid (hE8 ab HEA.out)
      have HNM : Hid (w.heap.size ≤ nb) := by show _ ≤ _; have := HB6.out.size; omega
      clear bN N8 S8 hE8 hEn hnb' l0 l1 l2' y0 y1 y2 y3 y4
      obtain ⟨x0, x1, x2, x3, x4⟩ := HA8.out.cells
      rw [HFV.out] at x4
      by_cases hk4 : kq < 3
      · have hk3 : True := trivial
        have hk3 : bits .and .i64 q.k 3 = kq := by rw [i64_and3, hkq]
        have hkl : decide (kq < (3 : Int)) = true := decide_eq_true hk4
        have HKL := Lib.hid hk4
        obtain ⟨st, hst⟩ : ∃ st : Int, bits .and .i64 q.step 7 = st := ⟨_, rfl⟩
        have hst2 : 0 ≤ st ∧ st ≤ 7 := by rw [i64_and7] at hst; omega
        obtain ⟨nn, hnn⟩ : ∃ nn : Nat, bits .and .i64 q.n 2047 = (nn : Int) := ⟨(q.n % 2048).toNat, by rw [i64_and2047]; omega⟩
        have hnn2 : nn ≤ 2047 := by rw [i64_and2047] at hnn; omega
        obtain ⟨i1, hi1⟩ : ∃ i1 : Int, i1 = i0 + 1 + st := ⟨_, rfl⟩
        have hir : 0 ≤ i0 ∧ i0 ≤ 96 := by have := HHK.out.index; have := HIK.out; have := HLT.out; have := HLEN.out; omega
        have HI1 : Hid (i0 < i1 ∧ i1 ≤ i0 + 8 ∧ 0 ≤ i0 ∧ i1 ≤ 104) := by show i0 < i1 ∧ i1 ≤ i0 + 8 ∧ 0 ≤ i0 ∧ i1 ≤ 104; omega
        have HW1 : Hid (IntKind.i64.wrap (i0 + 1) = i0 + 1) := IntWalk.i64_in _ (by omega)
        have HW2 : Hid (IntKind.i64.wrap (i0 + 1 + st) = i1) := by show _ = _; rw [hi1]; exact IntWalk.i64_in _ (by omega)
        have HW3 : Hid (IntKind.i64.wrap (1 + (k : Int)) = 1 + (k : Int)) := IntWalk.i64_in _ (by have := HLT.out; have := HLEN.out; omega)
        have HST := Lib.hid hst
        have HNN := Lib.hid hnn
        have HN2 : Hid (nn ≤ 1000000) := by show _ ≤ _; omega
        have HN3 : Hid (nn ≤ 2047) := hnn2
        have HLB := Lib.hid (fun (W : World) (hb : Below w8.drew.heap.size w8.drew W) => HL8.out.below (((Below.refl _ w8).drew).trans hb))
        have HAB := Lib.hid (fun (W : World) (hb : Below w8.drew.heap.size w8.drew W) => HA8.out.below (((Below.refl _ w8).drew).trans hb))
        have HNB := Lib.hid (fun (W : World) (hb : Below w8.drew.heap.size w8.drew W) => HN8.out.below (((Below.refl _ w8).drew).trans hb))
        clear hst hst2 hnn hnn2 hi1 hir hkq hk4
        go_upto_region 19 with fail
        clear x0 x1 x2 x3 x4
        refine wp_region_steps_last 15 (atP [fun v _ => v = (.pointer (some ⟨lb, 0, none⟩)),
          fun v _ => v = (.int .i64 i0),
          fun v _ => v = (.int .i64 (i0 + 1)),
          fun v _ => v = (.pointer (some ⟨ab, 2, none⟩)),
          fun v _ => v = (.int .i64 q.step),
          fun v _ => v = (.int .i64 st),
          fun v _ => v = (.int .i64 i1),
          fun v _ => v = (.int .i64 (k : Int)),
          fun v _ => v = (.int .i64 (1 + (k : Int))),
          fun v _ => v = (.pointer (some ⟨ab, 1, none⟩)),
          fun v _ => v = (.int .i64 q.n),
          fun v _ => v = (.int .i64 (nn : Int)),
          fun v _ => v = (.int .i64 (k : Int)),
          fun v W => ∃ sx : ByteArray, v = .string sx ∧ sx.size = nn,
          fun v W => ∃ sx : ByteArray, v = .agg #[.int .i64 i1, .int .i64 (1 + (k : Int)), .string sx] ∧ sx.size = nn]) (fun w w' => Below w.heap.size w w') (by kernel_rfl) (by kernel_rfl) (by kernel_rfl) (by kernel_rfl) (by kernel_rfl) (Below.refl _ _) (fun i v w w' _ h1 h2 => atP_keep (R := fun w w' => Below w.heap.size w w') (atK1 (fun _ _ _ h _ => h) (atK1 (fun _ _ _ h _ => h) (atK1 (fun _ _ _ h _ => h) (atK1 (fun _ _ _ h _ => h) (atK1 (fun _ _ _ h _ => h) (atK1 (fun _ _ _ h _ => h) (atK1 (fun _ _ _ h _ => h) (atK1 (fun _ _ _ h _ => h) (atK1 (fun _ _ _ h _ => h) (atK1 (fun _ _ _ h _ => h) (atK1 (fun _ _ _ h _ => h) (atK1 (fun _ _ _ h _ => h) (atK1 (fun _ _ _ h _ => h) (atK1 (fun _ _ _ h _ => h) (atK1 (fun _ _ _ h _ => h) (atK0)))))))))))))))) i h1 h2) (fun u v w h1 h2 => h1.trans (h2.mono h1.size)) ?_ ?_
        · intro q9 o hq9 ho x W1 hR hF
          match q9, ho with
          | 0, ho =>
            obtain rfl := Option.some.inj ho
            exact gstep_field rfl (wanted0 rfl) _ _ _ rfl _ (eval_of 6 _ (by kernel_rfl) rfl) _ ((by go_simp)) ⟨_, rfl, rfl, Below.refl _ _⟩
          | 1, ho =>
            obtain rfl := Option.some.inj ho
            exact gstep_load rfl (wanted0 rfl) _ _ rfl _ (eval_at 53 0 _ (by kernel_rfl) (show 53 < 130 by decide) (hF 0 (by kernel_rfl))) _ (run_loadI W1 _ _ (HLB.out W1 hR).cells.1) ⟨_, rfl, rfl, Below.refl _ _⟩
          | 2, ho =>
            obtain rfl := Option.some.inj ho
            exact gstep_bin rfl (wanted0 rfl) _ _ _ _ _ rfl _ _ (eval_at 54 1 _ (by kernel_rfl) (show 54 < 130 by decide) (hF 1 (by kernel_rfl))) rfl _ (run_addI W1 _ _ _ HW1.out _ _) ⟨_, rfl, rfl, Below.refl _ _⟩
          | 3, ho =>
            obtain rfl := Option.some.inj ho
            exact gstep_field rfl (wanted0 rfl) _ _ _ rfl _ (eval_of 8 _ (by kernel_rfl) rfl) _ ((by go_simp)) ⟨_, rfl, rfl, Below.refl _ _⟩
          | 4, ho =>
            obtain rfl := Option.some.inj ho
            exact gstep_load rfl (wanted0 rfl) _ _ rfl _ (eval_at 56 3 _ (by kernel_rfl) (show 56 < 130 by decide) (hF 3 (by kernel_rfl))) _ (run_loadI W1 _ _ (HAB.out W1 hR).cells.2.2.1) ⟨_, rfl, rfl, Below.refl _ _⟩
          | 5, ho =>
            obtain rfl := Option.some.inj ho
            exact gstep_bin rfl (wanted0 rfl) _ _ _ _ _ rfl _ _ (eval_at 57 4 _ (by kernel_rfl) (show 57 < 130 by decide) (hF 4 (by kernel_rfl))) rfl _ (run_andI W1 _ _ _ HST.out _ _) ⟨_, rfl, rfl, Below.refl _ _⟩
          | 6, ho =>
            obtain rfl := Option.some.inj ho
            exact gstep_bin rfl (wanted0 rfl) _ _ _ _ _ rfl _ _ (eval_at 55 2 _ (by kernel_rfl) (show 55 < 130 by decide) (hF 2 (by kernel_rfl))) (eval_at 58 5 _ (by kernel_rfl) (show 58 < 130 by decide) (hF 5 (by kernel_rfl))) _ (run_addI W1 _ _ _ HW2.out _ _) ⟨_, rfl, rfl, Below.refl _ _⟩
          | 7, ho =>
            obtain rfl := Option.some.inj ho
            exact gstep_move rfl (wanted0 rfl) _ rfl _ (eval_of 7 _ (by kernel_rfl) rfl) ⟨_, rfl, rfl, Below.refl _ _⟩
          | 8, ho =>
            obtain rfl := Option.some.inj ho
            exact gstep_bin rfl (wanted0 rfl) _ _ _ _ _ rfl _ _ rfl (eval_at 60 7 _ (by kernel_rfl) (show 60 < 130 by decide) (hF 7 (by kernel_rfl))) _ (run_addI W1 _ _ _ HW3.out _ _) ⟨_, rfl, rfl, Below.refl _ _⟩
          | 9, ho =>
            obtain rfl := Option.some.inj ho
            exact gstep_field rfl (wanted0 rfl) _ _ _ rfl _ (eval_of 8 _ (by kernel_rfl) rfl) _ ((by go_simp)) ⟨_, rfl, rfl, Below.refl _ _⟩
          | 10, ho =>
            obtain rfl := Option.some.inj ho
            exact gstep_load rfl (wanted0 rfl) _ _ rfl _ (eval_at 62 9 _ (by kernel_rfl) (show 62 < 130 by decide) (hF 9 (by kernel_rfl))) _ (run_loadI W1 _ _ (HAB.out W1 hR).cells.2.1) ⟨_, rfl, rfl, Below.refl _ _⟩
          | 11, ho =>
            obtain rfl := Option.some.inj ho
            exact gstep_bin rfl (wanted0 rfl) _ _ _ _ _ rfl _ _ (eval_at 63 10 _ (by kernel_rfl) (show 63 < 130 by decide) (hF 10 (by kernel_rfl))) rfl _ (run_andI W1 _ _ _ HNN.out _ _) ⟨_, rfl, rfl, Below.refl _ _⟩
          | 12, ho =>
            obtain rfl := Option.some.inj ho
            exact gstep_move rfl (wanted0 rfl) _ rfl _ (eval_of 7 _ (by kernel_rfl) rfl) ⟨_, rfl, rfl, Below.refl _ _⟩
          | 13, ho =>
            obtain rfl := Option.some.inj ho
            refine gstep_call2 rfl (wanted0 rfl) _ _ _ _ rfl _ _ (eval_at 64 11 _ (by kernel_rfl) (show 64 < 130 by decide) (hF 11 (by kernel_rfl))) (eval_at 65 12 _ (by kernel_rfl) (show 65 < 130 by decide) (hF 12 (by kernel_rfl))) (by go_simp) ?_
            refine (text7_any nn (k : Int) HN2.out W1).mono ?_
            rintro e w2 ⟨sx, rfl, hsx, hb⟩
            exact ⟨_, rfl, _, rfl, ⟨sx, rfl, hsx⟩, hb⟩
          | 14, ho =>
            obtain rfl := Option.some.inj ho
            obtain ⟨sx, hx1, hx2⟩ := hF 13 (by kernel_rfl)
            exact gstep_mkS rfl (wanted0 rfl) _ _ _ rfl _ _ _ (eval_at 59 6 _ (by kernel_rfl) (show 59 < 130 by decide) (hF 6 (by kernel_rfl))) (eval_at 61 8 _ (by kernel_rfl) (show 61 < 130 by decide) (hF 8 (by kernel_rfl))) (eval_at 66 13 _ (by kernel_rfl) (show 66 < 130 by decide) hx1) ⟨_, rfl, ⟨sx, rfl, hx2⟩, Below.refl _ _⟩
          | n + 15, ho => exact absurd hq9 (by omega)
        · intro o ho x w5 hR hF
          obtain rfl := Option.some.inj ho
          obtain ⟨s1, hx1, hs1⟩ := hF 14 (by decide)
          have hnb := HNB.out w5 hR
          refine gstep_store rfl (wanted0 rfl) _ _ _ rfl _ _ (eval_of 9 _ (by kernel_rfl) rfl) (eval_at 67 14 _ (by kernel_rfl) (show 67 < 130 by decide) hx1) _ (run_stSh hnb i1 (1 + (k : Int)) s1) ?_
          have S9 := (HS8.out.below (((Below.refl _ w8).drew).trans hR)).shot hnb HEN.out i1 (1 + (k : Int)) s1
          have L9 : ShB (setSh w5 nb i1 (1 + (k : Int)) s1) lb i0 t0 s0 := (setSh_other HLN.out).trans (HLB.out w5 hR)
          have N9 := hnb.set i1 (1 + (k : Int)) s1
          have A9 : ActB7 (setSh w5 nb i1 (1 + (k : Int)) s1) ab q := (setSh_other ((HAB.out w5 hR).ne_shot hnb)).trans (HAB.out w5 hR)
          have B9 := below_setSh (HB8.out.trans ((((Below.refl _ w8).drew).trans hR).mono HB8.out.size)) HNM.out i1 (1 + (k : Int)) s1
          generalize setSh w5 nb i1 (1 + (k : Int)) s1 = w9 at S9 L9 N9 A9 B9 ⊢
          simp only [putAll, Act.put, List.setIfInBounds_toArray, List.set_cons_succ, List.set_cons_zero]
          have hg : (ofL i1 (1 + (k : Int)) s1).Good := ofL_good2 (by have := HI1.out; omega) (by have := HLT.out; have := HLEN.out; omega) (by have := HN3.out; omega)
          have HG := Lib.hid hg
          have HS9 : Hid (StC w.heap.size E8 w9 c C 200 5 l sk ar D) := Lib.hid { HSK.out with sto := S9 }
          have HL9 := Lib.hid L9
          have HN9 := Lib.hid N9
          have HA9 := Lib.hid A9
          have HB9 := Lib.hid B9
          have hpp := put_power (D := D) (base := ((5 : Nat) : Int)) (i0 := l.index) (area := (ar : Int)) (a := 5 + nxtA l ar * 66) (calm_neat HSK.out.calm HLK.out) hg (by rw [nxtA_eq HSK.out.ar]; omega) (by have := HSK.out.len; have := nxtA_le l ar; omega) (by have := HSK.out.len; omega)
          have HPL := Lib.hid hpp.2.2.1
          have HPT := Lib.hid (st_put i1 (1 + (k : Int)) s1 HS9.out hg (by have := HI1.out; have := HHK.out.index; omega) (by have := HN3.out; omega) HB9.out.size (fun x hx => HT.out x (HB9.out.trans hx)))
          obtain ⟨n0, n1, n2⟩ := HN9.out.cells
          clear hR hF hx1 hnb hs1 S9 L9 N9 A9 B9 hg hpp HS8 HB8 HL8 HA8 HN8 HLB HAB HNB
          go_wp2_with fail
          refine HPT.out.mono ?_
          rintro e w10 ⟨rfl, E10, sv10, D10, hE10, S10, k10, hb10, hk10, hD10⟩
          have HC10 := Lib.hid S10
          have HB10 := Lib.hid (HB9.out.trans hb10)
          have hne1 := HS9.out.sto.ne_shot HL9.out
          have hne2 := HS9.out.sto.ne_shot HN9.out
          have hne3 : ab ≠ c := fun e => by
            have h2 := HS9.out.sto.st
            have h3 := HA9.out
            unfold CsB at h2
            unfold ActB7 at h3
            rw [e, h2] at h3
            simp at h3
          have HL10 := Lib.hid (HL9.out.keep hk10 ⟨HEL8.out, hne1⟩)
          have HN10 := Lib.hid (HN9.out.keep hk10 ⟨HEN.out, hne2⟩)
          have HA10 := Lib.hid (HA9.out.keep hk10 ⟨HEA8.out, hne3⟩)
          have HE10 := Lib.hid (hE10 lb HEL8.out)
          have HHS : Hid (Has (cont D10) 5 (ofL i1 (1 + (k : Int)) s1) (nxtA l ar) i1 (1 + (k : Int)) s1) := by
            refine Lib.hid (.inr ⟨rfl, ?_⟩)
            rw [k10]
            exact has_put HHK.out HG.out HI1.out.1
          have HLL : Hid (∀ b ∈ D10.bs, b.lost = false) := by
            refine Lib.hid ?_
            rw [hD10]
            exact HPL.out
          clear n0 n1 n2 hne1 hne2 hne3 S10 k10 hb10 hk10 hD10 hE10 HPT HPL HS9 HL9 HN9 HA9 HB9
          -- last = now
          obtain ⟨n0, n1, n2⟩ := HN10.out.cells
          have hST := Lib.hid (run_stSh HL10.out i1 (1 + (k : Int)) s1)
          have HC11 : Hid (StC w.heap.size E10 (setSh w10 lb i1 (1 + (k : Int)) s1) c C 200 5 (ofL i1 (1 + (k : Int)) s1) sv10 (nxtA l ar) D10) := Lib.hid { HC10.out with sto := HC10.out.sto.shot HL10.out HE10.out i1 (1 + (k : Int)) s1 }
          have HL11 := Lib.hid (HL10.out.set i1 (1 + (k : Int)) s1)
          have HA11 : Hid (ActB7 (setSh w10 lb i1 (1 + (k : Int)) s1) ab q) := Lib.hid ((setSh_other (HA10.out.ne_shot HL10.out)).trans HA10.out)
          have HB11 := Lib.hid (below_setSh HB10.out HLM.out i1 (1 + (k : Int)) s1)
          go_upto_region 25 with (first | (refine wpList_store_run7 hST.out rfl rfl rfl rfl ?_))
          generalize setSh w10 lb i1 (1 + (k : Int)) s1 = w11 at HC11 HL11 HA11 HB11 ⊢
          have HDN := Lib.hid (devw_down HC11.out.dev)
          rw [HC11.out.calm.down] at HDN
          obtain ⟨z0, z1, z2, z3, z4⟩ := HA11.out.cells
          obtain ⟨m0, m1, m2⟩ := HL11.out.cells
          have HHO := Lib.hid (holds_has HC11.out HHS.out (fun x hx => HT.out x (HB11.out.trans (hx.mono HB11.out.size))))
          clear hST n0 n1 n2 HC10 HL10 HN10 HA10 HB10
          go_wp2_with fail
          refine HDN.out.mono ?_
          rintro e w12 ⟨rfl, rfl⟩
          clear HDN
          go_wp2_with fail
          refine HHO.out.mono ?_
          rintro e w25 ⟨rfl, hb25⟩
          have HC25 := Lib.hid (HC11.out.below hb25)
          have HL25 := Lib.hid (HL11.out.below hb25)
          have HB25 := Lib.hid (HB11.out.trans (hb25.mono HB11.out.size))
          clear hb25 HHO m0 m1 m2 z0 z1 z2 z3 z4 HC11 HL11 HA11 HB11
          go_wp2_with fail
          try rw [HWK.out]
          refine ⟨⟨k + 1, E10, C, c, sv10, _, _, D10, i1, _, s1, HLT.out, rfl, rfl, by simp, HC25.out, HLL.out, HHS.out, HL25.out, HE10.out, by have := HI1.out; have := HIK.out; omega, HB25.out⟩, ?_⟩
          have := HLT.out
          simp [intOf]
          omega
      · have hk5 : True := trivial
        have hk3 : bits .and .i64 q.k 3 = kq := by rw [i64_and3, hkq]
        have hkl : decide (kq < (3 : Int)) = false := decide_eq_false hk4
        clear hkq hk4
        have HDN := Lib.hid (devw_down HS8.out.dev)
        rw [show (D).down = false from HSK.out.calm.down] at HDN
        go_wp2_with fail
        refine HDN.out.mono ?_
        rintro e w9 ⟨rfl, rfl⟩
        clear HDN x0 x1 x2 x3 x4
        have HAQ := HA8
        have HDV := Lib.hid HS8.out.dev
        have HLQ := HL8
        have HNQ := HN8
        have HBQ := HB8
        have HFW' := HFW
        obtain ⟨DQ, hDQ⟩ : ∃ DQ, DQ = D := ⟨_, rfl⟩
        have hbs : DQ.bs = D.bs := by rw [hDQ]
        rw [← hDQ] at HDV
        have HWQ : Hid (DQ.writes ≤ 1073741824) := by
          show DQ.writes ≤ 1073741824
          rw [hDQ]
          show D.writes ≤ _
          rw [HSK.out.calm.writes]
          decide
        obtain ⟨wq, hwq⟩ : ∃ z, z = w8 := ⟨_, rfl⟩
        subst hwq
        have HPOST : Hid (Calm (DQ.crash q.zs) ∧ (∀ b ∈ (DQ.crash q.zs).bs, b.lost = false) ∧ (DQ.crash q.zs).bs.length = 200 ∧ ∃ (l2 : Ls) (ar2 : Nat) (i2 t2 : Int) (s2 : ByteArray), Has (cont (DQ.crash q.zs)) 5 l2 ar2 i2 t2 s2 ∧ ((l2.index = i0 ∧ l2.index ≠ 0 ∧ i2 = i0 ∧ t2 = t0 ∧ s2 = s0) ∨ ((l2.index = 0 ∨ l2.index ≠ i0) ∧ i2 = i0 ∧ t2 = t0 ∧ s2 = s0)) ∧ i2 ≤ 8 * ((k : Int) + 1)) := by
          show _ ∧ _
          have hlost : ∀ b ∈ DQ.bs, b.lost = false := by rw [hbs]; exact HLK.out
          obtain ⟨c1, c2⟩ := calm_crash hlost q.zs
          refine ⟨c1, c2, by rw [crash_bs, List.length_map, hbs]; exact HSK.out.len, l, ar, i0, t0, s0, has_same HHK.out (fun j _ => ?_), ?_, by have := HIK.out; omega⟩
          · rw [cont_B, crash_bs, hbs]
            unfold contB
            rw [crash_same (calm_neat HSK.out.calm HLK.out) rfl]
            rfl
          · have hx := HHK.out.index.1
            by_cases h0 : l.index = 0
            · exact .inr ⟨.inl h0, rfl, rfl, rfl⟩
            · exact .inl ⟨hx, h0, rfl, rfl, rfl⟩
        clear hDQ hbs
        obtain ⟨p1, p2, p3, l2, ar2, i2, t2, s2, p4, p5, p6⟩ := HPOST.out
        obtain ⟨DC, hDC⟩ : ∃ DC, DC = DQ.crash q.zs := ⟨_, rfl⟩
        have HCR := Lib.hid (devw_crash _ q.zs HWQ.out HDV.out (HFW.out.below HBQ.out))
        rw [← hDC] at p1 p2 p3 p4 HCR
        have HP1 := Lib.hid p1
        have HP2 := Lib.hid p2
        have HP3 := Lib.hid p3
        have HP4 := Lib.hid p4
        have HP5 := Lib.hid p5
        have HP6 := Lib.hid p6
        obtain ⟨z0, z1, z2, z3, z4⟩ := HAQ.out.cells
        rw [HFV.out] at z4
        clear p1 p2 p3 p4 p5 p6 hDC HPOST
        go_wp2_with fail
        refine HCR.out.mono ?_
        rintro e w20 ⟨CC, rfl, hd20, hb20⟩
        have X20 : DevW w.heap.size (fun j => j < wq.heap.size) w20 CC DC := devw_new hd20 HBQ.out.size (fun j hj => hj) hb20.size
        have HB20 := Lib.hid (HBQ.out.trans (hb20.mono HBQ.out.size))
        have HL20 := Lib.hid (HLQ.out.below hb20)
        have HN20 := Lib.hid (HNQ.out.below hb20)
        have hlq : lb < wq.heap.size := HLQ.out.lt
        have HO := Lib.hid (st_open (M := 200) (base := 5) X20 HP1.out HP3.out (by decide) (by decide) HB20.out.size (HT.out _ HB20.out))
        rw [has_open HP4.out] at HO
        clear HCR X20 hd20 hb20 z0 z1 z2 z3 z4 HAQ HLQ HNQ HDV HWQ
        go_wp2_with fail
        refine HO.out.mono ?_
        rintro e w21 ⟨b2, sv2, arx, rfl, _, har2, S21, hb21⟩
        obtain rfl : arx = ar2 := by have h9 : (arx : Int) = (ar2 : Int) := har2; omega
        obtain ⟨E21, S21', hE21⟩ : ∃ E21 : Nat → Prop, StC w.heap.size E21 w21 b2 CC 200 5 l2 sv2 arx DC ∧ E21 lb := ⟨_, S21, .inl hlq⟩
        have HS21 := Lib.hid S21'
        have HE21 := Lib.hid hE21
        have HB21 := Lib.hid (HB20.out.trans (hb21.mono HB20.out.size))
        have HL21 := Lib.hid (HL20.out.below hb21)
        have HN21 := Lib.hid (HN20.out.below hb21)
        have HLi := Lib.hid (clist_any l2 HS21.out.sto.st HS21.out.sto.sums)
        obtain ⟨isB, hisB⟩ : ∃ z, z = decide (l2.index ≠ 0) := ⟨_, rfl⟩
        rw [← hisB] at HLi
        have HIB := Lib.hid hisB
        clear hisB
        clear S21 S21' hE21 hb21 har2 hlq HO HL20 HN20 HB20
        go_wp2_with fail
        refine HLi.out.mono ?_
        rintro e w22 ⟨sv3, rfl, hrow, hb22⟩
        obtain ⟨ra, rc, rfl⟩ := slice_of hrow
        obtain ⟨hl, hhl⟩ : ∃ hl, hl = hasL l2 := ⟨_, rfl⟩
        have HHL := Lib.hid hhl
        rw [← hhl]
        have bA := (Below.refl w22.heap.size w22).alloc (Nat.le_refl _) (.cells #[.int .i64 hl.index, .int .i64 hl.term, .int .i64 hl.bytes, .slice ra hl.sums.length rc] 67)
        have Y23 := LsB.new w22 hl.index hl.term hl.bytes (.slice ra hl.sums.length rc)
        obtain ⟨yb, hyb⟩ : ∃ z, z = w22.heap.size := ⟨_, rfl⟩
        have HB23 := Lib.hid ((HB21.out.trans (hb22.mono HB21.out.size)).trans (bA.mono (HB21.out.trans (hb22.mono HB21.out.size)).size))
        have HS23 := Lib.hid ((HS21.out.below hb22).below bA)
        have HL23 := Lib.hid ((HL21.out.below hb22).below bA)
        have HN23 := Lib.hid ((HN21.out.below hb22).below bA)
        rw [← hyb] at Y23
        clear hhl hb22 hrow HLi bA HS21 HL21 HN21 HB21
        unfold lsV
        simp only
        go_upto_region 33 with fail
        rw [← hyb]
        generalize w22.alloc (.cells #[.int .i64 hl.index, .int .i64 hl.term, .int .i64 hl.bytes, .slice ra hl.sums.length rc] 67) = w23 at Y23 HB23 HS23 HL23 HN23 ⊢
        obtain ⟨⟨q0, q1, q2, q3⟩, _⟩ := Y23.cells
        obtain ⟨n0, n1, n2⟩ := HN23.out.cells
        clear Y23 hyb
        rcases HP5.out with ⟨g1, g2, g3, g4, g5⟩ | ⟨g1, g3, g4, g5⟩
        · obtain rfl : i0 = i2 := g3.symm
          obtain rfl : t0 = t2 := g4.symm
          obtain rfl : s0 = s2 := g5.symm
          have hhi : hl.index = i0 := by rw [HHL.out]; unfold hasL; rw [if_neg g2]; exact g1
          rw [hhi] at q0
          obtain rfl : true = isB := by rw [HIB.out]; exact (decide_eq_true g2).symm
          have hST := Lib.hid (run_stSh HL23.out i0 t0 s0)
          have S24 := HS23.out.sto.shot HL23.out HE21.out i0 t0 s0
          have L24 := HL23.out.set i0 t0 s0
          have B24 := below_setSh HB23.out HLM.out i0 t0 s0
          have HS24 := Lib.hid S24
          have HL24 := Lib.hid L24
          have HB24 := Lib.hid B24
          have hbe : (i0 == i0) = true := by simp
          clear S24 L24 B24 g1 g2 hhi
          go_upto_region 35 with (first | (refine wpList_store_run7 hST.out rfl rfl rfl rfl ?_))
          have HC24 : Hid (StC w.heap.size E21 (setSh w23 lb i0 t0 s0) b2 CC 200 5 l2 sv2 arx DC) := Lib.hid { HS23.out with sto := HS24.out }
          generalize setSh w23 lb i0 t0 s0 = w24 at HC24 HL24 HB24 ⊢
          obtain ⟨m0, m1, m2⟩ := HL24.out.cells
          have HHO := Lib.hid (holds_has HC24.out HP4.out (fun x hx => HT.out x (HB24.out.trans (hx.mono HB24.out.size))))
          clear HS24 hST n0 n1 n2 q0 q1 q2 q3 HS23 HL23 HN23 HB23
          go_wp2_with fail
          refine HHO.out.mono ?_
          rintro e w25 ⟨rfl, hb25⟩
          have HC25 := Lib.hid (HC24.out.below hb25)
          have HL25 := Lib.hid (HL24.out.below hb25)
          have HB25 := Lib.hid (HB24.out.trans (hb25.mono HB24.out.size))
          clear hb25 HHO m0 m1 m2 HC24 HL24 HB24
          go_wp2_with fail
          try rw [HWK.out]
          refine ⟨⟨k + 1, E21, CC, b2, sv2, l2, arx, DC, i0, t0, s0, HLT.out, rfl, rfl, by simp, HC25.out, HP2.out, HP4.out, HL25.out, HE21.out, by have := HP6.out; omega, HB25.out⟩, ?_⟩
          have := HLT.out
          simp [intOf]
          omega
        · obtain rfl : i0 = i2 := g3.symm
          obtain rfl : t0 = t2 := g4.symm
          obtain rfl : s0 = s2 := g5.symm
          have hcase : (false = isB) ∨ (true = isB ∧ (hl.index == i0) = false) := by
            by_cases h0 : l2.index = 0
            · exact .inl (by rw [HIB.out]; simp [h0])
            · refine .inr ⟨by rw [HIB.out]; exact (decide_eq_true h0).symm, beq_eq_false_iff_ne.2 ?_⟩
              rw [HHL.out]; unfold hasL; rw [if_neg h0]
              exact g1.resolve_left h0
          have HCS := Lib.hid hcase
          obtain ⟨m0, m1, m2⟩ := HL23.out.cells
          have HHO := Lib.hid (holds_has HS23.out HP4.out (fun x hx => HT.out x (HB23.out.trans (hx.mono HB23.out.size))))
          clear g1 hcase
          rcases HCS.out with rfl | ⟨rfl, hne⟩
          all_goals
            go_wp2_with fail
            refine HHO.out.mono ?_
            rintro e w25 ⟨rfl, hb25⟩
            have HC25 := Lib.hid (HS23.out.below hb25)
            have HL25 := Lib.hid (HL23.out.below hb25)
            have HB25 := Lib.hid (HB23.out.trans (hb25.mono HB23.out.size))
            clear hb25 HHO m0 m1 m2 n0 n1 n2 q0 q1 q2 q3
            go_wp2_with fail
            try rw [HWK.out]
            refine ⟨⟨k + 1, E21, CC, b2, sv2, l2, arx, DC, i0, t0, s0, HLT.out, rfl, rfl, by simp, HC25.out, HP2.out, HP4.out, HL25.out, HE21.out, by have := HP6.out; omega, HB25.out⟩, ?_⟩
            have := HLT.out
            simp [intOf]
            omega

theorem own : ownKnob Tryd.prog.godebug = none := by kernel_rfl
theorem laidOut : laidOutB Tryd.prog = true := by kernel_rfl
theorem gHi : Tryd.prog.globalNamed "orchard/sum.highTable" = some 0 := by kernel_rfl
theorem gLo : Tryd.prog.globalNamed "orchard/sum.lowTable" = some 1 := by kernel_rfl
theorem gHiType : (Tryd.prog.globals[0]?).map (·.type) = some 187 := by kernel_rfl
theorem gLoType : (Tryd.prog.globals[1]?).map (·.type) = some 187 := by kernel_rfl
theorem cellsTab : Tryd.prog.cellsOf 187 = 16 := by kernel_rfl
theorem cellsSum : Tryd.prog.cellsOf 70 = 1 := by kernel_rfl

theorem table_lo {W : World} (h : laidMetH Tryd.prog Rows.chunkPutsRow.laid W) : Lib.TabIs Tryd.prog W "orchard/sum.lowTable" .u32 LO :=
  Lib.tabIs_of_head (rest := [("orchard/sum.highTable", Rows.laid_orchard_sum_highTable)]) gLo gLoType Tryd.underlying187 Tryd.underlying70 cellsSum cellsTab h
theorem table_hi {W : World} (h : laidMetH Tryd.prog Rows.chunkPutsRow.laid W) : Lib.TabIs Tryd.prog W "orchard/sum.highTable" .u32 HI :=
  Lib.tabIs_of_head (rest := []) gHi gHiType Tryd.underlying187 Tryd.underlying70 cellsSum cellsTab (laidMet.tail (show laidMet Tryd.prog [("orchard/sum.lowTable", Rows.laid_orchard_sum_lowTable), ("orchard/sum.highTable", Rows.laid_orchard_sum_highTable)] W from h))
theorem tabs_of {W : World} (h : laidMetH Tryd.prog Rows.chunkPutsRow.laid W) : Tabs W := by
  have c0 := fun (j : Nat) (hj : j < 16) => (table_hi h).cell gHi j hj
  have c1 := fun (j : Nat) (hj : j < 16) => (table_lo h).cell gLo j hj
  refine ⟨⟨World.block_lt_of_cell? W _ (c0 0 (by decide)), World.block_lt_of_cell? W _ (c1 0 (by decide))⟩, fun j hj => ?_, fun j hj => ?_⟩
  · rw [c0 j hj, hi_cast j]
  · rw [c1 j hj, lo_cast j]

theorem contract (H : Type) (enc : TypeId × Value → H) (W : World) (base : Nat) (args : Array Value) (ds gs : List (DataW H)) (before : List MemPlace)
    (hval : ∀ (j : Nat) t v, Tryd.f6.params[j]? = some t → args[j]? = some v → Value.okWide Tryd.prog W .any base t v)
    (hW : DataW.Whole enc Tryd.prog Tryd.f6.params.toList Rows.chunkPutsSpec.vars false W args.toList ds gs before) (hL : laidMetH Tryd.prog Rows.chunkPutsRow.laid W) :
    Calls Tryd.prog 6 args W fun e W' => ∃ v, e = .returned v ∧ Rows.chunkPutsSpec.post enc Tryd.prog Tryd.f6 false true false false W args v W' := by
  have hT := tabs_of hL
  have hW' := hW
  obtain ⟨p, q, hA0, hV, rfl, hfz, hnd⟩ := hW
  have hA : DataW.TrodAll enc Tryd.prog W 0 (fun _ => true) true Tryd.f6.params.toList args.toList ds p := hA0
  rw [Tryd.params6] at hA hval
  obtain ⟨v0, vs0, d0, ds0, p0, q0, hargs, rfl, rfl, h0, r0⟩ := trodAll_cons hA
  obtain ⟨rfl, rfl, rfl⟩ := trodAll_nil r0
  obtain rfl : args = #[v0] := by cases args; simp_all
  obtain ⟨rfl, rfl⟩ := trodVars_none hV
  have k0 := h0
  have lt0 : ∀ x ∈ p0, x.block < W.heap.size := by obtain ⟨m, hm⟩ := k0; exact DataW.trod_lt m _ _ _ hm
  obtain ⟨z0, w0⟩ := acts7_of (hval 0 74 v0 rfl rfl) h0
  clear hA0
  refine (walk v0 z0 W w0 hT).mono fun e W' ⟨he, bel⟩ => ?_
  subst he
  exact ⟨_, rfl, _, _, _, [], _, [], hW', trodAll_mk1 (shut_bool Tryd.underlying4 _), (trodAll_cons_mk (Below.trod laidOut (by kernel_rfl) (of_decide_eq_true (by kernel_rfl)) k0 bel lt0) trodAll_mk0), rfl, bel.frame _, fun h => by cases h⟩

def setTab (l : List Int) : Obj → Obj
  | .cells _ t frozen => .cells (l.map (Value.int .u32)).toArray t frozen
  | o => o
noncomputable def laidWorld (os : Os) : World :=
  { World.holding Tryd.prog os ⟨#[], #[], []⟩ with heap := ((World.holding Tryd.prog os ⟨#[], #[], []⟩).heap.modify 1 (setTab LO)).modify 0 (setTab HI) }
theorem laid_met (os : Os) : laidMet Tryd.prog Rows.chunkPutsRow.laid ((laidWorld os).forCall (fun _ _ => 0) ⟨#[], #[.slice none 0 0], []⟩).memory :=
  laidMet_of_run' 8 (by kernel_rfl) (by kernel_rfl)
theorem reads (os : Os) {H : Type} (enc : TypeId × Value → H) : ∃ places, DataW.whole enc Tryd.prog ((laidWorld os).forCall (fun _ _ => 0) ⟨#[], #[.slice none 0 0], []⟩).memory Tryd.f6.params.toList Rows.chunkPutsSpec.vars false #[Value.slice none 0 0].toList 8 = some ([.nil], [], places) :=
  ⟨[], by kernel_rfl⟩

set_option maxRecDepth 100000 in
theorem lifted (os : Os) (started : os.Started) (H : Type) (enc : TypeId × Value → H) (F : Stop.Interp) :
    ReturnsInHanded {} Tryd.checked os 6 .any ((OpenSpec.ofChange Rows.chunkPutsSpec).preRow enc Tryd.prog Tryd.f6 Rows.chunkPutsRow.domain false Rows.chunkPutsRow.laid) (((OpenSpec.ofChange Rows.chunkPutsSpec).at F).post enc Tryd.prog Tryd.f6 false true false false) := by
  obtain ⟨places, hx⟩ := reads os enc
  refine returnsInHanded_of_row (C := Tryd.checked) (s := OpenSpec.ofChange Rows.chunkPutsSpec) own started (by kernel_rfl) Tryd.func6
    (witness_row_at (enc := enc) (C := Tryd.checked) false (laidWorld os) #[.slice none 0 0] rfl (by kernel_rfl) (by kernel_rfl) (by kernel_rfl)
      (OpenSpec.preRow_of_cond 8 hx (by kernel_rfl) (fun k hk => by cases hk) (by kernel_rfl) (laid_met os))) ?_
  intro W base args ds gs before hval hW _ _ _ hL _ _
  exact contract H enc W base args ds gs before hval hW hL

theorem said : Rows.ChunkPutsSaid :=
  OpenClaim.holds_of_cond 6 Tryd.f6 rfl rfl rfl rfl rfl rfl rfl ⟨rfl, rfl, rfl, rfl, rfl⟩ rfl rfl rfl rfl rfl (by kernel_rfl) Tryd.func6 (by kernel_rfl)
    (of_decide_eq_true (by kernel_rfl)) (by unfold Func.isWrapper; first | (rw [if_pos (by decide +kernel)]; kernel_rfl) | (rw [if_neg (by decide +kernel)]; exact ⟨rfl, rfl⟩))
    (fun os started H enc _ F => by rw [OpenClaim.pre_eq_preRow]; exact lifted os started H enc F)

theorem plain (f : FuncId) (fn : Func) (hf : Tryd.pinned.checked.prog.funcNamed "orchard/orchardlaw07.ChunkPuts" = some f) (hfn : Tryd.pinned.checked.prog.funcs[f]? = some fn) :
    false = Tryd.pinned.checked.prog.looks [] ∧ ∀ (j : Nat) t, fn.params[j]? = some t → Tryd.pinned.checked.prog.wantsStandIn t = false := by
  obtain rfl : f = 6 := Option.some.inj ((show Tryd.prog.funcNamed "orchard/orchardlaw07.ChunkPuts" = some 6 by kernel_rfl).symm.trans hf) |>.symm
  obtain rfl : fn = Tryd.f6 := (Option.some.inj (Tryd.func6.symm.trans hfn)).symm
  refine ⟨by kernel_rfl, fun j t ht => ?_⟩
  rw [Tryd.params6] at ht
  have hm := Array.mem_of_getElem? ht
  simp at hm
  subst hm
  exact (show Tryd.prog.wantsStandIn 74 = false by kernel_rfl)

theorem card : Rows.ChunkPutsCardSaid :=
  Claim7.holds_tied_plain_at .later [] _ _ _ _ said (fun _ h => by cases h) (by kernel_rfl) (fun _ h => by cases h) chunkPuts_row_tie rfl ⟨rfl, rfl⟩ (by kernel_rfl) rfl plain (by kernel_rfl)
end Go.Proofs.YtiknfifiglooeaaDoor.chunkPuts
