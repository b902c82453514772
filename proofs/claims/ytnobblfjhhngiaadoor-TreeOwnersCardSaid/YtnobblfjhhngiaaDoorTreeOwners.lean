/- TreeOwners. No conditions beyond those in the statement. -/
import Derived.Test.YtnobblfjhhngiaaDoorTreeOwn
import Derived.Test.YtnobblfjhhngiaaDoorCards
import Derived.Test.YtnobblfjhhngiaaDoorTie
import Derived.ProofKit
import Derived.OpenShut
import Derived.ShutString
import Derived.ChangeOld
import Derived.Deep.DeepHandedRow
import Derived.Lib.LaidTab
import Derived.Stop.LaidErr
import Derived.Lay
namespace Go.Proofs.YtnobblfjhhngiaaDoor.treeOwners
open Go.ChangeShapes Go.WideShapes Go.ChangeAt Go.RowKit
open Go.ChangeMaps (open_string shut_string)
set_option linter.unusedVariables false
set_option maxRecDepth 100000
theorem i64_and3 (n : Int) : bits .and .i64 n 3 = n % 4 := by
  have h127 : (BitVec.ofInt 64 3).toNat = 2 ^ 2 - 1 := by decide
  have key : (BitVec.ofInt 64 n &&& BitVec.ofInt 64 3).toNat = (n % ((2 ^ 64 : Nat) : Int)).toNat % 2 ^ 2 := by
    rw [BitVec.toNat_and, BitVec.toNat_ofInt, h127, Nat.and_two_pow_sub_one_eq_mod]
  show IntKind.i64.wrap ((BitVec.ofInt 64 n &&& BitVec.ofInt 64 3).toNat : Nat) = n % 4
  rw [key, IntKind.wrap_i64]
  omega
/-- The owners as they are taken. -/
def ownF (a : List Int) (i : Nat) : Int := a.getD i 0 % 4
theorem zP_app (k : Nat) : bs (nP k) ++ ⟨#[47, 120]⟩ = bs (zP k) := by rw [show (⟨#[47, 120]⟩ : ByteArray) = bs [47, 120] from rfl, app_bs, bs_list]; rfl
set_option maxHeartbeats 4000000 in
theorem walk (v0 : Value) (a : List Int) (w : World) (w0 : IntsR w v0 a) :
    Calls Tryd.prog 6 #[v0] w fun e w' => e = .returned (.bool true) ∧ Below w.heap.size w w' := by
  have HH := Lib.hid (head9_any w)
  have i0 := w0.1
  have I0 := Lib.hid i0
  obtain ⟨xa, xc, hva, hxc, hxm, _⟩ := i0
  clear w0
  subst hva
  by_cases ha : 40 < a.length
  · have d1 : decide ((40 : Int) < (a.length : Int)) = true := by simp; omega
    go_enter Tryd.func6, Tryd.ntmps6
    go_wp2_with fail
    refine HH.out.mono ?_
    rintro e w1 ⟨rfl, hb⟩
    go_wp2_with fail
    go_ret
    exact ⟨rfl, hb⟩
  have d1 : decide ((40 : Int) < (a.length : Int)) = false := by simp; omega
  have la : a.length ≤ 40 := by omega
  clear ha
  go_enter Tryd.func6, Tryd.ntmps6
  go_wp2_with fail
  refine HH.out.mono ?_
  rintro e w1 ⟨rfl, b1⟩
  have HN := Lib.hid (new_any w1)
  go_wp2_with fail
  refine HN.out.mono ?_
  rintro e w2 ⟨tb, mb, rfl, H2, b2, ht, hmb⟩
  replace b2 := b1.trans (b2.mono b1.size)
  have hmw : w.heap.size ≤ mb := Nat.le_trans b1.size hmb
  clear HN b1 ht hmb
  go_wp2_with fail
  have H3 := H2.below ((Below.refl _ w2).alloc (Nat.le_refl _) (.cells #[.int .i64 0, .int .i64 0, .int .i64 0, .int .i64 0] 3))
  have b3 := b2.alloc b2.size (.cells #[.int .i64 0, .int .i64 0, .int .i64 0, .int .i64 0] 3)
  have C3 : CB (w2.alloc (.cells #[.int .i64 0, .int .i64 0, .int .i64 0, .int .i64 0] 3)) w2.heap.size (fun i : Nat => cntF (ownF a) 0 (i : Int)) := World.alloc_heap_new w2 _
  have hct : w2.heap.size ≠ tb := by have := H2.lt; omega
  have hcm : w2.heap.size ≠ mb := by have := H2.map.lt; omega
  have hcw : w.heap.size ≤ w2.heap.size := b2.size
  obtain ⟨cb, hcb⟩ : ∃ cb, cb = w2.heap.size := ⟨_, rfl⟩
  obtain ⟨w3, hw3⟩ : ∃ w3, w3 = w2.alloc (.cells #[.int .i64 0, .int .i64 0, .int .i64 0, .int .i64 0] 3) := ⟨_, rfl⟩
  rw [← hw3] at H3 b3 C3 ⊢
  rw [← hcb] at C3 hct hcm hcw ⊢
  clear hw3 hcb H2 b2
  go_loopw [26] (fun iv wr => ∃ (k c : Nat) (b : Int) (T : List UInt8 → Option Nd), k ≤ a.length ∧ iv = .int .i64 k ∧ SInv k b T ∧ OwnI k (ownF a) T ∧ (0 ≤ b ∧ b ≤ 2 * (k : Int)) ∧ c ≤ k + 1 ∧ TrW wr tb mb (1 + 5 * k) c T ∧ CB wr cb (fun i : Nat => cntF (ownF a) k (i : Int)) ∧ Below w.heap.size w wr) (fun iv _ => a.length - (intOf iv).toNat)
  case atStart => exact ⟨0, 1, 0, rootT, by omega, rfl, SInv.new, fun i hi => by omega, by omega, by omega, H3, C3, b3⟩
  case round =>
    obtain ⟨k, c, b, T, hk, rfl, hI, hO, hb, hc, HT, hC, bk⟩ := hrel
    clear H3 b3 C3
    have HI := Lib.hid hI
    have HO := Lib.hid hO
    by_cases hlt : k < a.length
    · have hlt2 : decide ((k : Int) < (a.length : Int)) = true := by simp; omega
      have hcellx : ∃ gg off, xa = some ⟨gg, off, none⟩ ∧ wr.cell? ⟨gg, off + k, none⟩ = some (.int .i64 (a.getD k 0)) := by
        obtain ⟨_, _, hv, _, _, h3⟩ := IntsA.below I0.out bk
        injection hv with ha _ _
        obtain ⟨gg, off, h4, _, h5⟩ := h3.resolve_left (by omega)
        exact ⟨gg, off, ha.trans h4, h5 k hlt⟩
      obtain ⟨gg, off, rfl, hc1⟩ := hcellx
      obtain ⟨z, hz⟩ : ∃ z, z = a.getD k 0 := ⟨_, rfl⟩
      rw [← hz] at hc1
      obtain ⟨u, hu, hu4, huf⟩ : ∃ u : Nat, bits .and .i64 z 3 = (u : Int) ∧ u < 4 ∧ ownF a k = (u : Int) := ⟨(z % 4).toNat, by rw [i64_and3]; omega, by omega, by unfold ownF; rw [← hz]; omega⟩
      have t2 : IntKind.i64.wrap ((k : Int) + 1) = (k : Int) + 1 := IntWalk.i64_in _ (by omega)
      have h2 : (0 : Int) ≤ (k : Int) := by omega
      clear hz
      have C := create_any tb mb (1 + 5 * k) c T [47, 110] ⟨#[]⟩ (u : Int) ((k : Int) + 1) true wr HT (by decide) (by decide) hI.small (by omega)
      rw [hI.create (by omega) c (by omega) (u : Int)] at C
      have HC := Lib.hid C
      have hI1 := hI.one (by omega) (by omega) (u : Int)
      have hO1 := hO.one (b := b) (by omega) huf
      have HI1 := Lib.hid hI1
      have HO1 := Lib.hid hO1
      obtain ⟨x, hx⟩ : ∃ x, x = bs (nP k) := ⟨_, rfl⟩
      rw [← hx] at HC
      have EX : Hid (x ++ ⟨#[47, 120]⟩ = bs (zP k)) := Lib.hid (by rw [hx]; exact zP_app k)
      have hxs : x.size = 12 := by rw [hx, bs_size, nP_len]
      have HC2 : u ≠ 0 → Hid (∀ W : World, TrW W tb mb (1 + 5 * k + 2) (c + 1) (oneS T k b (u : Int)) → Calls Tryd.prog 10 #[.pointer (some ⟨tb, 0, none⟩), .string (bs (zP k)), .string ⟨#[]⟩, .int .i64 0, .int .i64 ((k : Int) + 1), .bool false] W fun e w' => e = .returned (.tuple #[.string ⟨#[]⟩, .int .i64 15]) ∧ Left W tb mb (1 + 5 * k + 2 + 2) (c + 1) (oneS T k b (u : Int)) w') := fun hu0 => Lib.hid (fun W h => by
        have := create_any tb mb (1 + 5 * k + 2) (c + 1) _ (zP k) ⟨#[]⟩ 0 ((k : Int) + 1) false W h (by rw [zP_len]; decide) (by decide) hI1.small (by omega)
        rw [make_own T k (c + 1) b (u : Int) ((k : Int) + 1) (by omega)] at this; exact this)
      have HC3 : u = 0 → Hid (∀ W : World, TrW W tb mb (1 + 5 * k + 2) (c + 1) (oneS T k b (u : Int)) → Calls Tryd.prog 10 #[.pointer (some ⟨tb, 0, none⟩), .string (bs (zP k)), .string ⟨#[]⟩, .int .i64 0, .int .i64 ((k : Int) + 1), .bool false] W fun e w' => e = .returned (.tuple #[.string (bs (zP k)), .int .i64 0]) ∧ Left W tb mb (1 + 5 * k + 2 + 2) (c + 1 + 1) (twoS T k b) w') := fun hu0 => Lib.hid (fun W h => by
        subst hu0
        have := create_any tb mb (1 + 5 * k + 2) (c + 1) _ (zP k) ⟨#[]⟩ 0 ((k : Int) + 1) false W h (by rw [zP_len]; decide) (by decide) hI1.small (by omega)
        rw [show oneS T k b ((0 : Nat) : Int) = oneS T k b 0 from rfl, make_free hI1 (by omega)] at this; exact this)
      have HD3 : u = 0 → Hid (∀ W : World, TrW W tb mb (1 + 5 * k + 2 + 2) (c + 1 + 1) (twoS T k b) → Calls Tryd.prog 14 #[.pointer (some ⟨tb, 0, none⟩), .string (bs (zP k)), .int .i64 (-1)] W fun e w' => e = .returned (.int .i64 0) ∧ Left W tb mb (1 + 5 * k + 2 + 2 + 1) (c + 1 + 1 - 1) (goneS T k b) w') := fun hu0 => Lib.hid (fun W h => by
        subst hu0
        exact delete_ok tb mb (1 + 5 * k + 2 + 2) (c + 1 + 1) (twoS T k b) (zP k) (-1) W h (by rw [zP_len]; decide) (two_keys hI1) (two_up hI1) _ (zP_check k) (two_at T k b) (by unfold chkN; rw [zP_check, two_at]; rfl) (zP_ne k) _ (by rw [zP_up]; exact two_par T k b) (by unfold upC newC; simp) (by omega))
      have HG3 : u = 0 → Hid (SInv (k + 1) (b + 1) (goneS T k b) ∧ OwnI (k + 1) (ownF a) (goneS T k b)) := fun hu0 => by
        subst hu0
        exact Lib.hid ⟨gone_inv hI1, gone_own hO1 huf (by omega)⟩
      obtain ⟨n, hn⟩ : ∃ n : Nat → Nat, n = fun i : Nat => cntF (ownF a) k (i : Int) := ⟨_, rfl⟩
      have hnle : ∀ i, n i ≤ 40 := fun i => by rw [hn]; exact Nat.le_trans (cntF_le (ownF a) k (i : Int)) (by omega)
      have HNI : Hid (incN n u = fun i : Nat => cntF (ownF a) (k + 1) (i : Int)) := Lib.hid (by rw [hn]; exact cnt_inc (ownF a) k u huf)
      rw [← hn] at hC
      have HCb := Lib.hid hC
      clear hx C HT hI hI1 hn hC huf hO hO1
      have hu' : u = 0 ∨ u = 1 ∨ u = 2 ∨ u = 3 := by omega
      rcases hu' with rfl | rfl | rfl | rfl
      · have q1 : IntKind.i64.wrap ((n 0 : Int) + 1) = (n 0 : Int) + 1 := IntWalk.i64_in _ (by have := hnle 0; omega)
        have HCa := HC3 rfl
        have HDa := HD3 rfl
        have HGa := HG3 rfl
        clear HC2 HC3 HD3 HG3 hnle hu4
        go_wp2_with fail
        refine HC.out.mono ?_
        rintro e w4 ⟨rfl, L4⟩
        have b4 := bk.trans (left_below L4 hmw bk.size)
        have C4 := CB.left HCb.out L4.2 hcm
        have H4 := L4.1
        obtain ⟨⟨c0, c1, c2, c3⟩, f0, f1, f2, f3⟩ := C4.cells
        clear L4 HC hc1
        go_upto_region 15 with fail
        have H5 := H4.setCell ⟨cb, 0, none⟩ (.int .i64 ((n 0 : Int) + 1)) hct hcm
        have C5 := C4.inc 0 (by decide)
        have b5 := b4.setCell (p := ⟨cb, 0, none⟩) hcw (.int .i64 ((n 0 : Int) + 1))
        obtain ⟨w5, hw5⟩ : ∃ w5, w5 = w4.setCell ⟨cb, 0, none⟩ (.int .i64 ((n 0 : Int) + 1)) := ⟨_, rfl⟩
        rw [← hw5] at H5 C5 b5 ⊢
        clear hw5 c0 c1 c2 c3 f0 f1 f2 f3 H4 C4 b4
        go_wp2_with fail
        rw [EX.out]
        refine (HCa.out _ H5).mono ?_
        rintro e w6 ⟨rfl, L6⟩
        have b6 := b5.trans (left_below L6 hmw b5.size)
        have C6 := CB.left C5 L6.2 hcm
        have H6 := L6.1
        clear L6 HCa b5 C5 H5
        go_wp2_with fail
        rw [EX.out]
        refine (HDa.out _ H6).mono ?_
        rintro e w7 ⟨rfl, L7⟩
        have b7 := b6.trans (left_below L7 hmw b6.size)
        have C7 := CB.left C6 L7.2 hcm
        have H7 := L7.1
        clear L7 HDa b6 C6 H6
        go_wp2_with fail
        go_roundw
        case rel => exact ⟨k + 1, c + 1 + 1 - 1, b + 1, _, by omega, by go_num, HGa.out.1, HGa.out.2, by omega, by omega, H7.mono (by omega), by rw [← HNI.out]; exact C7, by assumption⟩
        case measure => simp [intOf]; omega
      · have q1 : IntKind.i64.wrap ((n 1 : Int) + 1) = (n 1 : Int) + 1 := IntWalk.i64_in _ (by have := hnle 1; omega)
        have HCa := HC2 (by decide)
        clear HC2 HC3 HD3 HG3 hnle hu4
        go_wp2_with fail
        refine HC.out.mono ?_
        rintro e w4 ⟨rfl, L4⟩
        have b4 := bk.trans (left_below L4 hmw bk.size)
        have C4 := CB.left HCb.out L4.2 hcm
        have H4 := L4.1
        obtain ⟨⟨c0, c1, c2, c3⟩, f0, f1, f2, f3⟩ := C4.cells
        clear L4 HC hc1
        go_upto_region 15 with fail
        have H5 := H4.setCell ⟨cb, 1, none⟩ (.int .i64 ((n 1 : Int) + 1)) hct hcm
        have C5 := C4.inc 1 (by decide)
        have b5 := b4.setCell (p := ⟨cb, 1, none⟩) hcw (.int .i64 ((n 1 : Int) + 1))
        obtain ⟨w5, hw5⟩ : ∃ w5, w5 = w4.setCell ⟨cb, 1, none⟩ (.int .i64 ((n 1 : Int) + 1)) := ⟨_, rfl⟩
        rw [← hw5] at H5 C5 b5 ⊢
        clear hw5 c0 c1 c2 c3 f0 f1 f2 f3 H4 C4 b4
        go_wp2_with fail
        rw [EX.out]
        refine (HCa.out _ H5).mono ?_
        rintro e w6 ⟨rfl, L6⟩
        have b6 := b5.trans (left_below L6 hmw b5.size)
        have C6 := CB.left C5 L6.2 hcm
        have H6 := L6.1
        clear L6 HCa b5 C5 H5
        go_wp2_with fail
        go_roundw
        case rel => exact ⟨k + 1, c + 1, b + 1, _, by omega, by go_num, HI1.out, HO1.out, by omega, by omega, H6.mono (by omega), by rw [← HNI.out]; exact C6, by assumption⟩
        case measure => simp [intOf]; omega
      · have q1 : IntKind.i64.wrap ((n 2 : Int) + 1) = (n 2 : Int) + 1 := IntWalk.i64_in _ (by have := hnle 2; omega)
        have HCa := HC2 (by decide)
        clear HC2 HC3 HD3 HG3 hnle hu4
        go_wp2_with fail
        refine HC.out.mono ?_
        rintro e w4 ⟨rfl, L4⟩
        have b4 := bk.trans (left_below L4 hmw bk.size)
        have C4 := CB.left HCb.out L4.2 hcm
        have H4 := L4.1
        obtain ⟨⟨c0, c1, c2, c3⟩, f0, f1, f2, f3⟩ := C4.cells
        clear L4 HC hc1
        go_upto_region 15 with fail
        have H5 := H4.setCell ⟨cb, 2, none⟩ (.int .i64 ((n 2 : Int) + 1)) hct hcm
        have C5 := C4.inc 2 (by decide)
        have b5 := b4.setCell (p := ⟨cb, 2, none⟩) hcw (.int .i64 ((n 2 : Int) + 1))
        obtain ⟨w5, hw5⟩ : ∃ w5, w5 = w4.setCell ⟨cb, 2, none⟩ (.int .i64 ((n 2 : Int) + 1)) := ⟨_, rfl⟩
        rw [← hw5] at H5 C5 b5 ⊢
        clear hw5 c0 c1 c2 c3 f0 f1 f2 f3 H4 C4 b4
        go_wp2_with fail
        rw [EX.out]
        refine (HCa.out _ H5).mono ?_
        rintro e w6 ⟨rfl, L6⟩
        have b6 := b5.trans (left_below L6 hmw b5.size)
        have C6 := CB.left C5 L6.2 hcm
        have H6 := L6.1
        clear L6 HCa b5 C5 H5
        go_wp2_with fail
        go_roundw
        case rel => exact ⟨k + 1, c + 1, b + 1, _, by omega, by go_num, HI1.out, HO1.out, by omega, by omega, H6.mono (by omega), by rw [← HNI.out]; exact C6, by assumption⟩
        case measure => simp [intOf]; omega
      · have q1 : IntKind.i64.wrap ((n 3 : Int) + 1) = (n 3 : Int) + 1 := IntWalk.i64_in _ (by have := hnle 3; omega)
        have HCa := HC2 (by decide)
        clear HC2 HC3 HD3 HG3 hnle hu4
        go_wp2_with fail
        refine HC.out.mono ?_
        rintro e w4 ⟨rfl, L4⟩
        have b4 := bk.trans (left_below L4 hmw bk.size)
        have C4 := CB.left HCb.out L4.2 hcm
        have H4 := L4.1
        obtain ⟨⟨c0, c1, c2, c3⟩, f0, f1, f2, f3⟩ := C4.cells
        clear L4 HC hc1
        go_upto_region 15 with fail
        have H5 := H4.setCell ⟨cb, 3, none⟩ (.int .i64 ((n 3 : Int) + 1)) hct hcm
        have C5 := C4.inc 3 (by decide)
        have b5 := b4.setCell (p := ⟨cb, 3, none⟩) hcw (.int .i64 ((n 3 : Int) + 1))
        obtain ⟨w5, hw5⟩ : ∃ w5, w5 = w4.setCell ⟨cb, 3, none⟩ (.int .i64 ((n 3 : Int) + 1)) := ⟨_, rfl⟩
        rw [← hw5] at H5 C5 b5 ⊢
        clear hw5 c0 c1 c2 c3 f0 f1 f2 f3 H4 C4 b4
        go_wp2_with fail
        rw [EX.out]
        refine (HCa.out _ H5).mono ?_
        rintro e w6 ⟨rfl, L6⟩
        have b6 := b5.trans (left_below L6 hmw b5.size)
        have C6 := CB.left C5 L6.2 hcm
        have H6 := L6.1
        clear L6 HCa b5 C5 H5
        go_wp2_with fail
        go_roundw
        case rel => exact ⟨k + 1, c + 1, b + 1, _, by omega, by go_num, HI1.out, HO1.out, by omega, by omega, H6.mono (by omega), by rw [← HNI.out]; exact C6, by assumption⟩
        case measure => simp [intOf]; omega
    · obtain rfl : k = a.length := by omega
      have hlt2 : decide ((a.length : Int) < (a.length : Int)) = false := by simp
      have HMEM : ∀ q : Int, q ≠ 0 → Hid (∀ x, (∃ n, T x = some n ∧ n.owner = q) ↔ ∃ i, i < a.length ∧ x = nP i ∧ ownF a i = q) := fun q hq => Lib.hid (fun x => own_mem hI hO hq x)
      obtain ⟨K, hK⟩ : ∃ K, K = 1 + 5 * a.length := ⟨_, rfl⟩
      obtain ⟨n, hn⟩ : ∃ n : Nat → Nat, n = fun i : Nat => cntF (ownF a) a.length (i : Int) := ⟨_, rfl⟩
      have HNQ := Lib.hid hn
      have HOW := Lib.hid (fun (q : Int) (hq : q ≠ 0) (W : World) (h : TrW W tb mb K c T) => owned_any tb mb K c T q W h (by omega) hq)
      have HGT := Lib.hid (fun (x : List UInt8) (nn : Nd) (hx : T x = some nn) (i : Nat) (hxi : x = nP i) (W : World) (h : TrW W tb mb K c T) => by
        have := get_any tb mb K c T x W h (by rw [hxi, nP_len]; decide)
        rw [show getN T x = (nn, 0) by unfold getN; rw [hxi, nP_check, ← hxi, hx]; rfl] at this; exact this)
      rw [← hK] at HT
      rw [← hn] at hC
      clear hK hn hlt hI hO HI HO
      go_wp2_with fail
      go_loopw [11] (fun iv wq => ∃ q : Nat, 1 ≤ q ∧ q ≤ 4 ∧ iv = .int .i64 q ∧ TrW wq tb mb K c T ∧ CB wq cb n ∧ Below w.heap.size w wq) (fun iv _ => 4 - (intOf iv).toNat)
      case atStart => exact ⟨1, by omega, by omega, rfl, HT, hC, bk⟩
      case round =>
        obtain ⟨q, hq1, hq4, rfl, HTq, hCq, bq⟩ := hrel
        clear HT hC bk
        by_cases hq : q < 4
        · have hq2 : decide ((q : Int) < 4) = true := by simp; omega
          have t3 : IntKind.i64.wrap ((q : Int) + 1) = (q : Int) + 1 := IntWalk.i64_in _ (by omega)
          have HO := Lib.hid (HOW.out (q : Int) (by omega) wr HTq)
          have HME := HMEM (q : Int) (by omega)
          have HTq' := Lib.hid HTq
          have HCq' := Lib.hid hCq
          clear HTq hCq
          go_wp2_with fail
          refine HO.out.mono ?_
          rintro e w4 ⟨v, ss, rfl, how, hss, b4⟩
          have H4 := HTq'.out.below b4
          have C4 := CB.below HCq'.out b4
          replace b4 := bq.trans (b4.mono bq.size)
          have hmem : ∀ x, x ∈ ss ↔ ∃ i, i < a.length ∧ x = nP i ∧ ownF a i = (q : Int) := fun x => by rw [hss.mem x]; exact HME.out x
          have hlen : ss.length = n q := by rw [own_len (by omega) hss.nodup hmem, HNQ.out]
          obtain ⟨⟨c0, c1, c2, c3⟩, _⟩ := C4.cells
          have hv : ∃ va cap, v = .slice va ss.length cap ∧ ∀ j, j < ss.length → ∃ g, va = some ⟨g, 0, none⟩ ∧ g < w4.heap.size ∧ w4.cell? ⟨g, j, none⟩ = some (encStr (ss.getD j [])) := by
            rcases how.2 with ⟨rfl, h0⟩ | ⟨g, cap, cur, rfl, _⟩
            · exact ⟨none, 0, by rw [h0], fun j hj => by omega⟩
            · refine ⟨_, cap, rfl, fun j hj => ⟨g, rfl, (how.lt g rfl).2, ?_⟩⟩
              rw [how.cellAt j (by omega)]; simp [List.getD_eq_getElem?_getD, hj]
          obtain ⟨va, cap, rfl, hcel⟩ := hv
          have HSS := Lib.hid hss
          have HMM := Lib.hid hmem
          have HCE := Lib.hid hcel
          have HWW := Lib.hid how
          have hqq : q = 1 ∨ q = 2 ∨ q = 3 := by omega
          have cq : w4.cell? ⟨cb, q, none⟩ = some (.int .i64 (ss.length : Int)) := by
            rw [hlen]; rcases hqq with rfl | rfl | rfl
            · exact c1
            · exact c2
            · exact c3
          have hq0 : (0 : Int) ≤ (q : Int) := by omega
          have H4' := Lib.hid H4
          have C4' := Lib.hid C4
          have hssl : ss.length ≤ 100 := by rw [own_len (by omega) hss.nodup hmem]; have := cntF_le (ownF a) a.length (q : Int); omega
          clear c0 c1 c2 c3 hss hmem hcel how hqq H4 C4 hlen HO
          go_wp2_with fail
          go_loopw [102] (fun jv wx => ∃ j : Nat, j ≤ ss.length ∧ jv = .int .i64 j ∧ Below w4.heap.size w4 wx) (fun jv _ => ss.length - (intOf jv).toNat)
          case atStart => exact ⟨0, by omega, rfl, Below.refl _ _⟩
          case round =>
            obtain ⟨j, hj, rfl, bx⟩ := hrel
            by_cases hlj : j < ss.length
            · have hlj2 : decide ((j : Int) < (ss.length : Int)) = true := by simp; omega
              have t4 : IntKind.i64.wrap ((j : Int) + 1) = (j : Int) + 1 := IntWalk.i64_in _ (by omega)
              have hj0 : (0 : Int) ≤ (j : Int) := by omega
              obtain ⟨g, rfl, hg, hcj⟩ := HCE.out j hlj
              replace hcj := (bx.cell (p := ⟨g, j, none⟩) hg).trans hcj
              obtain ⟨x, hx⟩ : ∃ x, x = ss.getD j [] := ⟨_, rfl⟩
              rw [← hx] at hcj
              replace hcj : _ = some (Value.string (bs x)) := hcj
              have hxm : x ∈ ss := by rw [hx]; simp [List.getD_eq_getElem?_getD, hlj]
              obtain ⟨i, hi, hxi, hfi⟩ := (HMM.out x).1 hxm
              obtain ⟨nn, hTx, hno⟩ := (HSS.out.mem x).1 hxm
              have HG := Lib.hid (HGT.out x nn hTx i hxi wr (H4'.out.below bx))
              obtain ⟨nd, nv, nb, no, nm, np, ns⟩ := nn
              simp only at hno
              subst hno
              unfold ndV at HG
              have HX := Lib.hid hx
              clear hx hxm hxi hfi hTx hi
              by_cases hjz : j = 0
              · subst hjz
                go_wp2_with fail
                refine HG.out.mono ?_
                rintro e w6 ⟨rfl, b6⟩
                replace b6 := bx.trans (b6.mono bx.size)
                have b7 := b6.alloc b6.size (.cells #[.string nd, .int .i64 nv, .int .i64 nb, .int .i64 (q : Int), .int .i64 nm, .int .i64 np, .int .i64 ns] 30)
                go_wp2_with fail
                go_roundw
                case rel => exact ⟨0 + 1, by omega, by go_num, b7⟩
                case measure => simp [intOf]; omega
              · obtain ⟨p, hp⟩ : ∃ p, j = p + 1 := ⟨j - 1, by omega⟩
                have t5 : IntKind.i64.wrap ((j : Int) - 1) = (p : Int) := by rw [IntWalk.i64_in _ (by omega)]; omega
                have dj : decide ((0 : Int) < (j : Int)) = true := by simp; omega
                have hp0 : (0 : Int) ≤ (p : Int) := by omega
                have hpl : (p : Int) < (ss.length : Int) := by omega
                obtain ⟨y, hy⟩ : ∃ y, y = ss.getD p [] := ⟨_, rfl⟩
                have hyx : Op.bytesLess (bs y).toList (bs x).toList = true := by
                  have e1 : ss.getD p [] = ss[p]'(by omega) := by simp [List.getD_eq_getElem?_getD, show p < ss.length by omega]
                  have e2 : ss.getD j [] = ss[j] := by simp [List.getD_eq_getElem?_getD, hlj]
                  rw [hy, HX.out, e1, e2]
                  exact str_less _ _ (List.pairwise_iff_getElem.1 HSS.out.sorted p j (by omega) hlj (by omega)) (List.pairwise_iff_getElem.1 HSS.out.nodup p j (by omega) hlj (by omega))
                obtain ⟨g', hg', _, hcp⟩ := HCE.out p (by omega)
                obtain rfl : g' = g := by injection hg' with hg'; injection hg' with hg' _; exact hg'.symm
                replace hcp := (bx.cell (p := ⟨g', p, none⟩) hg).trans hcp
                rw [← hy] at hcp
                replace hcp : _ = some (Value.string (bs y)) := hcp
                have HCP := Lib.hid hcp
                have hgx : g' < wr.heap.size := Nat.lt_of_lt_of_le hg bx.size
                clear hcp hy hg' hp
                go_wp2_with fail
                refine HG.out.mono ?_
                rintro e w6 ⟨rfl, b6⟩
                have hc6 := (b6.cell (p := ⟨g', p, none⟩) hgx).trans HCP.out
                have hg6 : g' < w6.heap.size := Nat.lt_of_lt_of_le hgx b6.size
                have hg7 : ¬ g' = w6.heap.size := by omega
                have hg8 : ¬ w6.heap.size = g' := by omega
                replace b6 := bx.trans (b6.mono bx.size)
                have b7 := b6.alloc b6.size (.cells #[.string nd, .int .i64 nv, .int .i64 nb, .int .i64 (q : Int), .int .i64 nm, .int .i64 np, .int .i64 ns] 30)
                go_wp2_with fail
                go_roundw
                case rel => exact ⟨j + 1, by omega, by go_num, b7⟩
                case measure => simp [intOf]; omega
            · obtain rfl : j = ss.length := by omega
              have hlj2 : decide ((ss.length : Int) < (ss.length : Int)) = false := by simp
              have Hx := H4'.out.below bx
              have Cx := CB.below C4'.out bx
              have b8 := b4.trans (bx.mono b4.size)
              go_wp2_with fail
              go_roundw
              case rel => exact ⟨q + 1, by omega, by omega, by go_num, Hx, Cx, b8⟩
              case measure => simp [intOf]; omega
        · obtain rfl : q = 4 := by omega
          have HZ := Lib.hid (fun W : World => owned_zero (.pointer (some ⟨tb, 0, none⟩)) W)
          clear hq
          go_wp2_with fail
          refine (HZ.out _).mono ?_
          rintro e w4 ⟨rfl, rfl⟩
          go_wp2_with fail
          go_ret
          exact ⟨rfl, bq⟩

theorem own : ownKnob Tryd.prog.godebug = none := by kernel_rfl
theorem laidOut : laidOutB Tryd.prog = true := by kernel_rfl

theorem contract (H : Type) (enc : TypeId × Value → H) (W : World) (base : Nat) (args : Array Value) (ds gs : List (DataW H)) (before : List MemPlace)
    (hval : ∀ (j : Nat) t v, Tryd.f6.params[j]? = some t → args[j]? = some v → Value.okWide Tryd.prog W .any base t v)
    (hW : DataW.Whole enc Tryd.prog Tryd.f6.params.toList Rows.treeOwnersSpec.vars false W args.toList ds gs before) (hL : laidMetH Tryd.prog Rows.treeOwnersRow.laid W) :
    Calls Tryd.prog 6 args W fun e W' => ∃ v, e = .returned v ∧ Rows.treeOwnersSpec.post enc Tryd.prog Tryd.f6 false true false false W args v W' := by
  have hW' := hW
  obtain ⟨p, q, hA0, hV, rfl, hfz, hnd⟩ := hW
  have hA : DataW.TrodAll enc Tryd.prog W 0 (fun _ => true) true Tryd.f6.params.toList args.toList ds p := hA0
  rw [Tryd.params6] at hA hval
  obtain ⟨v0, vs0, d0, ds0, p0, q0, hargs, rfl, rfl, h0, r0⟩ := trodAll_cons hA
  obtain ⟨rfl, rfl, rfl⟩ := trodAll_nil r0
  obtain rfl : args = #[v0] := by cases args; simp_all
  obtain ⟨rfl, rfl⟩ := trodVars_none hV
  have k0 := h0
  have lt0 : ∀ x ∈ p0, x.block < W.heap.size := by obtain ⟨m, hm⟩ := k0; exact DataW.trod_lt m _ _ _ hm
  obtain ⟨z0, w0⟩ := ints_of (hval 0 38 v0 rfl rfl) h0
  clear hA0
  refine (walk v0 z0 W w0).mono fun e W' ⟨he, bel⟩ => ?_
  subst he
  exact ⟨_, rfl, _, _, _, [], _, [], hW', trodAll_mk1 (shut_bool Tryd.underlying4 _), (trodAll_cons_mk (Below.trod laidOut (by kernel_rfl) (of_decide_eq_true (by kernel_rfl)) k0 bel lt0) trodAll_mk0), rfl, bel.frame _, fun h => by cases h⟩

theorem laid_met (os : Os) : laidMet Tryd.prog Rows.treeOwnersRow.laid ((World.laidAll Tryd.prog os Rows.treeOwnersRow.laid).forCall (fun _ _ => 0) ⟨#[], #[.slice none 0 0], []⟩).memory :=
  laidMet_laidAll _ (by kernel_rfl) (by kernel_rfl)
theorem reads (os : Os) {H : Type} (enc : TypeId × Value → H) : ∃ places, DataW.whole enc Tryd.prog ((World.laidAll Tryd.prog os Rows.treeOwnersRow.laid).forCall (fun _ _ => 0) ⟨#[], #[.slice none 0 0], []⟩).memory Tryd.f6.params.toList Rows.treeOwnersSpec.vars false #[Value.slice none 0 0].toList 8 = some ([.nil], [], places) :=
  ⟨[], by kernel_rfl⟩

set_option maxRecDepth 100000 in
theorem lifted (os : Os) (started : os.Started) (H : Type) (enc : TypeId × Value → H) (F : Stop.Interp) :
    ReturnsInHanded {} Tryd.checked os 6 .any ((OpenSpec.ofChange Rows.treeOwnersSpec).preRow enc Tryd.prog Tryd.f6 Rows.treeOwnersRow.domain false Rows.treeOwnersRow.laid) (((OpenSpec.ofChange Rows.treeOwnersSpec).at F).post enc Tryd.prog Tryd.f6 false true false false) := by
  obtain ⟨places, hx⟩ := reads os enc
  refine returnsInHanded_of_row (C := Tryd.checked) (s := OpenSpec.ofChange Rows.treeOwnersSpec) own started (by kernel_rfl) Tryd.func6
    (witness_zip (enc := enc) (C := Tryd.checked) false (World.laidAll Tryd.prog os Rows.treeOwnersRow.laid) #[.slice none 0 0] (World.laidAll_os _ _ _) (World.shaped_of_ZipB (by kernel_rfl) (by kernel_rfl)) (by kernel_rfl)
      (OpenSpec.preRow_of_cond 8 hx (by kernel_rfl) (fun k hk => by cases hk) (by kernel_rfl) (laid_met os))) ?_
  intro W base args ds gs before hval hW _ _ _ hL _ _
  exact contract H enc W base args ds gs before hval hW hL

theorem said : Rows.TreeOwnersSaid :=
  OpenClaim.holds_of_cond 6 Tryd.f6 rfl rfl rfl rfl rfl rfl rfl ⟨rfl, rfl, rfl, rfl, rfl⟩ rfl rfl rfl rfl rfl (by kernel_rfl) Tryd.func6 (by kernel_rfl)
    (of_decide_eq_true (by kernel_rfl)) (by unfold Func.isWrapper; first | (rw [if_pos (by decide +kernel)]; kernel_rfl) | (rw [if_neg (by decide +kernel)]; exact ⟨rfl, rfl⟩))
    (fun os started H enc _ F => by rw [OpenClaim.pre_eq_preRow]; exact lifted os started H enc F)

theorem plain (f : FuncId) (fn : Func) (hf : Tryd.pinned.checked.prog.funcNamed "orchard/orchardlaw09.TreeOwners" = some f) (hfn : Tryd.pinned.checked.prog.funcs[f]? = some fn) :
    false = Tryd.pinned.checked.prog.looks [] ∧ ∀ (j : Nat) t, fn.params[j]? = some t → Tryd.pinned.checked.prog.wantsStandIn t = false := by
  obtain rfl : f = 6 := Option.some.inj ((show Tryd.prog.funcNamed "orchard/orchardlaw09.TreeOwners" = some 6 by kernel_rfl).symm.trans hf) |>.symm
  obtain rfl : fn = Tryd.f6 := (Option.some.inj (Tryd.func6.symm.trans hfn)).symm
  refine ⟨by kernel_rfl, fun j t ht => ?_⟩
  rw [Tryd.params6] at ht
  have hm := Array.mem_of_getElem? ht
  simp at hm
  subst hm
  exact (show Tryd.prog.wantsStandIn 38 = false by kernel_rfl)

theorem card : Rows.TreeOwnersCardSaid :=
  Claim7.holds_tied_plain_at .later [] _ _ _ _ said (fun _ h => by cases h) (by kernel_rfl) (fun _ h => by cases h) treeOwners_row_tie rfl ⟨rfl, rfl⟩ (by kernel_rfl) rfl plain (by kernel_rfl)
end Go.Proofs.YtnobblfjhhngiaaDoor.treeOwners
