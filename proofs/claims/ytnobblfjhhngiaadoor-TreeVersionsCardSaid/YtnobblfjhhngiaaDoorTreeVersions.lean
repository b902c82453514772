/- TreeVersions. No conditions beyond those in the statement. -/
import Derived.Test.YtnobblfjhhngiaaDoorTreeDelete
import Derived.Test.YtnobblfjhhngiaaDoorPathArgs
import Derived.Test.YtnobblfjhhngiaaDoorCards
import Derived.Test.YtnobblfjhhngiaaDoorTie
import Derived.ProofKit
import Derived.OpenShut
import Derived.ShutString
import Derived.ChangeOld
import Derived.Deep.DeepHandedRow
import Derived.Lib.LaidTab
import Derived.Stop.LaidErr
import Derived.Lay
namespace Go.Proofs.YtnobblfjhhngiaaDoor.treeVersions
open Go.ChangeShapes Go.WideShapes Go.ChangeAt Go.RowKit
open Go.ChangeMaps (open_string shut_string)
set_option linter.unusedVariables false
set_option maxRecDepth 100000
theorem i64_and15 (n : Int) : bits .and .i64 n 15 = n % 16 := by
  have h127 : (BitVec.ofInt 64 15).toNat = 2 ^ 4 - 1 := by decide
  have key : (BitVec.ofInt 64 n &&& BitVec.ofInt 64 15).toNat = (n % ((2 ^ 64 : Nat) : Int)).toNat % 2 ^ 4 := by
    rw [BitVec.toNat_and, BitVec.toNat_ofInt, h127, Nat.and_two_pow_sub_one_eq_mod]
  show IntKind.i64.wrap ((BitVec.ofInt 64 n &&& BitVec.ofInt 64 15).toNat : Nat) = n % 16
  rw [key, IntKind.wrap_i64]
  omega
def rootV : Nd := ⟨⟨#[]⟩, 0, 1, 0, 0, 0, 0⟩
/-- The tree of the node /a. -/
def VT (d : ByteArray) (v p : Int) : List UInt8 → Option Nd := updN (updN rootT [47] (some rootV)) [47, 97] (some ⟨d, v, 0, 0, 1, p, 0⟩)
theorem updN_twice (T : List UInt8 → Option Nd) (z : List UInt8) (a b : Option Nd) : updN (updN T z a) z b = updN T z b := by
  funext x; unfold updN; split <;> rfl
theorem VT_a (d : ByteArray) (v p : Int) : VT d v p [47, 97] = some ⟨d, v, 0, 0, 1, p, 0⟩ := updN_same _ _ _
theorem VT_root (d : ByteArray) (v p : Int) : VT d v p [47] = some rootV := by
  unfold VT; rw [updN_other (by decide), updN_same]
theorem VT_keys (d : ByteArray) (v p : Int) : KeysOk (VT d v p) := (KeysOk.root.upd root_check _).upd (by decide) _
theorem VT_kids (d : ByteArray) (v p : Int) : ∀ x n, VT d v p x = some n → upP x ≠ [47, 97] := by
  intro x n h
  by_cases e : x = [47, 97]
  · rw [e]; decide
  · unfold VT at h
    rw [updN_other e] at h
    by_cases e2 : x = [47]
    · rw [e2]; decide
    · rw [updN_other e2, rootT, updN_other e2] at h; cases h
theorem VT_small (d : ByteArray) (v p : Int) (h : 0 ≤ v ∧ v ≤ 1000) : SmallT (VT d v p) :=
  SmallT.upd (SmallT.upd small_root _ _ (by decide)) _ _ (by simp; omega)
theorem chk_VT (d : ByteArray) (v p x : Int) : chkN (VT d v p) [47, 97] x = if 0 ≤ x ∧ x ≠ v then 14 else 0 := by
  unfold chkN
  rw [VT_a, show checkL [47, 97] = true by decide]; rfl
theorem set_yes (d e : ByteArray) (v p x t : Int) (hx : x < 0 ∨ x = v) (he : e.size ≤ 60) : setN (VT d v p) [47, 97] e x t = ⟨v + 1, 0, VT e (v + 1) t⟩ := by
  have h0 : chkN (VT d v p) [47, 97] x = 0 := by rw [chk_VT, if_neg (by omega)]
  unfold setN
  rw [h0, if_neg (by decide), if_neg (by omega), VT_a]
  unfold VT putN
  rw [updN_twice]; rfl
theorem set_no (d e : ByteArray) (v p x t : Int) (hx : 0 ≤ x) (hx2 : x ≠ v) : setN (VT d v p) [47, 97] e x t = ⟨0, 14, VT d v p⟩ := by
  have h0 : chkN (VT d v p) [47, 97] x = 14 := by rw [chk_VT, if_pos ⟨hx, hx2⟩]
  unfold setN
  rw [h0, if_pos (by decide)]
theorem chk_gone (d : ByteArray) (v p : Int) : chkN (lessN (VT d v p) [47, 97] rootV) [47, 97] (-1) = 11 := by
  unfold chkN lessN
  rw [show upP [47, 97] = [47] by decide, updN_other (by decide), updN_same, show checkL [47, 97] = true by decide]; rfl
theorem hT1_VT : hT1 = VT ⟨#[]⟩ 0 1 := rfl
set_option maxHeartbeats 4000000 in
theorem walk (v0 : Value) (a : List Int) (w : World) (w0 : IntsR w v0 a) :
    Calls Tryd.prog 5 #[v0] w fun e w' => e = .returned (.bool true) ∧ Below w.heap.size w w' := by
  have HH := Lib.hid (head9_any w)
  have i0 := w0.1
  have wfa := Lib.hid w0.2
  have I0 := Lib.hid i0
  obtain ⟨xa, xc, hva, hxc, hxm, _⟩ := i0
  clear w0
  subst hva
  by_cases ha : 30 < a.length
  · have d1 : decide ((30 : Int) < (a.length : Int)) = true := by simp; omega
    go_enter Tryd.func5, Tryd.ntmps5
    go_wp2_with fail
    refine HH.out.mono ?_
    rintro e w1 ⟨rfl, hb⟩
    go_wp2_with fail
    go_ret
    exact ⟨rfl, hb⟩
  have d1 : decide ((30 : Int) < (a.length : Int)) = false := by simp; omega
  have la : a.length ≤ 30 := by omega
  clear ha
  go_enter Tryd.func5, Tryd.ntmps5
  go_wp2_with fail
  refine HH.out.mono ?_
  rintro e w1 ⟨rfl, b1⟩
  have HN := Lib.hid (new_any w1)
  go_wp2_with fail
  refine HN.out.mono ?_
  rintro e w2 ⟨tb, mb, rfl, H2, b2, ht, hmb⟩
  replace b2 := b1.trans (b2.mono b1.size)
  have hmw : w.heap.size ≤ mb := Nat.le_trans b1.size hmb
  have C2 := create_any tb mb 1 1 rootT [47, 97] ⟨#[]⟩ 0 1 false w2 H2 (by decide) (by decide) small_root (by decide)
  rw [hc1, hT1_VT] at C2
  have HC2 := Lib.hid C2
  clear HN b1 ht hmb C2 H2
  go_wp2_with fail
  refine HC2.out.mono ?_
  rintro e w3 ⟨rfl, L3⟩
  have b3 := b2.trans (left_below L3 hmw b2.size)
  have H3 := L3.1
  clear L3 b2 HC2
  go_wp2_with fail
  go_loopw [6, 7, 8, 9, 10, 11, 27] (fun hv _ _ _ _ _ iv wr => ∃ (k g : Nat) (d : ByteArray) (p : Int), k ≤ a.length ∧ g ≤ k ∧ iv = .int .i64 k ∧ hv = .int .i64 (g : Int) ∧ TrW wr tb mb (3 + k) 2 (VT d (g : Int) p) ∧ Below w.heap.size w wr) (fun _ _ _ _ _ _ iv _ => a.length - (intOf iv).toNat)
  case atStart => exact ⟨0, 0, ⟨#[]⟩, 1, by omega, by omega, rfl, rfl, H3, b3⟩
  case round =>
    obtain ⟨k, g, d, p, hk, hgk, rfl, rfl, HT, bk⟩ := hrel
    clear H3 b3
    by_cases hlt : k < a.length
    · have hlt2 : decide ((k : Int) < (a.length : Int)) = true := by simp; omega
      have hcellx : ∃ gg off, xa = some ⟨gg, off, none⟩ ∧ wr.cell? ⟨gg, off + k, none⟩ = some (.int .i64 (a.getD k 0)) := by
        obtain ⟨_, _, hv, _, _, h3⟩ := IntsA.below I0.out bk
        injection hv with ha _ _
        obtain ⟨gg, off, h4, _, h5⟩ := h3.resolve_left (by omega)
        exact ⟨gg, off, ha.trans h4, h5 k hlt⟩
      obtain ⟨gg, off, rfl, hc1⟩ := hcellx
      obtain ⟨z, hz⟩ : ∃ z, z = a.getD k 0 := ⟨_, rfl⟩
      rw [← hz] at hc1
      obtain ⟨u, hu, hu2⟩ : ∃ u : Nat, bits .and .i64 z 15 = (u : Int) ∧ u < 16 := ⟨(z % 16).toNat, by rw [i64_and15]; omega, by omega⟩
      obtain ⟨x, hx, hx1⟩ : ∃ x : Int, IntKind.i64.wrap ((u : Int) - 1) = x ∧ (-1 ≤ x ∧ x ≤ 14) := ⟨(u : Int) - 1, IntWalk.i64_in _ (by omega), by omega⟩
      obtain ⟨cc, hcc⟩ : ∃ cc : UInt8, IntKind.u8.wrap (k : Int) = (cc.toNat : Int) := ⟨UInt8.ofNat k, by simp [IntKind.wrap, IntKind.bits, IntKind.signed]⟩
      have t1 : IntKind.i64.wrap (2 + (k : Int)) = 2 + (k : Int) := IntWalk.i64_in _ (by omega)
      have t2 : IntKind.i64.wrap ((k : Int) + 1) = (k : Int) + 1 := IntWalk.i64_in _ (by omega)
      clear hz hu2
      have h2 : (0 : Int) ≤ (k : Int) := by omega
      have hcv : (convert 41 9 (.slice (some ⟨wr.heap.size, 0, none⟩) 1 1)).run Tryd.prog (wr.alloc (.cells #[.int .u8 (cc.toNat : Int)] 5)) = _ := run_convert_bytes_back (P := Tryd.prog) (wr.alloc (.cells #[.int .u8 (cc.toNat : Int)] 5)) 41 9 5 ⟨wr.heap.size, 0, none⟩ 1 [cc] (by kernel_rfl) (by kernel_rfl) (by kernel_rfl) (fun j hj => by
        obtain rfl : j = 0 := by simpa using hj
        simp [Addr.add])
      have HW : Hid (TrW wr tb mb (3 + k) 2 (VT d (g : Int) p)) := Lib.hid HT
      have hSY : (x < 0 ∨ x = (g : Int)) → Hid (∀ W : World, TrW W tb mb (3 + k) 2 (VT d (g : Int) p) → Calls Tryd.prog 15 #[.pointer (some ⟨tb, 0, none⟩), .string (bs [47, 97]), .string ⟨#[cc]⟩, .int .i64 x, .int .i64 (2 + (k : Int))] W fun e w' => e = .returned (.tuple #[.int .i64 ((g : Int) + 1), .int .i64 0]) ∧ Left W tb mb (3 + k + 1) 2 (VT ⟨#[cc]⟩ ((g : Int) + 1) (2 + (k : Int))) w') := fun hxx => Lib.hid (fun W h => by
        have := set_any tb mb (3 + k) 2 (VT d (g : Int) p) [47, 97] ⟨#[cc]⟩ x (2 + (k : Int)) W h (by decide) (show 1 ≤ 1000 by decide) (VT_small _ _ _ (by omega)) (by omega)
        rw [set_yes d ⟨#[cc]⟩ _ _ _ _ hxx (show 1 ≤ 60 by decide)] at this; exact this)
      have hSN : (0 ≤ x ∧ x ≠ (g : Int)) → Hid (∀ W : World, TrW W tb mb (3 + k) 2 (VT d (g : Int) p) → Calls Tryd.prog 15 #[.pointer (some ⟨tb, 0, none⟩), .string (bs [47, 97]), .string ⟨#[cc]⟩, .int .i64 x, .int .i64 (2 + (k : Int))] W fun e w' => e = .returned (.tuple #[.int .i64 0, .int .i64 14]) ∧ Left W tb mb (3 + k + 1) 2 (VT d (g : Int) p) w') := fun hxx => Lib.hid (fun W h => by
        have := set_any tb mb (3 + k) 2 (VT d (g : Int) p) [47, 97] ⟨#[cc]⟩ x (2 + (k : Int)) W h (by decide) (show 1 ≤ 1000 by decide) (VT_small _ _ _ (by omega)) (by omega)
        rw [set_no _ _ _ _ _ _ hxx.1 hxx.2] at this; exact this)
      have HK0 := Lib.hid (fun (W : World) (d' : ByteArray) (g' p' : Int) (h : TrW W tb mb (3 + k + 1) 2 (VT d' g' p')) => by
        have := chk_any tb mb (3 + k + 1) 2 (VT d' g' p') [47, 97] g' W h (by decide)
        rw [chk_VT, if_neg (fun e => e.2 rfl)] at this; exact this)
      have HK1 := Lib.hid (fun (W : World) (d' : ByteArray) (g' p' : Int) (h : TrW W tb mb (3 + k + 1) 2 (VT d' g' p')) (h0 : 0 ≤ g') => by
        have := chk_any tb mb (3 + k + 1) 2 (VT d' g' p') [47, 97] (g' + 1) W h (by decide)
        rw [chk_VT, if_pos (by omega)] at this; exact this)
      have HK2 := Lib.hid (fun (W : World) (d' : ByteArray) (g' p' : Int) (h : TrW W tb mb (3 + k + 1) 2 (VT d' g' p')) => by
        have := chk_any tb mb (3 + k + 1) 2 (VT d' g' p') [47, 97] (-1) W h (by decide)
        rw [chk_VT, if_neg (by omega)] at this; exact this)
      have hbk : wr.heap.size = wr.heap.size := rfl
      have bA := bk.alloc bk.size (.cells #[.int .u8 (cc.toNat : Int)] 5)
      have HTA := HT.below ((Below.refl _ wr).alloc (Nat.le_refl _) (.cells #[.int .u8 (cc.toNat : Int)] 5))
      clear HT HW hbk
      have hcase : (∃ g' : Nat, decide (x < 0) = true ∧ (x < 0 ∨ x = (g : Int)) ∧ g' = g + 1) ∨ (∃ g' : Nat, decide (x < 0) = false ∧ (x == (g : Int)) = true ∧ (x < 0 ∨ x = (g : Int)) ∧ g' = g + 1) ∨ (decide (x < 0) = false ∧ (x == (g : Int)) = false ∧ (0 ≤ x ∧ x ≠ (g : Int))) := by
        by_cases q1 : x < 0
        · exact .inl ⟨g + 1, by simpa using q1, .inl q1, rfl⟩
        · by_cases q2 : x = (g : Int)
          · exact .inr (.inl ⟨g + 1, by simpa using q1, by simpa using q2, .inr q2, rfl⟩)
          · exact .inr (.inr ⟨by simpa using q1, by simpa using q2, by omega, q2⟩)
      rcases hcase with ⟨g', c1, hxx, hg'⟩ | ⟨g', c1, c2, hxx, hg'⟩ | ⟨c1, c2, hxx⟩
      · have HS := hSY hxx
        have e1 : (g : Int) + 1 = (g' : Int) := by omega
        have e2 : IntKind.i64.wrap ((g : Int) + 1) = (g' : Int) := by rw [IntWalk.i64_in _ (by omega)]; exact e1
        have e3 : IntKind.i64.wrap ((g' : Int) + 1) = (g' : Int) + 1 := IntWalk.i64_in _ (by omega)
        rw [e1] at HS
        have c3 : (g' : Nat) ≤ k + 1 := by omega
        clear hSY hSN hxx e1 hg' hx1
        go_wp2_with fail
        refine (HS.out _ HTA).mono ?_
        rintro e w4 ⟨rfl, L4⟩
        have b4 := bA.trans (left_below L4 hmw bA.size)
        have H4 := L4.1
        clear L4 bA HTA hcv hc1
        go_wp2_with fail
        refine (HK0.out _ _ _ _ H4).mono ?_
        rintro e w5 ⟨rfl, b5⟩
        have H5 := H4.below b5
        replace b5 := b4.trans (b5.mono b4.size)
        clear H4 b4
        go_wp2_with fail
        refine (HK1.out _ _ _ _ H5 (by omega)).mono ?_
        rintro e w6 ⟨rfl, b6⟩
        have H6 := H5.below b6
        replace b6 := b5.trans (b6.mono b5.size)
        clear H5 b5
        go_wp2_with fail
        refine (HK2.out _ _ _ _ H6).mono ?_
        rintro e w7 ⟨rfl, b7⟩
        have H7 := H6.below b7
        replace b7 := b6.trans (b7.mono b6.size)
        clear H6 b6
        go_wp2_with fail
        go_roundw
        case rel => exact ⟨k + 1, g', _, _, by omega, by omega, by go_num, rfl, H7.mono (by omega), by assumption⟩
        case measure => simp [intOf]; omega
      · have HS := hSY hxx
        have e1 : (g : Int) + 1 = (g' : Int) := by omega
        have e2 : IntKind.i64.wrap ((g : Int) + 1) = (g' : Int) := by rw [IntWalk.i64_in _ (by omega)]; exact e1
        have e3 : IntKind.i64.wrap ((g' : Int) + 1) = (g' : Int) + 1 := IntWalk.i64_in _ (by omega)
        rw [e1] at HS
        have c3 : (g' : Nat) ≤ k + 1 := by omega
        clear hSY hSN hxx e1 hg' hx1
        go_wp2_with fail
        refine (HS.out _ HTA).mono ?_
        rintro e w4 ⟨rfl, L4⟩
        have b4 := bA.trans (left_below L4 hmw bA.size)
        have H4 := L4.1
        clear L4 bA HTA hcv hc1
        go_wp2_with fail
        refine (HK0.out _ _ _ _ H4).mono ?_
        rintro e w5 ⟨rfl, b5⟩
        have H5 := H4.below b5
        replace b5 := b4.trans (b5.mono b4.size)
        clear H4 b4
        go_wp2_with fail
        refine (HK1.out _ _ _ _ H5 (by omega)).mono ?_
        rintro e w6 ⟨rfl, b6⟩
        have H6 := H5.below b6
        replace b6 := b5.trans (b6.mono b5.size)
        clear H5 b5
        go_wp2_with fail
        refine (HK2.out _ _ _ _ H6).mono ?_
        rintro e w7 ⟨rfl, b7⟩
        have H7 := H6.below b7
        replace b7 := b6.trans (b7.mono b6.size)
        clear H6 b6
        go_wp2_with fail
        go_roundw
        case rel => exact ⟨k + 1, g', _, _, by omega, by omega, by go_num, rfl, H7.mono (by omega), by assumption⟩
        case measure => simp [intOf]; omega
      · have HS := hSN hxx
        have e3 : IntKind.i64.wrap ((g : Int) + 1) = (g : Int) + 1 := IntWalk.i64_in _ (by omega)
        clear hSY hSN hxx hx1
        go_wp2_with fail
        refine (HS.out _ HTA).mono ?_
        rintro e w4 ⟨rfl, L4⟩
        have b4 := bA.trans (left_below L4 hmw bA.size)
        have H4 := L4.1
        clear L4 bA HTA hcv hc1
        go_wp2_with fail
        refine (HK0.out _ _ _ _ H4).mono ?_
        rintro e w5 ⟨rfl, b5⟩
        have H5 := H4.below b5
        replace b5 := b4.trans (b5.mono b4.size)
        clear H4 b4
        go_wp2_with fail
        refine (HK1.out _ _ _ _ H5 (by omega)).mono ?_
        rintro e w6 ⟨rfl, b6⟩
        have H6 := H5.below b6
        replace b6 := b5.trans (b6.mono b5.size)
        clear H5 b5
        go_wp2_with fail
        refine (HK2.out _ _ _ _ H6).mono ?_
        rintro e w7 ⟨rfl, b7⟩
        have H7 := H6.below b7
        replace b7 := b6.trans (b7.mono b6.size)
        clear H6 b6
        go_wp2_with fail
        go_roundw
        case rel => exact ⟨k + 1, g, _, _, by omega, by omega, by go_num, rfl, H7.mono (by omega), by assumption⟩
        case measure => simp [intOf]; omega
    · obtain rfl : k = a.length := by omega
      have hlt2 : decide ((a.length : Int) < (a.length : Int)) = false := by simp
      have e3 : IntKind.i64.wrap ((g : Int) + 1) = (g : Int) + 1 := IntWalk.i64_in _ (by omega)
      have HD1 := Lib.hid (delete_err tb mb (3 + a.length) 2 (VT d (g : Int) p) [47, 97] ((g : Int) + 1) 14 wr HT (by decide) (by rw [chk_VT, if_pos (by omega)]) (by decide))
      have HD2 := Lib.hid (fun (W : World) (hb : Below wr.heap.size wr W) => delete_ok tb mb (3 + a.length) 2 (VT d (g : Int) p) [47, 97] (g : Int) W (HT.below hb) (by decide) (VT_keys _ _ _) (VT_kids _ _ _) _ (by decide) (VT_a _ _ _) (by rw [chk_VT, if_neg (fun e => e.2 rfl)]) (by decide) rootV (VT_root _ _ _) (by decide) (by omega))
      have HD3 := Lib.hid (fun (W : World) (hb : TrW W tb mb (3 + a.length + 1) (2 - 1) (lessN (VT d (g : Int) p) [47, 97] rootV)) => by
        have := chk_any tb mb _ _ _ [47, 97] (-1) W hb (by decide)
        rw [chk_gone] at this; exact this)
      clear HT
      go_wp2_with fail
      refine HD1.out.mono ?_
      rintro e w4 ⟨rfl, b4⟩
      go_wp2_with fail
      refine (HD2.out _ b4).mono ?_
      rintro e w5 ⟨rfl, L5⟩
      replace b4 := bk.trans (b4.mono bk.size)
      have b5 := b4.trans (left_below L5 hmw b4.size)
      have H5 := L5.1
      clear L5
      go_wp2_with fail
      refine (HD3.out _ H5).mono ?_
      rintro e w6 ⟨rfl, b6⟩
      replace b6 := b5.trans (b6.mono b5.size)
      go_wp2_with fail
      go_ret
      exact ⟨rfl, b6⟩

theorem own : ownKnob Tryd.prog.godebug = none := by kernel_rfl
theorem laidOut : laidOutB Tryd.prog = true := by kernel_rfl

theorem contract (H : Type) (enc : TypeId × Value → H) (W : World) (base : Nat) (args : Array Value) (ds gs : List (DataW H)) (before : List MemPlace)
    (hval : ∀ (j : Nat) t v, Tryd.f5.params[j]? = some t → args[j]? = some v → Value.okWide Tryd.prog W .any base t v)
    (hW : DataW.Whole enc Tryd.prog Tryd.f5.params.toList Rows.treeVersionsSpec.vars false W args.toList ds gs before) (hL : laidMetH Tryd.prog Rows.treeVersionsRow.laid W) :
    Calls Tryd.prog 5 args W fun e W' => ∃ v, e = .returned v ∧ Rows.treeVersionsSpec.post enc Tryd.prog Tryd.f5 false true false false W args v W' := by
  have hW' := hW
  obtain ⟨p, q, hA0, hV, rfl, hfz, hnd⟩ := hW
  have hA : DataW.TrodAll enc Tryd.prog W 0 (fun _ => true) true Tryd.f5.params.toList args.toList ds p := hA0
  rw [Tryd.params5] at hA hval
  obtain ⟨v0, vs0, d0, ds0, p0, q0, hargs, rfl, rfl, h0, r0⟩ := trodAll_cons hA
  obtain ⟨rfl, rfl, rfl⟩ := trodAll_nil r0
  obtain rfl : args = #[v0] := by cases args; simp_all
  obtain ⟨rfl, rfl⟩ := trodVars_none hV
  have k0 := h0
  have lt0 : ∀ x ∈ p0, x.block < W.heap.size := by obtain ⟨m, hm⟩ := k0; exact DataW.trod_lt m _ _ _ hm
  obtain ⟨z0, w0⟩ := ints_of (hval 0 38 v0 rfl rfl) h0
  clear hA0
  refine (walk v0 z0 W w0).mono fun e W' ⟨he, bel⟩ => ?_
  subst he
  exact ⟨_, rfl, _, _, _, [], _, [], hW', trodAll_mk1 (shut_bool Tryd.underlying4 _), (trodAll_cons_mk (Below.trod laidOut (by kernel_rfl) (of_decide_eq_true (by kernel_rfl)) k0 bel lt0) trodAll_mk0), rfl, bel.frame _, fun h => by cases h⟩

theorem laid_met (os : Os) : laidMet Tryd.prog Rows.treeVersionsRow.laid ((World.laidAll Tryd.prog os Rows.treeVersionsRow.laid).forCall (fun _ _ => 0) ⟨#[], #[.slice none 0 0], []⟩).memory :=
  laidMet_laidAll _ (by kernel_rfl) (by kernel_rfl)
theorem reads (os : Os) {H : Type} (enc : TypeId × Value → H) : ∃ places, DataW.whole enc Tryd.prog ((World.laidAll Tryd.prog os Rows.treeVersionsRow.laid).forCall (fun _ _ => 0) ⟨#[], #[.slice none 0 0], []⟩).memory Tryd.f5.params.toList Rows.treeVersionsSpec.vars false #[Value.slice none 0 0].toList 8 = some ([.nil], [], places) :=
  ⟨[], by kernel_rfl⟩

set_option maxRecDepth 100000 in
theorem lifted (os : Os) (started : os.Started) (H : Type) (enc : TypeId × Value → H) (F : Stop.Interp) :
    ReturnsInHanded {} Tryd.checked os 5 .any ((OpenSpec.ofChange Rows.treeVersionsSpec).preRow enc Tryd.prog Tryd.f5 Rows.treeVersionsRow.domain false Rows.treeVersionsRow.laid) (((OpenSpec.ofChange Rows.treeVersionsSpec).at F).post enc Tryd.prog Tryd.f5 false true false false) := by
  obtain ⟨places, hx⟩ := reads os enc
  refine returnsInHanded_of_row (C := Tryd.checked) (s := OpenSpec.ofChange Rows.treeVersionsSpec) own started (by kernel_rfl) Tryd.func5
    (witness_zip (enc := enc) (C := Tryd.checked) false (World.laidAll Tryd.prog os Rows.treeVersionsRow.laid) #[.slice none 0 0] (World.laidAll_os _ _ _) (World.shaped_of_ZipB (by kernel_rfl) (by kernel_rfl)) (by kernel_rfl)
      (OpenSpec.preRow_of_cond 8 hx (by kernel_rfl) (fun k hk => by cases hk) (by kernel_rfl) (laid_met os))) ?_
  intro W base args ds gs before hval hW _ _ _ hL _ _
  exact contract H enc W base args ds gs before hval hW hL

theorem said : Rows.TreeVersionsSaid :=
  OpenClaim.holds_of_cond 5 Tryd.f5 rfl rfl rfl rfl rfl rfl rfl ⟨rfl, rfl, rfl, rfl, rfl⟩ rfl rfl rfl rfl rfl (by kernel_rfl) Tryd.func5 (by kernel_rfl)
    (of_decide_eq_true (by kernel_rfl)) (by unfold Func.isWrapper; first | (rw [if_pos (by decide +kernel)]; kernel_rfl) | (rw [if_neg (by decide +kernel)]; exact ⟨rfl, rfl⟩))
    (fun os started H enc _ F => by rw [OpenClaim.pre_eq_preRow]; exact lifted os started H enc F)

theorem plain (f : FuncId) (fn : Func) (hf : Tryd.pinned.checked.prog.funcNamed "orchard/orchardlaw09.TreeVersions" = some f) (hfn : Tryd.pinned.checked.prog.funcs[f]? = some fn) :
    false = Tryd.pinned.checked.prog.looks [] ∧ ∀ (j : Nat) t, fn.params[j]? = some t → Tryd.pinned.checked.prog.wantsStandIn t = false := by
  obtain rfl : f = 5 := Option.some.inj ((show Tryd.prog.funcNamed "orchard/orchardlaw09.TreeVersions" = some 5 by kernel_rfl).symm.trans hf) |>.symm
  obtain rfl : fn = Tryd.f5 := (Option.some.inj (Tryd.func5.symm.trans hfn)).symm
  refine ⟨by kernel_rfl, fun j t ht => ?_⟩
  rw [Tryd.params5] at ht
  have hm := Array.mem_of_getElem? ht
  simp at hm
  subst hm
  exact (show Tryd.prog.wantsStandIn 38 = false by kernel_rfl)

theorem card : Rows.TreeVersionsCardSaid :=
  Claim7.holds_tied_plain_at .later [] _ _ _ _ said (fun _ h => by cases h) (by kernel_rfl) (fun _ h => by cases h) treeVersions_row_tie rfl ⟨rfl, rfl⟩ (by kernel_rfl) rfl plain (by kernel_rfl)
end Go.Proofs.YtnobblfjhhngiaaDoor.treeVersions
