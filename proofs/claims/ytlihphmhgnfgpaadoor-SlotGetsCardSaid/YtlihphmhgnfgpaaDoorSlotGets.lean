/- SlotGets: whatever bytes (at most 600): the record whose bytes they are, none, or a bad one; a record's bytes with four beside one another turned are bad; no condition on the input (the two tables start as the program's text lays them). -/
import Derived.Test.YtlihphmhgnfgpaaDoorSlotTurn
import Derived.Test.YtlihphmhgnfgpaaDoorCards
import Derived.Test.YtlihphmhgnfgpaaDoorTie
import Derived.ProofKit
import Derived.OpenShut
import Derived.ShutString
import Derived.ChangeOld
import Derived.Deep.DeepHandedRow
import Derived.Lib.LaidTab
import Derived.Stop.LaidErr
namespace Go.Proofs.YtlihphmhgnfgpaaDoor.slotGets
open Go.ChangeShapes Go.WideShapes Go.ChangeAt Go.RowKit
open Go.ChangeMaps (open_string shut_string)
set_option linter.unusedVariables false
set_option maxRecDepth 100000

set_option maxHeartbeats 4000000 in
theorem walk (a0 : ByteArray) (v1 : Value) (r : Rc) (x2 x3 : Int) (w : World) (w0 : a0.size ≤ maxLen) (w1 : v1 = recV r ∧ r.Fits) (w2 : (Lit.int .i64 x2).wf = true) (w3 : (Lit.int .u32 x3).wf = true) (hT : Tabs w) :
    Calls Tryd.prog 4 #[.string a0, v1, .int .i64 x2, .int .u32 x3] w fun e w' => e = .returned (.bool true) ∧ Below w.heap.size w w' := by
  obtain ⟨rfl, fr⟩ := w1
  have n0 := RecB.new w r
  have b0 := (Below.refl _ w).alloc (Nat.le_refl _) (.cells #[.int .i64 r.kind, .int .i64 r.index, .int .i64 r.term, .string r.data] 23)
  have HH := Lib.hid (head4_any _ (hT.below b0))
  have HT := Lib.hid hT
  have mr := fr.data
  unfold maxLen at mr w0
  have hx3 := (Lit.wf_int_iff .u32 x3).1 w3
  rw [show IntKind.u32.min = 0 by decide, show IntKind.u32.max = 4294967295 by decide] at hx3
  clear hT fr w2 w3
  by_cases hs : 600 < a0.size
  · have e1 : decide ((600 : Int) < (a0.size : Int)) = true := by simp; omega
    unfold recV
    go_enter Tryd.func4, Tryd.ntmps4
    go_wp2_with fail
    refine HH.out.mono ?_
    rintro e w1 ⟨rfl, hb1⟩
    obtain ⟨⟨c0, c1, c2, c3⟩, _⟩ := (n0.below hb1).cells
    go_wp2_with fail
    go_ret
    exact ⟨by simp, b0.trans (hb1.mono b0.size)⟩
  · have e1 : decide ((600 : Int) < (a0.size : Int)) = false := by simp; omega
    by_cases hd : 488 < r.data.size
    · have e2 : decide ((488 : Int) < (r.data.size : Int)) = true := by simp; omega
      unfold recV
      go_enter Tryd.func4, Tryd.ntmps4
      go_wp2_with fail
      refine HH.out.mono ?_
      rintro e w1 ⟨rfl, hb1⟩
      obtain ⟨⟨c0, c1, c2, c3⟩, _⟩ := (n0.below hb1).cells
      go_wp2_with fail
      go_ret
      exact ⟨by simp, b0.trans (hb1.mono b0.size)⟩
    · have e2 : decide ((488 : Int) < (r.data.size : Int)) = false := by simp; omega
      have HPR := Lib.hid (fun (W : World) (hW : Tabs W) => put_any r W hW)
      have HX : Hid (r.put.2 ≠ 0 ∨ x3 = 0 ∨ (r.put.2 = 0 ∧ x3 ≠ 0 ∧ r.Ok ∧ r.put.1 = r.bytes ∧ ∃ tn : Nat, x3 = (tn : Int) ∧ tn ≠ 0 ∧ tn < 4294967296)) := by
        show r.put.2 ≠ 0 ∨ x3 = 0 ∨ (r.put.2 = 0 ∧ x3 ≠ 0 ∧ r.Ok ∧ r.put.1 = r.bytes ∧ ∃ tn : Nat, x3 = (tn : Int) ∧ tn ≠ 0 ∧ tn < 4294967296)
        by_cases h1 : r.put.2 = 0
        · by_cases h2 : x3 = 0
          · exact .inr (.inl h2)
          · have ho := put_zero h1
            exact .inr (.inr ⟨h1, h2, ho, by rw [put_ok ho], x3.toNat, by omega, by omega, by omega⟩)
        · exact .inl h1
      generalize r.put.2 = m at *
      generalize r.put.1 = y at *
      rcases get_cases a0 with ⟨hz, hg⟩ | ⟨hz, hg⟩ | ⟨q, hq, hqs, hg⟩
      · have HG := Lib.hid (fun (W : World) (hW : Tabs W) => get_any a0 W hW (by omega))
        rw [hg] at HG
        have HPX := Lib.hid (fun (W : World) (hW : Tabs W) => put_any rc0 W hW)
        obtain rfl : a0 = ⟨#[]⟩ := ByteArray.ext (Array.eq_empty_of_size_eq_zero hz)
        generalize rc0.put.1 = px at *
        generalize rc0.put.2 = pm at *
        unfold getV at HG
        unfold recV rc0 at *
        simp only at HG HPX
        clear hz hg hs e1
        have e1 : decide ((600 : Int) < ((ByteArray.size ⟨#[]⟩ : Nat) : Int)) = false := by decide
        go_enter Tryd.func4, Tryd.ntmps4
        go_wp2_with fail
        refine HH.out.mono ?_
        rintro e w1 ⟨rfl, hb1⟩
        have R1 := n0.below hb1
        have B1 := b0.trans (hb1.mono b0.size)
        obtain ⟨⟨c0, c1, c2, c3⟩, _⟩ := R1.cells
        clear n0 b0 hb1
        go_wp2_with fail
        refine (HG.out _ (HT.out.below B1)).mono ?_
        rintro e w2 ⟨rfl, hb2⟩
        have R2 := R1.below hb2
        have B2 := B1.trans (hb2.mono B1.size)
        have b3 := (Below.refl w2.heap.size w2).alloc (Nat.le_refl _) (.cells #[.int .i64 0, .int .i64 0, .int .i64 0, .string ⟨#[]⟩] 23)
        have R3 := R2.below b3
        have N3 := RecB.new w2 ⟨0, 0, 0, ⟨#[]⟩⟩
        have B3 := B2.trans (b3.mono B2.size)
        obtain ⟨⟨c0, c1, c2, c3⟩, _⟩ := R3.cells
        obtain ⟨⟨n0, n1, n2, n3⟩, _⟩ := N3.cells
        clear b3 R1 R2 hb2
        go_wp2_with fail
        refine (HPX.out _ (HT.out.below B3)).mono ?_
        rintro e w4 ⟨rfl, hb4⟩
        have R4 := R3.below hb4
        have N4 := N3.below hb4
        have B4 := B3.trans (hb4.mono B3.size)
        obtain ⟨⟨c0, c1, c2, c3⟩, _⟩ := R4.cells
        obtain ⟨⟨n0, n1, n2, n3⟩, _⟩ := N4.cells
        clear R3 N3 hb4
        go_wp2_with fail
        refine (HPR.out _ (HT.out.below B4)).mono ?_
        rintro e w5 ⟨rfl, hb5⟩
        have B5 := B4.trans (hb5.mono B4.size)
        clear hb5
        rcases HX.out with hm | hz | ⟨hm, hz, ho, rfl, tn, htn, ht0, ht1⟩
        · have em : (m == 0) = false := by simpa using hm
          go_wp2_with fail
          go_ret
          exact ⟨by simp, B5⟩
        · by_cases hm : m = 0
          · subst hm hz
            go_wp2_with fail
            go_ret
            exact ⟨by simp, B5⟩
          · have em : (m == 0) = false := by simpa using hm
            subst hz
            go_wp2_with fail
            go_ret
            exact ⟨by simp, B5⟩
        · subst hm htn
          have hs24 := bytes_size ho
          obtain ⟨T, hT0⟩ : ∃ T, T = r.bytes := ⟨_, rfl⟩
          have HTUR := Lib.hid (fun (j : Nat) (hj : 4 * j + 4 ≤ T.size) => show getF ⟨(turnL T.data.toList (4 * j) tn 4).toArray⟩ = (rc0, 2) by rw [hT0] at hj ⊢; exact get_turned ho j tn hj ht0 ht1)
          rw [← hT0] at hs24 ⊢
          have hTl : 24 ≤ T.size := by omega
          have hTu : T.size ≤ 512 := by omega
          clear hT0 hs24 ho
          have hLl : T.data.toList.length = T.size := (Lib.size_eq T).symm
          have HLL := Lib.hid hLl
          have ez : ((tn : Int) == 0) = false := by rw [beq_eq_false_iff_ne]; omega
          have hand := i64_and65535
          have hm0 : 0 ≤ x2 % 65536 := Int.emod_nonneg _ (by omega)
          have hm1 : x2 % 65536 < 65536 := Int.emod_lt_of_pos _ (by omega)
          have hq0 : 0 < (T.size : Int) / 4 := by omega
          obtain ⟨j, hj⟩ := Int.eq_ofNat_of_zero_le (Int.emod_nonneg (x2 % 65536) (show (T.size : Int) / 4 ≠ 0 by omega))
          have hj2 := Int.emod_lt_of_pos (x2 % 65536) hq0
          rw [hj] at hj2
          have hj4 : 4 * j + 4 ≤ T.size := by omega
          have HTURN := Lib.hid (HTUR.out j hj4)
          clear HTUR hLl hz hj2
          obtain ⟨p, hp⟩ : ∃ p, p = 4 * j := ⟨_, rfl⟩
          rw [← hp] at hj4 HTURN
          have hp4 : (4 : Int) * (j : Int) = (p : Int) := by omega
          have HPT := Lib.hid hj4
          clear hp
          obtain ⟨cap, hcap⟩ : ∃ cap, cap = grownCap w5 T.size 0 5 := ⟨_, rfl⟩
          have hcap2 : T.size ≤ cap := by rw [hcap]; exact grownCap_ge w5 T.size 0 5
          have hcb := run_bytes_of_string (P := Tryd.prog) w5 9 29 5 T und_string und_bytes und_u8
          rw [← hcap] at hcb
          obtain ⟨Z, hZ⟩ : ∃ Z : List Value, Z = List.replicate (cap - T.size) (.int .u8 0) := ⟨_, rfl⟩
          have hrow : bytesRow T cap = (cellsOf T.data.toList ++ Z).toArray := by
            unfold bytesRow cellsOf
            rw [hZ]
            apply Array.toList_inj.1
            simp
          have hsize : (bytesRow T cap).size = cap := by unfold bytesRow; simp; omega
          rw [hsize, hrow] at hcb
          have hr0 : RowIs (w5.drew.alloc (.cells (cellsOf T.data.toList ++ Z).toArray 5 (cap, cap + 1))) w5.heap.size cap T.data.toList Z := heap_alloc_new w5.drew _
          have hb6 := B5.drew.alloc B5.size (.cells (cellsOf T.data.toList ++ Z).toArray 5 (cap, cap + 1))
          have hg := B5.size
          clear hrow hsize hZ hcap B5 B4 R4 N4 HX HPR HPX HG
          generalize hW6 : w5.drew.alloc (.cells (cellsOf T.data.toList ++ Z).toArray 5 (cap, cap + 1)) = w6 at *
          have HW6 := Lib.hid hW6
          clear hW6
          generalize w5.heap.size = g at *
          go_wp2_with fail
          go_loopw [16] (fun i wr => ∃ k : Nat, k ≤ 4 ∧ i = .int .i64 k ∧ RowIs wr g cap (turnL T.data.toList p tn k) Z ∧ Below w.heap.size w wr) (fun i _ => 4 - (intOf i).toNat)
          case atStart => exact ⟨0, by omega, rfl, hr0, hb6⟩
          case round =>
            obtain ⟨k, hk, rfl, hrow, hbw⟩ := hrel
            clear hr0 hb6
            by_cases hlt : k < 4
            · have hlen : p + k < (turnL T.data.toList p tn k).length := by rw [turnL_length, HLL.out]; have := HPT.out; omega
              have hkT : p + k < T.size := by have := HPT.out; omega
              have hcell := hrow.cell (p + k) hlen
              have hfree := hrow.free (p + k) (by omega)
              have hset := hrow.set (p + k) hlen (UInt8.ofNat (((turnL T.data.toList p tn k).getD (p + k) 0).toNat ^^^ (tn / 2 ^ (8 * k) % 256)))
              have hx := flip8_nat ((turnL T.data.toList p tn k).getD (p + k) 0) (tn / 2 ^ (8 * k) % 256) (by omega)
              unfold flip8 at hx
              rw [hx] at hset
              have hx8 := u8_xor_nat ((turnL T.data.toList p tn k).getD (p + k) 0).toNat (tn / 2 ^ (8 * k) % 256) (UInt8.toNat_lt _) (by omega)
              have hcst : ((tn / 2 ^ (8 * k) % 256 : Nat) : Int) = (tn : Int) / 2 ^ (8 * k) % 256 := by simp
              rw [hcst] at hx8
              clear hcst
              have HSET : Hid (RowIs (wr.setCell ⟨g, p + k, none⟩ (.int .u8 ((((turnL T.data.toList p tn k).getD (p + k) 0).toNat ^^^ (tn / 2 ^ (8 * k) % 256) : Nat) : Int))) g cap (turnL T.data.toList p tn (k + 1)) Z) := hset
              clear hx hset hrow
              have HX8 := Lib.hid hx8
              clear hx8
              generalize (turnL T.data.toList p tn k).getD (p + k) 0 = c at *
              have hbs := hbw.setCell (p := ⟨g, p + k, none⟩) hg (.int .u8 (((c.toNat ^^^ (tn / 2 ^ (8 * k) % 256) : Nat)) : Int))
              go_wp2_with fail
              rw [HX8.out]
              go_roundw
              case rel => exact ⟨k + 1, by omega, by go_num, HSET.out, hbs⟩
              case measure => simp [intOf]; omega
            · have hk4 : k = 4 := by omega
              subst hk4
              have hlf : (turnL T.data.toList p tn 4).length = T.size := by rw [turnL_length, HLL.out]
              have hstr := run_str (hrow.src cap)
              rw [hlf] at hstr
              obtain ⟨Q, hQ⟩ : ∃ Q, Q = ByteArray.mk (turnL T.data.toList p tn 4).toArray := ⟨_, rfl⟩
              have hQs : Q.size = T.size := by rw [hQ, size_mk, hlf]
              have HOQ := Lib.hid (get_any Q wr (HT.out.below hbw) (by omega))
              rw [hQ, HTURN.out, ← hQ] at HOQ
              unfold getV recV rc0 at HOQ
              simp only at HOQ
              rw [← hQ] at hstr
              clear hQ hlf hrow hQs
              go_wp2_with fail
              refine HOQ.out.mono ?_
              rintro e w9 ⟨rfl, hb9⟩
              have N9 := RecB.new w9 ⟨0, 0, 0, ⟨#[]⟩⟩
              obtain ⟨⟨n0, n1, n2, n3⟩, _⟩ := N9.cells
              simp only at n0 n1 n2 n3
              have B9 := hbw.trans (hb9.mono hbw.size)
              have B10 := B9.alloc B9.size (.cells #[.int .i64 0, .int .i64 0, .int .i64 0, .string ⟨#[]⟩] 23)
              go_wp2_with fail
              go_ret
              exact ⟨by simp, B10⟩
      · have HG := Lib.hid (fun (W : World) (hW : Tabs W) => get_any a0 W hW (by omega))
        rw [hg] at HG
        have HPX := Lib.hid (fun (W : World) (hW : Tabs W) => put_any rc0 W hW)
        have he := empty_false hz
        generalize rc0.put.1 = px at *
        generalize rc0.put.2 = pm at *
        unfold getV at HG
        unfold recV rc0 at *
        simp only at HG HPX
        clear hz hg hs
        go_enter Tryd.func4, Tryd.ntmps4
        go_wp2_with fail
        refine HH.out.mono ?_
        rintro e w1 ⟨rfl, hb1⟩
        have R1 := n0.below hb1
        have B1 := b0.trans (hb1.mono b0.size)
        obtain ⟨⟨c0, c1, c2, c3⟩, _⟩ := R1.cells
        clear n0 b0 hb1
        go_wp2_with fail
        refine (HG.out _ (HT.out.below B1)).mono ?_
        rintro e w2 ⟨rfl, hb2⟩
        have R2 := R1.below hb2
        have B2 := B1.trans (hb2.mono B1.size)
        have b3 := (Below.refl w2.heap.size w2).alloc (Nat.le_refl _) (.cells #[.int .i64 0, .int .i64 0, .int .i64 0, .string ⟨#[]⟩] 23)
        have R3 := R2.below b3
        have N3 := RecB.new w2 ⟨0, 0, 0, ⟨#[]⟩⟩
        have B3 := B2.trans (b3.mono B2.size)
        obtain ⟨⟨c0, c1, c2, c3⟩, _⟩ := R3.cells
        obtain ⟨⟨n0, n1, n2, n3⟩, _⟩ := N3.cells
        clear b3 R1 R2 hb2
        go_wp2_with fail
        refine (HPX.out _ (HT.out.below B3)).mono ?_
        rintro e w4 ⟨rfl, hb4⟩
        have R4 := R3.below hb4
        have N4 := N3.below hb4
        have B4 := B3.trans (hb4.mono B3.size)
        obtain ⟨⟨c0, c1, c2, c3⟩, _⟩ := R4.cells
        obtain ⟨⟨n0, n1, n2, n3⟩, _⟩ := N4.cells
        clear R3 N3 hb4
        go_wp2_with fail
        refine (HPR.out _ (HT.out.below B4)).mono ?_
        rintro e w5 ⟨rfl, hb5⟩
        have B5 := B4.trans (hb5.mono B4.size)
        clear hb5
        rcases HX.out with hm | hz | ⟨hm, hz, ho, rfl, tn, htn, ht0, ht1⟩
        · have em : (m == 0) = false := by simpa using hm
          go_wp2_with fail
          go_ret
          exact ⟨by simp, B5⟩
        · by_cases hm : m = 0
          · subst hm hz
            go_wp2_with fail
            go_ret
            exact ⟨by simp, B5⟩
          · have em : (m == 0) = false := by simpa using hm
            subst hz
            go_wp2_with fail
            go_ret
            exact ⟨by simp, B5⟩
        · subst hm htn
          have hs24 := bytes_size ho
          obtain ⟨T, hT0⟩ : ∃ T, T = r.bytes := ⟨_, rfl⟩
          have HTUR := Lib.hid (fun (j : Nat) (hj : 4 * j + 4 ≤ T.size) => show getF ⟨(turnL T.data.toList (4 * j) tn 4).toArray⟩ = (rc0, 2) by rw [hT0] at hj ⊢; exact get_turned ho j tn hj ht0 ht1)
          rw [← hT0] at hs24 ⊢
          have hTl : 24 ≤ T.size := by omega
          have hTu : T.size ≤ 512 := by omega
          clear hT0 hs24 ho
          have hLl : T.data.toList.length = T.size := (Lib.size_eq T).symm
          have HLL := Lib.hid hLl
          have ez : ((tn : Int) == 0) = false := by rw [beq_eq_false_iff_ne]; omega
          have hand := i64_and65535
          have hm0 : 0 ≤ x2 % 65536 := Int.emod_nonneg _ (by omega)
          have hm1 : x2 % 65536 < 65536 := Int.emod_lt_of_pos _ (by omega)
          have hq0 : 0 < (T.size : Int) / 4 := by omega
          obtain ⟨j, hj⟩ := Int.eq_ofNat_of_zero_le (Int.emod_nonneg (x2 % 65536) (show (T.size : Int) / 4 ≠ 0 by omega))
          have hj2 := Int.emod_lt_of_pos (x2 % 65536) hq0
          rw [hj] at hj2
          have hj4 : 4 * j + 4 ≤ T.size := by omega
          have HTURN := Lib.hid (HTUR.out j hj4)
          clear HTUR hLl hz hj2
          obtain ⟨p, hp⟩ : ∃ p, p = 4 * j := ⟨_, rfl⟩
          rw [← hp] at hj4 HTURN
          have hp4 : (4 : Int) * (j : Int) = (p : Int) := by omega
          have HPT := Lib.hid hj4
          clear hp
          obtain ⟨cap, hcap⟩ : ∃ cap, cap = grownCap w5 T.size 0 5 := ⟨_, rfl⟩
          have hcap2 : T.size ≤ cap := by rw [hcap]; exact grownCap_ge w5 T.size 0 5
          have hcb := run_bytes_of_string (P := Tryd.prog) w5 9 29 5 T und_string und_bytes und_u8
          rw [← hcap] at hcb
          obtain ⟨Z, hZ⟩ : ∃ Z : List Value, Z = List.replicate (cap - T.size) (.int .u8 0) := ⟨_, rfl⟩
          have hrow : bytesRow T cap = (cellsOf T.data.toList ++ Z).toArray := by
            unfold bytesRow cellsOf
            rw [hZ]
            apply Array.toList_inj.1
            simp
          have hsize : (bytesRow T cap).size = cap := by unfold bytesRow; simp; omega
          rw [hsize, hrow] at hcb
          have hr0 : RowIs (w5.drew.alloc (.cells (cellsOf T.data.toList ++ Z).toArray 5 (cap, cap + 1))) w5.heap.size cap T.data.toList Z := heap_alloc_new w5.drew _
          have hb6 := B5.drew.alloc B5.size (.cells (cellsOf T.data.toList ++ Z).toArray 5 (cap, cap + 1))
          have hg := B5.size
          clear hrow hsize hZ hcap B5 B4 R4 N4 HX HPR HPX HG
          generalize hW6 : w5.drew.alloc (.cells (cellsOf T.data.toList ++ Z).toArray 5 (cap, cap + 1)) = w6 at *
          have HW6 := Lib.hid hW6
          clear hW6
          generalize w5.heap.size = g at *
          go_wp2_with fail
          go_loopw [16] (fun i wr => ∃ k : Nat, k ≤ 4 ∧ i = .int .i64 k ∧ RowIs wr g cap (turnL T.data.toList p tn k) Z ∧ Below w.heap.size w wr) (fun i _ => 4 - (intOf i).toNat)
          case atStart => exact ⟨0, by omega, rfl, hr0, hb6⟩
          case round =>
            obtain ⟨k, hk, rfl, hrow, hbw⟩ := hrel
            clear hr0 hb6
            by_cases hlt : k < 4
            · have hlen : p + k < (turnL T.data.toList p tn k).length := by rw [turnL_length, HLL.out]; have := HPT.out; omega
              have hkT : p + k < T.size := by have := HPT.out; omega
              have hcell := hrow.cell (p + k) hlen
              have hfree := hrow.free (p + k) (by omega)
              have hset := hrow.set (p + k) hlen (UInt8.ofNat (((turnL T.data.toList p tn k).getD (p + k) 0).toNat ^^^ (tn / 2 ^ (8 * k) % 256)))
              have hx := flip8_nat ((turnL T.data.toList p tn k).getD (p + k) 0) (tn / 2 ^ (8 * k) % 256) (by omega)
              unfold flip8 at hx
              rw [hx] at hset
              have hx8 := u8_xor_nat ((turnL T.data.toList p tn k).getD (p + k) 0).toNat (tn / 2 ^ (8 * k) % 256) (UInt8.toNat_lt _) (by omega)
              have hcst : ((tn / 2 ^ (8 * k) % 256 : Nat) : Int) = (tn : Int) / 2 ^ (8 * k) % 256 := by simp
              rw [hcst] at hx8
              clear hcst
              have HSET : Hid (RowIs (wr.setCell ⟨g, p + k, none⟩ (.int .u8 ((((turnL T.data.toList p tn k).getD (p + k) 0).toNat ^^^ (tn / 2 ^ (8 * k) % 256) : Nat) : Int))) g cap (turnL T.data.toList p tn (k + 1)) Z) := hset
              clear hx hset hrow
              have HX8 := Lib.hid hx8
              clear hx8
              generalize (turnL T.data.toList p tn k).getD (p + k) 0 = c at *
              have hbs := hbw.setCell (p := ⟨g, p + k, none⟩) hg (.int .u8 (((c.toNat ^^^ (tn / 2 ^ (8 * k) % 256) : Nat)) : Int))
              go_wp2_with fail
              rw [HX8.out]
              go_roundw
              case rel => exact ⟨k + 1, by omega, by go_num, HSET.out, hbs⟩
              case measure => simp [intOf]; omega
            · have hk4 : k = 4 := by omega
              subst hk4
              have hlf : (turnL T.data.toList p tn 4).length = T.size := by rw [turnL_length, HLL.out]
              have hstr := run_str (hrow.src cap)
              rw [hlf] at hstr
              obtain ⟨Q, hQ⟩ : ∃ Q, Q = ByteArray.mk (turnL T.data.toList p tn 4).toArray := ⟨_, rfl⟩
              have hQs : Q.size = T.size := by rw [hQ, size_mk, hlf]
              have HOQ := Lib.hid (get_any Q wr (HT.out.below hbw) (by omega))
              rw [hQ, HTURN.out, ← hQ] at HOQ
              unfold getV recV rc0 at HOQ
              simp only at HOQ
              rw [← hQ] at hstr
              clear hQ hlf hrow hQs
              go_wp2_with fail
              refine HOQ.out.mono ?_
              rintro e w9 ⟨rfl, hb9⟩
              have N9 := RecB.new w9 ⟨0, 0, 0, ⟨#[]⟩⟩
              obtain ⟨⟨n0, n1, n2, n3⟩, _⟩ := N9.cells
              simp only at n0 n1 n2 n3
              have B9 := hbw.trans (hb9.mono hbw.size)
              have B10 := B9.alloc B9.size (.cells #[.int .i64 0, .int .i64 0, .int .i64 0, .string ⟨#[]⟩] 23)
              go_wp2_with fail
              go_ret
              exact ⟨by simp, B10⟩
      · have HG := Lib.hid (fun (W : World) (hW : Tabs W) => get_any a0 W hW (by omega))
        rw [hg] at HG
        have HPX := Lib.hid (fun (W : World) (hW : Tabs W) => put_any q W hW)
        rw [put_ok hq, ← hqs] at HPX
        have he := empty_false (show ¬ a0.size = 0 by rw [hqs, bytes_size hq]; omega)
        have hee := str_eq a0 a0 true (by simp)
        unfold getV at HG
        unfold recV at *
        simp only at HG HPX
        clear hg hs hqs hq
        go_enter Tryd.func4, Tryd.ntmps4
        go_wp2_with fail
        refine HH.out.mono ?_
        rintro e w1 ⟨rfl, hb1⟩
        have R1 := n0.below hb1
        have B1 := b0.trans (hb1.mono b0.size)
        obtain ⟨⟨c0, c1, c2, c3⟩, _⟩ := R1.cells
        clear n0 b0 hb1
        go_wp2_with fail
        refine (HG.out _ (HT.out.below B1)).mono ?_
        rintro e w2 ⟨rfl, hb2⟩
        have R2 := R1.below hb2
        have B2 := B1.trans (hb2.mono B1.size)
        have b3 := (Below.refl w2.heap.size w2).alloc (Nat.le_refl _) (.cells #[.int .i64 q.kind, .int .i64 q.index, .int .i64 q.term, .string q.data] 23)
        have R3 := R2.below b3
        have N3 := RecB.new w2 q
        have B3 := B2.trans (b3.mono B2.size)
        obtain ⟨⟨c0, c1, c2, c3⟩, _⟩ := R3.cells
        obtain ⟨⟨n0, n1, n2, n3⟩, _⟩ := N3.cells
        clear b3 R1 R2 hb2
        go_wp2_with fail
        refine (HPX.out _ (HT.out.below B3)).mono ?_
        rintro e w4 ⟨rfl, hb4⟩
        have R4 := R3.below hb4
        have N4 := N3.below hb4
        have B4 := B3.trans (hb4.mono B3.size)
        obtain ⟨⟨c0, c1, c2, c3⟩, _⟩ := R4.cells
        obtain ⟨⟨n0, n1, n2, n3⟩, _⟩ := N4.cells
        clear R3 N3 hb4
        go_wp2_with fail
        refine (HPR.out _ (HT.out.below B4)).mono ?_
        rintro e w5 ⟨rfl, hb5⟩
        have B5 := B4.trans (hb5.mono B4.size)
        clear hb5
        rcases HX.out with hm | hz | ⟨hm, hz, ho, rfl, tn, htn, ht0, ht1⟩
        · have em : (m == 0) = false := by simpa using hm
          go_wp2_with fail
          go_ret
          exact ⟨by simp, B5⟩
        · by_cases hm : m = 0
          · subst hm hz
            go_wp2_with fail
            go_ret
            exact ⟨by simp, B5⟩
          · have em : (m == 0) = false := by simpa using hm
            subst hz
            go_wp2_with fail
            go_ret
            exact ⟨by simp, B5⟩
        · subst hm htn
          have hs24 := bytes_size ho
          obtain ⟨T, hT0⟩ : ∃ T, T = r.bytes := ⟨_, rfl⟩
          have HTUR := Lib.hid (fun (j : Nat) (hj : 4 * j + 4 ≤ T.size) => show getF ⟨(turnL T.data.toList (4 * j) tn 4).toArray⟩ = (rc0, 2) by rw [hT0] at hj ⊢; exact get_turned ho j tn hj ht0 ht1)
          rw [← hT0] at hs24 ⊢
          have hTl : 24 ≤ T.size := by omega
          have hTu : T.size ≤ 512 := by omega
          clear hT0 hs24 ho
          have hLl : T.data.toList.length = T.size := (Lib.size_eq T).symm
          have HLL := Lib.hid hLl
          have ez : ((tn : Int) == 0) = false := by rw [beq_eq_false_iff_ne]; omega
          have hand := i64_and65535
          have hm0 : 0 ≤ x2 % 65536 := Int.emod_nonneg _ (by omega)
          have hm1 : x2 % 65536 < 65536 := Int.emod_lt_of_pos _ (by omega)
          have hq0 : 0 < (T.size : Int) / 4 := by omega
          obtain ⟨j, hj⟩ := Int.eq_ofNat_of_zero_le (Int.emod_nonneg (x2 % 65536) (show (T.size : Int) / 4 ≠ 0 by omega))
          have hj2 := Int.emod_lt_of_pos (x2 % 65536) hq0
          rw [hj] at hj2
          have hj4 : 4 * j + 4 ≤ T.size := by omega
          have HTURN := Lib.hid (HTUR.out j hj4)
          clear HTUR hLl hz hj2
          obtain ⟨p, hp⟩ : ∃ p, p = 4 * j := ⟨_, rfl⟩
          rw [← hp] at hj4 HTURN
          have hp4 : (4 : Int) * (j : Int) = (p : Int) := by omega
          have HPT := Lib.hid hj4
          clear hp
          obtain ⟨cap, hcap⟩ : ∃ cap, cap = grownCap w5 T.size 0 5 := ⟨_, rfl⟩
          have hcap2 : T.size ≤ cap := by rw [hcap]; exact grownCap_ge w5 T.size 0 5
          have hcb := run_bytes_of_string (P := Tryd.prog) w5 9 29 5 T und_string und_bytes und_u8
          rw [← hcap] at hcb
          obtain ⟨Z, hZ⟩ : ∃ Z : List Value, Z = List.replicate (cap - T.size) (.int .u8 0) := ⟨_, rfl⟩
          have hrow : bytesRow T cap = (cellsOf T.data.toList ++ Z).toArray := by
            unfold bytesRow cellsOf
            rw [hZ]
            apply Array.toList_inj.1
            simp
          have hsize : (bytesRow T cap).size = cap := by unfold bytesRow; simp; omega
          rw [hsize, hrow] at hcb
          have hr0 : RowIs (w5.drew.alloc (.cells (cellsOf T.data.toList ++ Z).toArray 5 (cap, cap + 1))) w5.heap.size cap T.data.toList Z := heap_alloc_new w5.drew _
          have hb6 := B5.drew.alloc B5.size (.cells (cellsOf T.data.toList ++ Z).toArray 5 (cap, cap + 1))
          have hg := B5.size
          clear hrow hsize hZ hcap B5 B4 R4 N4 HX HPR HPX HG
          generalize hW6 : w5.drew.alloc (.cells (cellsOf T.data.toList ++ Z).toArray 5 (cap, cap + 1)) = w6 at *
          have HW6 := Lib.hid hW6
          clear hW6
          generalize w5.heap.size = g at *
          go_wp2_with fail
          go_loopw [16] (fun i wr => ∃ k : Nat, k ≤ 4 ∧ i = .int .i64 k ∧ RowIs wr g cap (turnL T.data.toList p tn k) Z ∧ Below w.heap.size w wr) (fun i _ => 4 - (intOf i).toNat)
          case atStart => exact ⟨0, by omega, rfl, hr0, hb6⟩
          case round =>
            obtain ⟨k, hk, rfl, hrow, hbw⟩ := hrel
            clear hr0 hb6
            by_cases hlt : k < 4
            · have hlen : p + k < (turnL T.data.toList p tn k).length := by rw [turnL_length, HLL.out]; have := HPT.out; omega
              have hkT : p + k < T.size := by have := HPT.out; omega
              have hcell := hrow.cell (p + k) hlen
              have hfree := hrow.free (p + k) (by omega)
              have hset := hrow.set (p + k) hlen (UInt8.ofNat (((turnL T.data.toList p tn k).getD (p + k) 0).toNat ^^^ (tn / 2 ^ (8 * k) % 256)))
              have hx := flip8_nat ((turnL T.data.toList p tn k).getD (p + k) 0) (tn / 2 ^ (8 * k) % 256) (by omega)
              unfold flip8 at hx
              rw [hx] at hset
              have hx8 := u8_xor_nat ((turnL T.data.toList p tn k).getD (p + k) 0).toNat (tn / 2 ^ (8 * k) % 256) (UInt8.toNat_lt _) (by omega)
              have hcst : ((tn / 2 ^ (8 * k) % 256 : Nat) : Int) = (tn : Int) / 2 ^ (8 * k) % 256 := by simp
              rw [hcst] at hx8
              clear hcst
              have HSET : Hid (RowIs (wr.setCell ⟨g, p + k, none⟩ (.int .u8 ((((turnL T.data.toList p tn k).getD (p + k) 0).toNat ^^^ (tn / 2 ^ (8 * k) % 256) : Nat) : Int))) g cap (turnL T.data.toList p tn (k + 1)) Z) := hset
              clear hx hset hrow
              have HX8 := Lib.hid hx8
              clear hx8
              generalize (turnL T.data.toList p tn k).getD (p + k) 0 = c at *
              have hbs := hbw.setCell (p := ⟨g, p + k, none⟩) hg (.int .u8 (((c.toNat ^^^ (tn / 2 ^ (8 * k) % 256) : Nat)) : Int))
              go_wp2_with fail
              rw [HX8.out]
              go_roundw
              case rel => exact ⟨k + 1, by omega, by go_num, HSET.out, hbs⟩
              case measure => simp [intOf]; omega
            · have hk4 : k = 4 := by omega
              subst hk4
              have hlf : (turnL T.data.toList p tn 4).length = T.size := by rw [turnL_length, HLL.out]
              have hstr := run_str (hrow.src cap)
              rw [hlf] at hstr
              obtain ⟨Q, hQ⟩ : ∃ Q, Q = ByteArray.mk (turnL T.data.toList p tn 4).toArray := ⟨_, rfl⟩
              have hQs : Q.size = T.size := by rw [hQ, size_mk, hlf]
              have HOQ := Lib.hid (get_any Q wr (HT.out.below hbw) (by omega))
              rw [hQ, HTURN.out, ← hQ] at HOQ
              unfold getV recV rc0 at HOQ
              simp only at HOQ
              rw [← hQ] at hstr
              clear hQ hlf hrow hQs
              go_wp2_with fail
              refine HOQ.out.mono ?_
              rintro e w9 ⟨rfl, hb9⟩
              have N9 := RecB.new w9 ⟨0, 0, 0, ⟨#[]⟩⟩
              obtain ⟨⟨n0, n1, n2, n3⟩, _⟩ := N9.cells
              simp only at n0 n1 n2 n3
              have B9 := hbw.trans (hb9.mono hbw.size)
              have B10 := B9.alloc B9.size (.cells #[.int .i64 0, .int .i64 0, .int .i64 0, .string ⟨#[]⟩] 23)
              go_wp2_with fail
              go_ret
              exact ⟨by simp, B10⟩

theorem own : ownKnob Tryd.prog.godebug = none := by kernel_rfl
theorem laidOut : laidOutB Tryd.prog = true := by kernel_rfl
theorem gHi : Tryd.prog.globalNamed "orchard/sum.highTable" = some 0 := by kernel_rfl
theorem gLo : Tryd.prog.globalNamed "orchard/sum.lowTable" = some 1 := by kernel_rfl
theorem gHiType : (Tryd.prog.globals[0]?).map (·.type) = some 108 := by kernel_rfl
theorem gLoType : (Tryd.prog.globals[1]?).map (·.type) = some 108 := by kernel_rfl
theorem cellsTab : Tryd.prog.cellsOf 108 = 16 := by kernel_rfl
theorem cellsSum : Tryd.prog.cellsOf 66 = 1 := by kernel_rfl

theorem table_lo {W : World} (h : laidMetH Tryd.prog Rows.slotGetsRow.laid W) : Lib.TabIs Tryd.prog W "orchard/sum.lowTable" .u32 LO :=
  Lib.tabIs_of_head (rest := [("orchard/sum.highTable", Rows.laid_orchard_sum_highTable)]) gLo gLoType Tryd.underlying108 Tryd.underlying66 cellsSum cellsTab h
theorem table_hi {W : World} (h : laidMetH Tryd.prog Rows.slotGetsRow.laid W) : Lib.TabIs Tryd.prog W "orchard/sum.highTable" .u32 HI :=
  Lib.tabIs_of_head (rest := []) gHi gHiType Tryd.underlying108 Tryd.underlying66 cellsSum cellsTab (laidMet.tail (show laidMet Tryd.prog [("orchard/sum.lowTable", Rows.laid_orchard_sum_lowTable), ("orchard/sum.highTable", Rows.laid_orchard_sum_highTable)] W from h))
theorem tabs_of {W : World} (h : laidMetH Tryd.prog Rows.slotGetsRow.laid W) : Tabs W := by
  have c0 := fun (j : Nat) (hj : j < 16) => (table_hi h).cell gHi j hj
  have c1 := fun (j : Nat) (hj : j < 16) => (table_lo h).cell gLo j hj
  refine ⟨⟨World.block_lt_of_cell? W _ (c0 0 (by decide)), World.block_lt_of_cell? W _ (c1 0 (by decide))⟩, fun j hj => ?_, fun j hj => ?_⟩
  · rw [c0 j hj, hi_cast j]
  · rw [c1 j hj, lo_cast j]

theorem contract (H : Type) (enc : TypeId × Value → H) (W : World) (base : Nat) (args : Array Value) (ds gs : List (DataW H)) (before : List MemPlace)
    (hval : ∀ (j : Nat) t v, Tryd.f4.params[j]? = some t → args[j]? = some v → Value.okWide Tryd.prog W .any base t v)
    (hW : DataW.Whole enc Tryd.prog Tryd.f4.params.toList Rows.slotGetsSpec.vars false W args.toList ds gs before) (hL : laidMetH Tryd.prog Rows.slotGetsRow.laid W) :
    Calls Tryd.prog 4 args W fun e W' => ∃ v, e = .returned v ∧ Rows.slotGetsSpec.post enc Tryd.prog Tryd.f4 false true false false W args v W' := by
  have hT := tabs_of hL
  have hW' := hW
  obtain ⟨p, q, hA0, hV, rfl, hfz, hnd⟩ := hW
  have hA : DataW.TrodAll enc Tryd.prog W 0 (fun _ => true) true Tryd.f4.params.toList args.toList ds p := hA0
  rw [Tryd.params4] at hA hval
  obtain ⟨v0, vs0, d0, ds0, p0, q0, hargs, rfl, rfl, h0, r0⟩ := trodAll_cons hA
  obtain ⟨v1, vs1, d1, ds1, p1, q1, rfl, rfl, rfl, h1, r1⟩ := trodAll_cons r0
  obtain ⟨v2, vs2, d2, ds2, p2, q2, rfl, rfl, rfl, h2, r2⟩ := trodAll_cons r1
  obtain ⟨v3, vs3, d3, ds3, p3, q3, rfl, rfl, rfl, h3, r3⟩ := trodAll_cons r2
  obtain ⟨rfl, rfl, rfl⟩ := trodAll_nil r3
  obtain rfl : args = #[v0, v1, v2, v3] := by cases args; simp_all
  obtain ⟨rfl, rfl⟩ := trodVars_none hV
  obtain ⟨a0, rfl, rfl, rfl, w0⟩ := open_string Tryd.underlying9 (hval 0 9 v0 rfl rfl) h0
  have k1 := h1
  have lt1 : ∀ x ∈ p1, x.block < W.heap.size := by obtain ⟨m, hm⟩ := k1; exact DataW.trod_lt m _ _ _ hm
  obtain ⟨z1, w1⟩ := rec_of (hval 1 23 v1 rfl rfl) h1
  obtain ⟨a2, rfl, rfl, rfl, w2⟩ := open_int Tryd.underlying3 (hval 2 3 v2 rfl rfl) h2
  obtain ⟨a3, rfl, rfl, rfl, w3⟩ := open_int Tryd.underlying36 (hval 3 36 v3 rfl rfl) h3
  clear hA0
  refine (walk a0 v1 z1 a2 a3 W w0 w1 w2 w3 hT).mono fun e W' ⟨he, bel⟩ => ?_
  subst he
  exact ⟨_, rfl, _, _, _, [], _, [], hW', trodAll_mk1 (shut_bool Tryd.underlying4 _), (trodAll_cons_mk (shut_string Tryd.underlying9 w0) (trodAll_cons_mk (Below.trod laidOut (by kernel_rfl) (of_decide_eq_true (by kernel_rfl)) k1 bel lt1) (trodAll_cons_mk (shut_int Tryd.underlying3 w2) (trodAll_cons_mk (shut_int Tryd.underlying36 w3) trodAll_mk0)))), rfl, bel.frame _, fun h => by cases h⟩

def setTab (l : List Int) : Obj → Obj
  | .cells _ t frozen => .cells (l.map (Value.int .u32)).toArray t frozen
  | o => o
noncomputable def laidWorld (os : Os) : World :=
  { World.holding Tryd.prog os ⟨#[], #[], []⟩ with heap := ((World.holding Tryd.prog os ⟨#[], #[], []⟩).heap.modify 1 (setTab LO)).modify 0 (setTab HI) }
theorem laid_met (os : Os) : laidMet Tryd.prog Rows.slotGetsRow.laid ((laidWorld os).forCall (fun _ _ => 0) ⟨#[], #[.string ByteArray.empty, .agg #[.int .i64 0, .int .i64 0, .int .i64 0, .string ByteArray.empty], .int .i64 0, .int .u32 0], []⟩).memory :=
  laidMet_of_run' 8 (by kernel_rfl) (by kernel_rfl)
theorem reads (os : Os) {H : Type} (enc : TypeId × Value → H) : ∃ places, DataW.whole enc Tryd.prog ((laidWorld os).forCall (fun _ _ => 0) ⟨#[], #[.string ByteArray.empty, .agg #[.int .i64 0, .int .i64 0, .int .i64 0, .string ByteArray.empty], .int .i64 0, .int .u32 0], []⟩).memory Tryd.f4.params.toList Rows.slotGetsSpec.vars false #[Value.string ByteArray.empty, Value.agg #[.int .i64 0, .int .i64 0, .int .i64 0, .string ByteArray.empty], Value.int .i64 0, Value.int .u32 0].toList 8 = some ([.lit (.string []), .agg [.lit (.int .i64 0), .lit (.int .i64 0), .lit (.int .i64 0), .lit (.string [])], .lit (.int .i64 0), .lit (.int .u32 0)], [], places) :=
  ⟨[], by kernel_rfl⟩

set_option maxRecDepth 100000 in
theorem lifted (os : Os) (started : os.Started) (H : Type) (enc : TypeId × Value → H) (F : Stop.Interp) :
    ReturnsInHanded {} Tryd.checked os 4 .any ((OpenSpec.ofChange Rows.slotGetsSpec).preRow enc Tryd.prog Tryd.f4 Rows.slotGetsRow.domain false Rows.slotGetsRow.laid) (((OpenSpec.ofChange Rows.slotGetsSpec).at F).post enc Tryd.prog Tryd.f4 false true false false) := by
  obtain ⟨places, hx⟩ := reads os enc
  refine returnsInHanded_of_row (C := Tryd.checked) (s := OpenSpec.ofChange Rows.slotGetsSpec) own started (by kernel_rfl) Tryd.func4
    (witness_row_at (enc := enc) (C := Tryd.checked) false (laidWorld os) #[.string ByteArray.empty, .agg #[.int .i64 0, .int .i64 0, .int .i64 0, .string ByteArray.empty], .int .i64 0, .int .u32 0] rfl (by kernel_rfl) (by kernel_rfl) (by kernel_rfl)
      (OpenSpec.preRow_of_cond 8 hx (by kernel_rfl) (fun k hk => by cases hk) (by kernel_rfl) (laid_met os))) ?_
  intro W base args ds gs before hval hW _ _ _ hL _ _
  exact contract H enc W base args ds gs before hval hW hL

theorem said : Rows.SlotGetsSaid :=
  OpenClaim.holds_of_cond 4 Tryd.f4 rfl rfl rfl rfl rfl rfl rfl ⟨rfl, rfl, rfl, rfl, rfl⟩ rfl rfl rfl rfl rfl (by kernel_rfl) Tryd.func4 (by kernel_rfl)
    (of_decide_eq_true (by kernel_rfl)) (by unfold Func.isWrapper; first | (rw [if_pos (by decide +kernel)]; kernel_rfl) | (rw [if_neg (by decide +kernel)]; exact ⟨rfl, rfl⟩))
    (fun os started H enc _ F => by rw [OpenClaim.pre_eq_preRow]; exact lifted os started H enc F)

theorem plain (f : FuncId) (fn : Func) (hf : Tryd.pinned.checked.prog.funcNamed "orchard/orchardlaw04.SlotGets" = some f) (hfn : Tryd.pinned.checked.prog.funcs[f]? = some fn) :
    false = Tryd.pinned.checked.prog.looks [] ∧ ∀ (j : Nat) t, fn.params[j]? = some t → Tryd.pinned.checked.prog.wantsStandIn t = false := by
  obtain rfl : f = 4 := Option.some.inj ((show Tryd.prog.funcNamed "orchard/orchardlaw04.SlotGets" = some 4 by kernel_rfl).symm.trans hf) |>.symm
  obtain rfl : fn = Tryd.f4 := (Option.some.inj (Tryd.func4.symm.trans hfn)).symm
  refine ⟨by kernel_rfl, fun j t ht => ?_⟩
  rw [Tryd.params4] at ht
  have hm := Array.mem_of_getElem? ht
  simp at hm
  rcases hm with rfl | rfl | rfl | rfl
  · exact (show Tryd.prog.wantsStandIn 9 = false by kernel_rfl)
  · exact (show Tryd.prog.wantsStandIn 23 = false by kernel_rfl)
  · exact (show Tryd.prog.wantsStandIn 3 = false by kernel_rfl)
  · exact (show Tryd.prog.wantsStandIn 36 = false by kernel_rfl)

theorem card : Rows.SlotGetsCardSaid :=
  Claim7.holds_tied_plain_at .later [] _ _ _ _ said (fun _ h => by cases h) (by kernel_rfl) (fun _ h => by cases h) slotGets_row_tie rfl ⟨rfl, rfl⟩ (by kernel_rfl) rfl plain (by kernel_rfl)
end Go.Proofs.YtlihphmhgnfgpaaDoor.slotGets
